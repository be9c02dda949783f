/-
  Several texts in one: CCel CSty.
-/
import Derived.Deep.RegionHeld3
import Derived.Test.YtndbikoccdjafaaACRMat
import Derived.Test.YtndbikoccdjafaaACStpAG
import Derived.Test.YtndbikoccdjafaaACHWalk
namespace Go.Proofs.Ytndbikoccdjafaa
open Go.RowKit
def cellM (m : Mat) (f t : Int) : Int := if (upB f (m.n - 1) && upB t (m.n - 1)) = true then m.cells[(f * m.n + t).toNat]! else -1
/-- As many cells as there must be. -/
def SqM (m : Mat) : Prop := 1 ≤ m.n ∧ m.n ≤ 32 ∧ (m.cells.length : Int) = m.n * m.n
theorem sq_of_mat {n : Int} {m : Mat} (h : matB n m = true) (h1 : 1 ≤ n) (h2 : n ≤ 32) : SqM m := by
  unfold matB at h
  simp only [Bool.and_eq_true, decide_eq_true_eq] at h
  obtain ⟨⟨rfl, h4⟩, _⟩ := h
  exact ⟨h1, h2, h4⟩
set_option maxRecDepth 100000 in
set_option maxHeartbeats 3200000 in
theorem cell_any {w : World} {x : Value} {m : Mat} (h : IntsV w x m.cells) (hm : SqM m) (f t : Int) : Calls Try.prog 60 #[.agg #[.int .i64 m.n, x], .int .i64 f, .int .i64 t] w fun e w' => e = .returned (.int .i64 (cellM m f t)) ∧ Below w.heap.size w w' := by
  obtain ⟨a, c, rfl, _, hl, hA⟩ := h
  have HA := hide hA
  have HB0 : Hid (∀ A, Below w.heap.size w (w.alloc A)) := fun A => (Below.refl _ _).alloc (Nat.le_refl _) A
  obtain ⟨n, L⟩ := m
  obtain ⟨hn1, hn2, hn3⟩ := hm
  simp only at hn1 hn2 hn3 HA hl ⊢
  clear hA
  obtain ⟨nn, rfl⟩ : ∃ nn : Nat, n = (nn : Int) := ⟨n.toNat, by omega⟩
  obtain ⟨ll, hll⟩ : ∃ k, L.length = k := ⟨_, rfl⟩
  have HLL := hide hll
  rw [hll] at hn3 hl ⊢
  obtain ⟨N2, hN⟩ : ∃ N2 : Nat, nn * nn = N2 := ⟨_, rfl⟩
  have HNN := hide hN
  have hl2 : ll = N2 := by rw [← hN]; exact Int.ofNat_inj.1 (by rw [hn3]; simp)
  subst hl2
  have hN1 : ll ≤ 1024 := by rw [← hN]; exact (Nat.mul_le_mul (show nn ≤ 32 by omega) (show nn ≤ 32 by omega) : nn * nn ≤ 32 * 32)
  clear hN hn3 hll
  obtain ⟨b1, h1⟩ : ∃ b, upB f ((nn : Int) - 1) = b := ⟨_, rfl⟩
  obtain ⟨b2, h2⟩ : ∃ b, upB t ((nn : Int) - 1) = b := ⟨_, rfl⟩
  have H1 := hide h1
  have H2 := hide h2
  unfold cellM
  simp only
  rw [h1, h2]
  clear h1 h2
  cases b1 with
  | false =>
    go_enter Try.func60, Try.ntmps60
    go_wp2_with (go_at_call 90; refine (below_any _ _ _).mono ?_; rintro e w' ⟨rfl, rfl⟩; rw [H1.out])
    go_ret
    exact ⟨by simp, HB0.out _⟩
  | true =>
    cases b2 with
    | false =>
      go_enter Try.func60, Try.ntmps60
      go_wp2_with (go_at_call 90; refine (below_any _ _ _).mono ?_; rintro e w' ⟨rfl, rfl⟩; first | rw [H1.out] | rw [H2.out])
      go_ret
      exact ⟨by simp, HB0.out _⟩
    | true =>
      obtain ⟨k1, k2⟩ := upB_iff.1 H1.out
      obtain ⟨k3, k4⟩ := upB_iff.1 H2.out
      obtain ⟨i, rfl⟩ : ∃ i : Nat, f = (i : Int) := ⟨f.toNat, by omega⟩
      obtain ⟨k, rfl⟩ : ∃ i : Nat, t = (i : Int) := ⟨t.toNat, by omega⟩
      have hlt : i < nn := by omega
      have hkt : k < nn := by omega
      obtain ⟨P, hP⟩ : ∃ P : Nat, i * nn = P := ⟨_, rfl⟩
      have hPi : (i : Int) * (nn : Int) = (P : Int) := by rw [← hP]; simp
      have hPP : P + nn ≤ ll := by rw [← hP, ← HNN.out]; exact mul_lt' hlt
      have HJ : Hid (P + k < L.length) := by show _ < _; have := HLL.out; omega
      obtain ⟨b, off, rfl, c1⟩ := (HA.out.alloc (.cells #[.int .i64 nn, .slice a ll c] 24)) (P + k) HJ.out
      have hD : (ll : Int) / (nn : Int) = (nn : Int) := by
        have := HNN.out
        rw [← this]
        simp only [Int.natCast_mul]
        exact Int.mul_ediv_cancel _ (by omega)
      have hD2 : Int.tdiv (ll : Int) (nn : Int) = (nn : Int) := by rw [Int.tdiv_eq_ediv_of_nonneg (by omega)]; exact hD
      have i5 : (P : Int) + (k : Int) < (ll : Int) := by omega
      have i6 : ¬ (ll : Int) ≤ (P : Int) + (k : Int) := by omega
      have i7 : ¬ (nn : Int) < (i : Int) := by omega
      have i8 : P + k < ll := by omega
      have E : Hid (((i : Int) * (nn : Int) + (k : Int)).toNat = P + k) := by show _ = _; rw [hPi]; omega
      rw [E.out]
      generalize L[P + k]! = z at c1
      clear hP k1 k2 k3 k4
      go_enter Try.func60, Try.ntmps60
      go_wp2_with (go_at_call 90; refine (below_any _ _ _).mono ?_; rintro e w' ⟨rfl, rfl⟩; first | rw [H1.out] | rw [H2.out])
      go_ret
      exact ⟨by simp, HB0.out _⟩
set_option maxRecDepth 100000 in
set_option maxHeartbeats 3200000 in
theorem rcell_any {w : World} {x : Value} {m : Mat} (h : IntsV w x m.cells) (hm : SqM m) (f t : Int) : Calls Try.prog 40 #[.agg #[.int .i64 m.n, x], .int .i64 f, .int .i64 t] w fun e w' => e = .returned (.int .i64 (cellM m f t)) ∧ Below w.heap.size w w' := by
  obtain ⟨a, c, rfl, _, hl, hA⟩ := h
  have HA := hide hA
  have HB0 : Hid (∀ A, Below w.heap.size w (w.alloc A)) := fun A => (Below.refl _ _).alloc (Nat.le_refl _) A
  obtain ⟨n, L⟩ := m
  obtain ⟨hn1, hn2, hn3⟩ := hm
  simp only at hn1 hn2 hn3 HA hl ⊢
  clear hA
  obtain ⟨nn, rfl⟩ : ∃ nn : Nat, n = (nn : Int) := ⟨n.toNat, by omega⟩
  obtain ⟨ll, hll⟩ : ∃ k, L.length = k := ⟨_, rfl⟩
  have HLL := hide hll
  rw [hll] at hn3 hl ⊢
  obtain ⟨N2, hN⟩ : ∃ N2 : Nat, nn * nn = N2 := ⟨_, rfl⟩
  have HNN := hide hN
  have hl2 : ll = N2 := by rw [← hN]; exact Int.ofNat_inj.1 (by rw [hn3]; simp)
  subst hl2
  have hN1 : ll ≤ 1024 := by rw [← hN]; exact (Nat.mul_le_mul (show nn ≤ 32 by omega) (show nn ≤ 32 by omega) : nn * nn ≤ 32 * 32)
  clear hN hn3 hll
  obtain ⟨b1, h1⟩ : ∃ b, upB f ((nn : Int) - 1) = b := ⟨_, rfl⟩
  obtain ⟨b2, h2⟩ : ∃ b, upB t ((nn : Int) - 1) = b := ⟨_, rfl⟩
  have H1 := hide h1
  have H2 := hide h2
  unfold cellM
  simp only
  rw [h1, h2]
  clear h1 h2
  cases b1 with
  | false =>
    go_enter Try.func40, Try.ntmps40
    go_wp2_with (go_at_call 63; refine (up_any _ _ _).mono ?_; rintro e w' ⟨rfl, rfl⟩; rw [H1.out])
    go_ret
    exact ⟨by simp, HB0.out _⟩
  | true =>
    cases b2 with
    | false =>
      go_enter Try.func40, Try.ntmps40
      go_wp2_with (go_at_call 63; refine (up_any _ _ _).mono ?_; rintro e w' ⟨rfl, rfl⟩; first | rw [H1.out] | rw [H2.out])
      go_ret
      exact ⟨by simp, HB0.out _⟩
    | true =>
      obtain ⟨k1, k2⟩ := upB_iff.1 H1.out
      obtain ⟨k3, k4⟩ := upB_iff.1 H2.out
      obtain ⟨i, rfl⟩ : ∃ i : Nat, f = (i : Int) := ⟨f.toNat, by omega⟩
      obtain ⟨k, rfl⟩ : ∃ i : Nat, t = (i : Int) := ⟨t.toNat, by omega⟩
      have hlt : i < nn := by omega
      have hkt : k < nn := by omega
      obtain ⟨P, hP⟩ : ∃ P : Nat, i * nn = P := ⟨_, rfl⟩
      have hPi : (i : Int) * (nn : Int) = (P : Int) := by rw [← hP]; simp
      have hPP : P + nn ≤ ll := by rw [← hP, ← HNN.out]; exact mul_lt' hlt
      have HJ : Hid (P + k < L.length) := by show _ < _; have := HLL.out; omega
      obtain ⟨b, off, rfl, c1⟩ := (HA.out.alloc (.cells #[.int .i64 nn, .slice a ll c] 24)) (P + k) HJ.out
      have i5 : (P : Int) + (k : Int) < (ll : Int) := by omega
      have i8 : P + k < ll := by omega
      have E : Hid (((i : Int) * (nn : Int) + (k : Int)).toNat = P + k) := by show _ = _; rw [hPi]; omega
      rw [E.out]
      generalize L[P + k]! = z at c1
      clear hP k1 k2 k3 k4
      go_enter Try.func40, Try.ntmps40
      go_wp2_with (go_at_call 63; refine (up_any _ _ _).mono ?_; rintro e w' ⟨rfl, rfl⟩; first | rw [H1.out] | rw [H2.out])
      go_ret
      exact ⟨by simp, HB0.out _⟩
end Go.Proofs.Ytndbikoccdjafaa
namespace Go.Proofs.Ytndbikoccdjafaa
open Go.RowKit
theorem hr_wins {w : World} {a : Option Addr} {m : Nat} {L : List Win} (h : WinsAt w a m L) : Hr.WinsAt w a m L := ⟨h.len, h.max, h.cell⟩
end Go.Proofs.Ytndbikoccdjafaa
