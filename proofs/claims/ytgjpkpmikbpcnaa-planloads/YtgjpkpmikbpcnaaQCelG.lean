/-
  Several texts in one: Cel Sty.
-/
import Derived.Deep.RegionHeld3
import Derived.Test.YtgjpkpmikbpcnaaQStpAG
namespace Go.Proofs.Ytgjpkpmikbpcnaa
open Go.RowKit
def cellM (m : Mat) (f t : Int) : Int := if (upB f (m.n - 1) && upB t (m.n - 1)) = true then m.cells[(f * m.n + t).toNat]! else -1
/-- As many cells as there must be. -/
def SqM (m : Mat) : Prop := 1 ≤ m.n ∧ m.n ≤ 32 ∧ (m.cells.length : Int) = m.n * m.n
theorem sq_of_mat {n : Int} {m : Mat} (h : matB n m = true) (h1 : 1 ≤ n) (h2 : n ≤ 32) : SqM m := by
  unfold matB at h
  simp only [Bool.and_eq_true, decide_eq_true_eq] at h
  obtain ⟨⟨rfl, h4⟩, _⟩ := h
  exact ⟨h1, h2, h4⟩
set_option maxRecDepth 100000 in
set_option maxHeartbeats 3200000 in
theorem cell_any {w : World} {x : Value} {m : Mat} (h : IntsV w x m.cells) (hm : SqM m) (f t : Int) : Calls Try.prog 51 #[.agg #[.int .i64 m.n, x], .int .i64 f, .int .i64 t] w fun e w' => e = .returned (.int .i64 (cellM m f t)) ∧ Below w.heap.size w w' := by
  obtain ⟨a, c, rfl, _, hl, hA⟩ := h
  have HA := hide hA
  have HB0 : Hid (∀ A, Below w.heap.size w (w.alloc A)) := fun A => (Below.refl _ _).alloc (Nat.le_refl _) A
  obtain ⟨n, L⟩ := m
  obtain ⟨hn1, hn2, hn3⟩ := hm
  simp only at hn1 hn2 hn3 HA hl ⊢
  clear hA
  obtain ⟨nn, rfl⟩ : ∃ nn : Nat, n = (nn : Int) := ⟨n.toNat, by omega⟩
  obtain ⟨ll, hll⟩ : ∃ k, L.length = k := ⟨_, rfl⟩
  have HLL := hide hll
  rw [hll] at hn3 hl ⊢
  obtain ⟨N2, hN⟩ : ∃ N2 : Nat, nn * nn = N2 := ⟨_, rfl⟩
  have HNN := hide hN
  have hl2 : ll = N2 := by rw [← hN]; exact Int.ofNat_inj.1 (by rw [hn3]; simp)
  subst hl2
  have hN1 : ll ≤ 1024 := by rw [← hN]; exact (Nat.mul_le_mul (show nn ≤ 32 by omega) (show nn ≤ 32 by omega) : nn * nn ≤ 32 * 32)
  clear hN hn3 hll
  obtain ⟨b1, h1⟩ : ∃ b, upB f ((nn : Int) - 1) = b := ⟨_, rfl⟩
  obtain ⟨b2, h2⟩ : ∃ b, upB t ((nn : Int) - 1) = b := ⟨_, rfl⟩
  have H1 := hide h1
  have H2 := hide h2
  unfold cellM
  simp only
  rw [h1, h2]
  clear h1 h2
  cases b1 with
  | false =>
    go_enter Try.func51, Try.ntmps51
    go_wp2_with (go_at_call 58; refine (below_any _ _ _).mono ?_; rintro e w' ⟨rfl, rfl⟩; rw [H1.out])
    go_ret
    exact ⟨by simp, HB0.out _⟩
  | true =>
    cases b2 with
    | false =>
      go_enter Try.func51, Try.ntmps51
      go_wp2_with (go_at_call 58; refine (below_any _ _ _).mono ?_; rintro e w' ⟨rfl, rfl⟩; first | rw [H1.out] | rw [H2.out])
      go_ret
      exact ⟨by simp, HB0.out _⟩
    | true =>
      obtain ⟨k1, k2⟩ := upB_iff.1 H1.out
      obtain ⟨k3, k4⟩ := upB_iff.1 H2.out
      obtain ⟨i, rfl⟩ : ∃ i : Nat, f = (i : Int) := ⟨f.toNat, by omega⟩
      obtain ⟨k, rfl⟩ : ∃ i : Nat, t = (i : Int) := ⟨t.toNat, by omega⟩
      have hlt : i < nn := by omega
      have hkt : k < nn := by omega
      obtain ⟨P, hP⟩ : ∃ P : Nat, i * nn = P := ⟨_, rfl⟩
      have hPi : (i : Int) * (nn : Int) = (P : Int) := by rw [← hP]; simp
      have hPP : P + nn ≤ ll := by rw [← hP, ← HNN.out]; exact mul_lt' hlt
      have HJ : Hid (P + k < L.length) := by show _ < _; have := HLL.out; omega
      obtain ⟨b, off, rfl, c1⟩ := (HA.out.alloc (.cells #[.int .i64 nn, .slice a ll c] 24)) (P + k) HJ.out
      have hD : (ll : Int) / (nn : Int) = (nn : Int) := by
        have := HNN.out
        rw [← this]
        simp only [Int.natCast_mul]
        exact Int.mul_ediv_cancel _ (by omega)
      have hD2 : Int.tdiv (ll : Int) (nn : Int) = (nn : Int) := by rw [Int.tdiv_eq_ediv_of_nonneg (by omega)]; exact hD
      have i5 : (P : Int) + (k : Int) < (ll : Int) := by omega
      have i6 : ¬ (ll : Int) ≤ (P : Int) + (k : Int) := by omega
      have i7 : ¬ (nn : Int) < (i : Int) := by omega
      have i8 : P + k < ll := by omega
      have E : Hid (((i : Int) * (nn : Int) + (k : Int)).toNat = P + k) := by show _ = _; rw [hPi]; omega
      rw [E.out]
      generalize L[P + k]! = z at c1
      clear hP k1 k2 k3 k4
      go_enter Try.func51, Try.ntmps51
      go_wp2_with (go_at_call 58; refine (below_any _ _ _).mono ?_; rintro e w' ⟨rfl, rfl⟩; first | rw [H1.out] | rw [H2.out])
      go_ret
      exact ⟨by simp, HB0.out _⟩
end Go.Proofs.Ytgjpkpmikbpcnaa
namespace Go.Proofs.Ytgjpkpmikbpcnaa
open Go.RowKit
theorem hr_wins {w : World} {a : Option Addr} {m : Nat} {L : List Win} (h : WinsAt w a m L) : Hr.WinsAt w a m L := ⟨h.len, h.max, h.cell⟩
set_option maxRecDepth 100000 in
set_option maxHeartbeats 3200000 in
theorem stay_any {w : World} {y : Value} {L : List Win} (pl sv t : Int) (h : WinsV w y L) (hb : -1000000000000000 ≤ (Hr.startM t L).1 + sv) (hb2 : (Hr.startM t L).1 + sv ≤ 1000000000000000) : Calls Try.prog 108 #[.agg #[.int .i64 pl, .int .i64 sv, y], .int .i64 t] w fun e w' => e = .returned (.tuple #[.int .i64 (Hr.startM t L).1, .int .i64 ((Hr.startM t L).1 + sv), .bool (Hr.startM t L).2]) ∧ Below w.heap.size w w' := by
  obtain ⟨a, c, rfl, _, hA⟩ := h
  have HA := hide hA
  have HB0 : Hid (∀ A, Below w.heap.size w (w.alloc A)) := fun A => (Below.refl _ _).alloc (Nat.le_refl _) A
  obtain ⟨m, hm⟩ : ∃ m, L.length = m := ⟨_, rfl⟩
  rw [hm] at HA ⊢
  obtain ⟨s, b, hs⟩ : ∃ s b, Hr.startM t L = (s, b) := ⟨_, _, rfl⟩
  rw [hs] at hb hb2 ⊢
  simp only at hb hb2 ⊢
  have HS := hide hs
  clear hA hm hs
  have hw : IntKind.i64.wrap (s + sv) = s + sv := by rw [IntKind.wrap_i64]; omega
  clear hb hb2
  go_enter Try.func108, Try.ntmps108
  go_wp2_with (first | (go_at_call 127; refine (Hr.start_any (c := c) t (hr_wins (HA.out.on (HB0.out _)))).mono ?_; rintro e w1 ⟨rfl, k1⟩; rw [HS.out]; have B1 := hide k1; have c1 : w1.cell? ⟨w.heap.size, 1, none⟩ = some (.int .i64 sv) := ((bcell k1).1 _ 1 (by simp)).trans (by simp [go_sem]); clear k1) | fail)
  go_quiet (fail)
  go_wp2
  refine bodyPost_ret (v := .tuple #[.int .i64 s, .int .i64 (s + sv), .bool b]) ?_ rfl ⟨rfl, below_drewN (below_on (HB0.out _) B1.out) _⟩
  simp [results, Try.results108, go_sem]
set_option maxRecDepth 100000 in
set_option maxHeartbeats 3200000 in
theorem restS_any (w : World) (sv : Int) (a : Option Addr) (m c : Nat) : Calls Try.prog 112 #[.agg #[.slice a m c, .int .i64 sv]] w fun e w' => e = .returned (.agg #[.int .i64 0, .int .i64 sv, .slice a m c]) ∧ Below w.heap.size w w' := by
  have HB0 : Hid (∀ A B, Below w.heap.size w ((w.alloc A).alloc B)) := fun A B => ((Below.refl _ _).alloc (Nat.le_refl _) A).alloc (by simp) B
  go_enter Try.func112, Try.ntmps112
  go_wp2
  refine bodyPost_ret (v := .agg #[.int .i64 0, .int .i64 sv, .slice a m c]) ?_ rfl ⟨rfl, (by repeat (first | exact HB0.out _ _ | (refine Below.setCell ?_ (by simp) _) | refine Below.drew ?_))⟩
  simp [results, Try.results112, go_sem]
/-- Stops in memory. -/
def StpsV (w : World) (v : Value) (L : List Stp) : Prop := SlV 3 40 sz StpV w v L
theorem stp_cells {w : World} {v : Value} {L : List Stp} {k : Nat} (h : StpsV w v L) (hk : k < L.length) : ∃ b off c y, v = .slice (some ⟨b, off, none⟩) L.length c ∧ b < w.heap.size ∧ (∀ j, j < 3 → w.cell? ⟨b, off + k * 3 + j, none⟩ = (stpE (L.getD k sz) y)[j]?) ∧ WinsV w y (L.getD k sz).wins := by
  obtain ⟨a, c, rfl, _, _, hc⟩ := h
  obtain ⟨b, off, l, rfl, hl, hcs, y, rfl, q1⟩ := hc k hk
  have h0 : w.cell? ⟨b, off + k * 3 + 0, none⟩ = some _ := hcs 0 (by decide)
  exact ⟨b, off, c, y, rfl, block_lt_of_cell h0, hcs, q1⟩
set_option maxRecDepth 100000 in
set_option maxHeartbeats 3200000 in
theorem travel_zero {w : World} {x v : Value} (n : Int) (hx : ∃ a m c, x = .slice a m c) : Calls Try.prog 107 #[.agg #[.int .i64 n, x], v, .int .i64 0] w fun e w' => e = .returned (.int .i64 0) ∧ Below w.heap.size w w' := by
  obtain ⟨a, m, c, rfl⟩ := hx
  have HB0 : Hid (∀ A, Below w.heap.size w (w.alloc A)) := fun A => (Below.refl _ _).alloc (Nat.le_refl _) A
  go_enter Try.func107, Try.ntmps107
  go_wp2
  go_ret
  exact ⟨rfl, HB0.out _⟩
set_option maxRecDepth 100000 in
set_option maxHeartbeats 3200000 in
theorem travel_any {w : World} {x v : Value} {m : Mat} {L : List Stp} {i : Nat} (hx : IntsV w x m.cells) (hm : SqM m) (hv : StpsV w v L) (hi : i + 1 < L.length) : Calls Try.prog 107 #[.agg #[.int .i64 m.n, x], v, .int .i64 ((i : Int) + 1)] w fun e w' => e = .returned (.int .i64 (cellM m (L.getD i sz).place (L.getD (i + 1) sz).place)) ∧ Below w.heap.size w w' := by
  have hbd := SlV.bound hv
  obtain ⟨b, off, c, y, rfl, hb, hcs, _⟩ := stp_cells hv (show i < L.length by omega)
  obtain ⟨b', off', c', y', e, _, hcs', _⟩ := stp_cells hv hi
  injection e with e1 _ e3
  injection e1 with e1
  injection e1 with e1 e2 _
  subst e1 e2 e3
  have c0 : w.cell? ⟨b, off + i * 3, none⟩ = some (.int .i64 (L.getD i sz).place) := hcs 0 (by decide)
  have c1 : w.cell? ⟨b, off + (i + 1) * 3, none⟩ = some (.int .i64 (L.getD (i + 1) sz).place) := hcs' 0 (by decide)
  obtain ⟨p0, h0⟩ : ∃ z, (L.getD i sz).place = z := ⟨_, rfl⟩
  obtain ⟨p1, h1⟩ : ∃ z, (L.getD (i + 1) sz).place = z := ⟨_, rfl⟩
  obtain ⟨ln, hln⟩ : ∃ q, L.length = q := ⟨_, rfl⟩
  rw [h0] at c0 ⊢
  rw [h1] at c1 ⊢
  rw [hln] at hi hbd ⊢
  obtain ⟨xa, xc, rfl⟩ := hx.shape
  have HX := hide hx
  have HB0 : Hid (∀ A, Below w.heap.size w (w.alloc A)) := fun A => (Below.refl _ _).alloc (Nat.le_refl _) A
  obtain ⟨z, hz⟩ : ∃ z, cellM m p0 p1 = z := ⟨_, rfl⟩
  rw [hz]
  have HZ := hide hz
  have hne : ¬ b = w.heap.size := by omega
  have y0 : ((i : Int) + 1 == 0) = false := by simp; omega
  have i1 : (0 : Int) ≤ (i : Int) := by omega
  have i2 : (i : Int) < (ln : Int) := by omega
  have i3 : (i : Int) + 1 < (ln : Int) := by omega
  have i4 : (0 : Int) ≤ (i : Int) + 1 := by omega
  have i5 : ¬ (ln : Int) ≤ (i : Int) := by omega
  have i6 : ¬ (ln : Int) ≤ (i : Int) + 1 := by omega
  have i7 : (i : Int) + 1 - 1 = (i : Int) := by omega
  have i8 : IntKind.i64.wrap (i : Int) = (i : Int) := by rw [IntKind.wrap_i64]; omega
  clear h0 h1 hln hz hx hv hcs hcs'
  obtain ⟨W, hW⟩ : ∃ W, W = w.alloc (.cells #[.int .i64 m.n, .slice xa m.cells.length xc] 24) := ⟨_, rfl⟩
  have HBW : Hid (Below w.heap.size w W) := by rw [hW]; exact HB0.out _
  have d0 : W.cell? ⟨b, off + i * 3, none⟩ = some (.int .i64 p0) := ((bcell HBW.out).1 _ _ hb).trans c0
  have d1 : W.cell? ⟨b, off + (i + 1) * 3, none⟩ = some (.int .i64 p1) := ((bcell HBW.out).1 _ _ hb).trans c1
  have d2 : W.cell? ⟨w.heap.size, 0, none⟩ = some (.int .i64 m.n) := by rw [hW]; simp [go_sem]
  have d3 : W.cell? ⟨w.heap.size, 1, none⟩ = some (.slice xa m.cells.length xc) := by rw [hW]; simp [go_sem]
  have HL2 : Hid (w.heap.size < W.heap.size) := by show _ < _; rw [hW]; simp
  go_enter Try.func107, Try.ntmps107
  go_wp2
  rw [← hW]
  clear hW c0 c1
  first | (go_region_held3 (fun w' => w'.cell? ⟨b, off + i * 3, none⟩ = some (.int .i64 p0) ∧ w'.cell? ⟨b, off + (i + 1) * 3, none⟩ = some (.int .i64 p1) ∧ w'.cell? ⟨w.heap.size, 0, none⟩ = some (.int .i64 m.n) ∧ w'.cell? ⟨w.heap.size, 1, none⟩ = some (.slice xa m.cells.length xc)) (go_keep) (first | (go_at_call 51; refine (cell_any (HX.out.on (below_on HBW.out ((Below.refl _ _).drew))) hm _ _).mono ?_; rintro e w1 ⟨rfl, k1⟩; rw [HZ.out]; have B1 := hide (below_on ((Below.refl _ _).drew) k1); have f0 := ((bcell B1.out).1 b (off + i * 3) (by have := HL2.out; omega)).trans d0; have f1 := ((bcell B1.out).1 b (off + (i + 1) * 3) (by have := HL2.out; omega)).trans d1; have f2 := ((bcell B1.out).1 w.heap.size 0 HL2.out).trans d2; have f3 := ((bcell B1.out).1 w.heap.size 1 HL2.out).trans d3; clear k1) | fail)) | fail
  rename_i hHeld
  clear hHeld
  go_wp2
  go_ret
  exact ⟨rfl, below_on HBW.out B1.out⟩
end Go.Proofs.Ytgjpkpmikbpcnaa
