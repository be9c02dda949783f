/-
  What the calls of lawful and matrix of model's bounds do, and the document's matrix.
-/
import Derived.Test.YtgjpkpmikbpcnaaSmall
namespace Go.Proofs.Ytgjpkpmikbpcnaa
open Go.RowKit

set_option maxRecDepth 100000 in
set_option maxHeartbeats 1600000 in
theorem lawful_any (n d : Int) (w : World) : Calls Try.prog 60 #[.agg #[.int .i64 n, .int .i64 d]] w fun e w' => e = .returned (.bool (upB d 3 && inB n 1 32)) ∧ Below w.heap.size w w' := by
  obtain ⟨b1, h1⟩ : ∃ b, inB d 0 3 = b := ⟨_, rfl⟩
  obtain ⟨b2, h2⟩ : ∃ b, inB n 1 32 = b := ⟨_, rfl⟩
  have H1 := hide h1
  have H2 := hide h2
  rw [← inB_up d 3, h1, h2]
  clear h1 h2
  cases b1
  all_goals
    go_enter Try.func60, Try.ntmps60
    go_wp2_with (go_at_call 88; refine (within_any _ _ _ _).mono ?_; rintro e w' ⟨rfl, rfl⟩; first | rw [H1.out] | rw [H2.out])
    go_ret
    exact ⟨by simp, (Below.refl _ _).alloc (Nat.le_refl _) _⟩
/-- From cell k on. -/
def celF (n : Int) (L : List Int) (k : Nat) : Bool := (List.range' k (L.length - k)).all (fun i => celB n i L[i]!)
theorem celF_all (n : Int) (L : List Int) : (List.range L.length).all (fun i => celB n i L[i]!) = celF n L 0 := by unfold celF; rw [List.range_eq_range', Nat.sub_zero]
theorem celF_step (n : Int) (L : List Int) (k : Nat) (h : k < L.length) : celF n L k = (celB n k L[k]! && celF n L (k + 1)) := by
  unfold celF
  rw [show L.length - k = (L.length - (k + 1)) + 1 by omega, List.range'_succ]
  rfl
theorem celF_end (n : Int) (L : List Int) (k : Nat) (h : ¬ k < L.length) : celF n L k = true := by
  unfold celF
  rw [show L.length - k = 0 by omega]
  rfl
theorem celB_lo {n : Int} {i : Nat} {c : Int} (h : inB c (-1) 32000000 = false) : celB n i c = false := by unfold celB; rw [h]; rfl
theorem celB_off {n : Int} {i : Nat} {c : Int} (h : inB c (-1) 32000000 = true) (k : ¬ (i : Int) / n = (i : Int) % n) : celB n i c = true := by unfold celB; rw [h, dec_no k]; rfl
theorem celB_zero {n : Int} {i : Nat} {c : Int} (h : inB c (-1) 32000000 = true) (k : c = 0) : celB n i c = true := by unfold celB; rw [h, dec_no (show ¬ c ≠ 0 by simpa using k)]; simp
theorem celB_non {n : Int} {i : Nat} {c : Int} (k1 : (i : Int) / n = (i : Int) % n) (k : ¬ c = 0) : celB n i c = false := by unfold celB; rw [dec_yes k1, dec_yes (show c ≠ 0 from k)]; simp
theorem matB_n {n : Int} {m : Mat} (h : ¬ m.n = n) : matB n m = false := by unfold matB; rw [dec_no h]; rfl
theorem matB_l {n : Int} {m : Mat} (h : ¬ (m.cells.length : Int) = n * n) : matB n m = false := by unfold matB; rw [dec_no h]; simp
theorem matB_c {n : Int} {m : Mat} (h : m.n = n) (k : (m.cells.length : Int) = n * n) : matB n m = celF n m.cells 0 := by unfold matB; rw [dec_yes h, dec_yes k, celF_all]; rfl
set_option maxRecDepth 100000 in
set_option maxHeartbeats 3200000 in
theorem matrix_any {w : World} (n d : Int) {x : Value} {m : Mat} (h : IntsV w x m.cells) (hn : 1 ≤ n) (hn2 : n ≤ 32) : Calls Try.prog 61 #[.agg #[.int .i64 n, .int .i64 d], .agg #[.int .i64 m.n, x]] w fun e w' => e = .returned (.bool (matB n m)) ∧ Below w.heap.size w w' := by
  obtain ⟨a, c, rfl, _, hl, hA⟩ := h
  have HA := hide hA
  have HB0 : Hid (∀ A B, Below w.heap.size w ((w.alloc A).alloc B)) := fun A B => ((Below.refl _ _).alloc (Nat.le_refl _) A).alloc (by simp) B
  obtain ⟨mn, L⟩ := m
  simp only at HA hl ⊢
  clear hA
  obtain ⟨m, hm⟩ : ∃ m, L.length = m := ⟨_, rfl⟩
  have HM := hide hm
  rw [hm] at hl ⊢
  obtain ⟨N2, hN⟩ : ∃ N2, n * n = N2 := ⟨_, rfl⟩
  obtain ⟨hN1, hN2⟩ : 1 ≤ N2 ∧ N2 ≤ 1024 := by
    rw [← hN]
    have h1 : n * n ≤ 32 * n := Int.mul_le_mul_of_nonneg_right hn2 (by omega)
    have h2 : 1 * n ≤ n * n := Int.mul_le_mul_of_nonneg_right hn (by omega)
    omega
  by_cases e1 : mn = n
  · subst e1
    have z1 : (mn != mn) = false := by simp
    by_cases e2 : (m : Int) = N2
    · have HM2 := hide (matB_c (n := mn) (m := ⟨mn, L⟩) rfl (by rw [hN, hm]; exact e2))
      have z2 : ((m : Int) != N2) = false := by simp [e2]
      rw [HM2.out]
      simp only
      have i0 : ¬ mn = 0 := by omega
      clear hm
      go_enter Try.func61, Try.ntmps61
      go_wp2
      go_loopw [26] (fun vi wr => ∃ k : Nat, vi = .int .i64 k ∧ k ≤ m ∧ Hid (Below w.heap.size w wr ∧ wr.cell? ⟨w.heap.size + 1, 0, none⟩ = some (.int .i64 mn) ∧ celF mn L 0 = celF mn L k)) (fun vi _ => m - (intOf vi).toNat)
      case atStart => exact ⟨0, rfl, Nat.zero_le _, HB0.out _ _, by simp [go_sem], rfl⟩
      case round =>
        obtain ⟨k, rfl, hk, HR⟩ := hrel
        have cN := HR.out.2.1
        by_cases hlt : k < m
        · obtain ⟨b, off, rfl, c1⟩ := (HA.out.later HR.out.1) k (by rw [HM.out]; exact hlt)
          have HS := hide (HR.out.2.2.trans (celF_step mn L k (by rw [HM.out]; exact hlt)))
          obtain ⟨x, hx⟩ : ∃ x, L[k]! = x := ⟨_, rfl⟩
          rw [hx] at c1 HS
          clear hx
          have i3 : (k : Int) < (m : Int) := by omega
          obtain ⟨b1, h1⟩ : ∃ b, inB x (-1) 32000000 = b := ⟨_, rfl⟩
          have H1 := hide h1
          clear h1
          cases b1 with
          | false =>
            go_wp2_with (go_at_call 88; refine (within_any _ _ _ _).mono ?_; rintro e w' ⟨rfl, rfl⟩; rw [H1.out])
            go_ret
            exact ⟨by rw [HS.out, celB_lo H1.out]; rfl, HR.out.1⟩
          | true =>
            go_wp2_with (go_at_call 88; refine (within_any _ _ _ _).mono ?_; rintro e w' ⟨rfl, rfl⟩; rw [H1.out])
            obtain ⟨Q, hQ⟩ : ∃ Q, Int.tdiv (k : Int) mn = Q := ⟨_, rfl⟩
            obtain ⟨R, hR⟩ : ∃ R, Int.tmod (k : Int) mn = R := ⟨_, rfl⟩
            have HQ : Hid ((k : Int) / mn = Q) := by show _ = _; rw [← hQ, Int.tdiv_eq_ediv_of_nonneg (by omega)]
            have HRR : Hid ((k : Int) % mn = R) := by show _ = _; rw [← hR, Int.tmod_eq_emod_of_nonneg (by omega)]
            have hQ1 : 0 ≤ Q ∧ Q ≤ (k : Int) := by
              rw [← HQ.out]
              exact ⟨Int.ediv_nonneg (by omega) (by omega), Int.ediv_le_self _ (by omega)⟩
            have hwQ : IntKind.i64.wrap Q = Q := by rw [IntKind.wrap]; simp [IntKind.signed, IntKind.bits]; omega
            by_cases e3 : Q = R
            · have z3 : (Q == R) = true := by simp [e3]
              by_cases e4 : x = 0
              · have z4 : (x != 0) = false := by simp [e4]
                go_quiet (fail)
                go_wp2
                go_roundw
                case rel => exact ⟨k + 1, by go_num, by omega, below_drewN HR.out.1 _, by simpa using HR.out.2.1, by rw [HS.out, celB_zero H1.out e4]; rfl⟩
                case measure => simp [intOf]; omega
              · have z4 : (x != 0) = true := by simp [e4]
                go_quiet (fail)
                go_wp2
                go_ret
                exact ⟨by rw [HS.out, celB_non (by rw [HQ.out, HRR.out]; exact e3) e4]; rfl, below_drewN HR.out.1 _⟩
            · have z3 : (Q == R) = false := by simp [e3]
              go_quiet (fail)
              go_wp2
              go_roundw
              case rel => exact ⟨k + 1, by go_num, by omega, below_drewN HR.out.1 _, by simpa using HR.out.2.1, by rw [HS.out, celB_off H1.out (by rw [HQ.out, HRR.out]; exact e3)]; rfl⟩
              case measure => simp [intOf]; omega
        · have E := hide (HR.out.2.2.trans (celF_end mn L k (by rw [HM.out]; exact hlt)))
          have i3 : ¬ (k : Int) < (m : Int) := by omega
          go_wp2
          go_ret
          exact ⟨by rw [E.out]; rfl, HR.out.1⟩
    · have HM2 := hide (matB_l (n := mn) (m := ⟨mn, L⟩) (by rw [hN, hm]; exact e2))
      have z2 : ((m : Int) != N2) = true := by simp [e2]
      rw [HM2.out]
      clear hm
      go_enter Try.func61, Try.ntmps61
      go_wp2
      go_ret
      exact ⟨rfl, HB0.out _ _⟩
  · have HM2 := hide (matB_n (n := n) (m := ⟨mn, L⟩) e1)
    have z1 : (mn != n) = true := by simp [e1]
    rw [HM2.out]
    clear hm
    go_enter Try.func61, Try.ntmps61
    go_wp2
    go_ret
    exact ⟨rfl, HB0.out _ _⟩
end Go.Proofs.Ytgjpkpmikbpcnaa
