/-
  What the calls of rest, all breaks, vehicle, job and shipment do.
-/
import Derived.Test.YtgjpkpmikbpcnaaSmall
namespace Go.Proofs.Ytgjpkpmikbpcnaa
open Go.RowKit

set_option maxRecDepth 100000 in
set_option maxHeartbeats 3200000 in
theorem rest_any {w : World} {x : Value} {b : Brk} (h : WinsV w x b.wins) : Calls Try.prog 95 #[.agg #[x, .int .i64 b.serv]] w fun e w' => e = .returned (.bool (brkB b)) ∧ Below w.heap.size w w' := by
  have HA := hide h
  have HB0 : Hid (∀ A, Below w.heap.size w (w.alloc A)) := fun A => (Below.refl _ _).alloc (Nat.le_refl _) A
  unfold brkB
  obtain ⟨s3, s2⟩ := b
  simp only at HA ⊢
  clear h
  obtain ⟨b2, h2⟩ : ∃ b, upB s2 1000000 = b := ⟨_, rfl⟩
  obtain ⟨b3, h3⟩ : ∃ b, winB s3 = b := ⟨_, rfl⟩
  have H2 := hide h2
  have H3 := hide h3
  rw [h2, h3]
  clear h2 h3
  cases b3
  all_goals
    go_enter Try.func95, Try.ntmps95
    go_wp2_with (first
      | (go_at_call 93; refine (number_any _ _).mono ?_; rintro e w' ⟨rfl, rfl⟩; rw [H2.out])
      | (go_at_call 92; refine (open_any (HA.out.on (HB0.out _))).mono ?_; rintro e w1 ⟨rfl, k1⟩; rw [H3.out]; obtain ⟨hc1, hf1⟩ := bcell k1; have K1 := hide k1; clear k1))
    go_ret
    exact ⟨by simp, below_on (HB0.out _) K1.out⟩
set_option maxRecDepth 100000 in
set_option maxHeartbeats 3200000 in
theorem all_brks {w : World} {v : Value} {L : List Brk} (h : BrksV w v L) : Calls Try.prog 94 #[v, .func (.func 95) #[] #[]] w fun e w' => e = .returned (.bool (L.all brkB)) ∧ Below w.heap.size w w' := by
  have HA := hide h
  obtain ⟨a, c, rfl, _, hl, _⟩ := h
  obtain ⟨m, hm⟩ : ∃ m, L.length = m := ⟨_, rfl⟩
  have HM := hide hm
  rw [hm] at hl HA ⊢
  clear hm
  obtain ⟨B, hB⟩ : ∃ B, w.heap.size = B := ⟨_, rfl⟩
  have HB := hide hB
  rw [hB]
  clear hB
  go_enter Try.func94, Try.ntmps94
  go_wp2
  go_loopw [9] (fun vi wr => ∃ k : Nat, vi = .int .i64 k ∧ k ≤ m ∧ Hid (Below B w wr ∧ B ≤ wr.heap.size ∧ L.all brkB = (L.drop k).all brkB)) (fun vi _ => m - (intOf vi).toNat)
  case atStart => exact ⟨0, rfl, Nat.zero_le _, by rw [← HB.out]; exact Below.refl _ _, by rw [← HB.out]; exact Nat.le_refl _, by rw [List.drop_zero]⟩
  case round =>
    obtain ⟨k, rfl, hk, HR⟩ := hrel
    by_cases hlt : k < m
    · have HAr := hide (BrksV.on HA.out (by have := HR.out.1; rw [← HB.out] at this; exact this))
      obtain ⟨a', c', e', _, _, hcell⟩ := HAr.out
      obtain ⟨b, off, l, rfl, hll, hcs, hv⟩ := hcell k (by rw [HM.out]; exact hlt)
      injection e' with e1 e2 e3
      clear e2 e3 hcell
      subst e1
      obtain ⟨x, hx⟩ : ∃ x, L.getD k bz = x := ⟨_, rfl⟩
      have HS := hide (HR.out.2.2.trans (all_step brkB bz L k (by rw [HM.out]; exact hlt)))
      rw [hx] at hv HS
      clear hx
      obtain ⟨xw, rfl, hx⟩ := hv
      obtain ⟨xa, xc, rfl⟩ := hx.shape
      have HX := hide hx
      clear hx
      have i3 : (k : Int) < (m : Int) := by omega
      obtain ⟨bb, hbb⟩ : ∃ bb, brkB x = bb := ⟨_, rfl⟩
      have HBB := hide hbb
      rw [hbb] at HS
      clear hbb
      have c0 : wr.cell? ⟨b, off + k * 2, none⟩ = some (.slice xa x.wins.length xc) := hcs 0 (by decide)
      have c1 : wr.cell? ⟨b, off + k * 2 + 1, none⟩ = some (.int .i64 x.serv) := hcs 1 (by decide)
      clear hcs hll
      have HE0 : Hid (∀ o, Below wr.heap.size wr (wr.alloc o)) := fun o => (Below.refl _ _).alloc (Nat.le_refl _) o
      cases bb with
      | true =>
        go_wp2_with (first
          | (go_at_call 95; refine (rest_any (HX.out.on (HE0.out _))).mono ?_; rintro e w1 ⟨rfl, k1⟩; rw [HBB.out]; have K1 := hide (below_on (HE0.out _) k1); clear k1))
        go_roundw
        case rel => exact ⟨k + 1, by go_num, by omega, HR.out.1.trans (K1.out.mono HR.out.2.1), Nat.le_trans HR.out.2.1 K1.out.size, by rw [HS.out]; simp⟩
        case measure => simp [intOf]; omega
      | false =>
        go_wp2_with (first
          | (go_at_call 95; refine (rest_any (HX.out.on (HE0.out _))).mono ?_; rintro e w1 ⟨rfl, k1⟩; rw [HBB.out]; have K1 := hide (below_on (HE0.out _) k1); clear k1))
        go_ret
        exact ⟨by rw [HS.out]; simp, HR.out.1.trans (K1.out.mono HR.out.2.1)⟩
    · have E := hide (HR.out.2.2.trans (all_end brkB L k (by rw [HM.out]; exact hlt)))
      have i3 : ¬ (k : Int) < (m : Int) := by omega
      go_wp2
      go_ret
      exact ⟨by rw [E.out]; rfl, HR.out.1⟩
end Go.Proofs.Ytgjpkpmikbpcnaa
