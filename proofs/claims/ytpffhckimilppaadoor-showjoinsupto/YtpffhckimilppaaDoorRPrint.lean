/-
  What the document's Print does: the same as Print.
-/
import Derived.Test.YtpffhckimilppaaDoorRWri
import Derived.Test.YtpffhckimilppaaDoorRChk
namespace Go.Proofs.YtpffhckimilppaaDoor
open Go.RowKit
set_option maxRecDepth 100000
set_option maxHeartbeats 1600000 in
theorem rprint_any {T : List VI} {v : Value} {w : World} (hT : TreeAt w v T) (hs : Sml T) (hk : ∀ x ∈ T, x.kids.length ≤ 17592186044416) (hl : (textM T).length ≤ 140737487000000) :
    Calls Tryd.prog 15 #[v] w fun e w' => ∃ v', e = .returned (.tuple #[v', .int .i64 (checkE T)]) ∧ BRow w' w.heap.size v' (textM T) ∧ Below w.heap.size w w' := by
  have hlm : T.length ≤ 9223372036854775807 := by obtain ⟨_, _, _, h, _⟩ := hT; exact h
  obtain ⟨a, c, rfl⟩ := tree_len hT
  have HC := hide (rcheck_any hT (fun x hx => ⟨Nat.le_trans (hs.texts x hx) (by decide), fun s h => Nat.le_trans (hs.namesS x hx s h) (by decide)⟩) (fun x hx => by have := hk x hx; omega))
  by_cases hc : checkE T = 0
  · have ho := okay_of hs hc
    have h0 : T.length ≠ 0 := fun e => by simp [checkE, e] at hc
    have e1 : (T.length : Int) - 1 = ((T.length - 1 : Nat) : Int) := by omega
    have et : textM T = writeF T T.length ((T.length - 1 : Nat) : Int) := by rw [textM, if_pos hc, e1]
    rw [et] at hl ⊢
    have HW := hide (rwrite_all hT ho T.length (T.length - 1) (by omega) (by omega))
    have HLL := hide hl
    generalize hk : T.length - 1 = k at HW hl HLL e1
    rw [hc] at HC ⊢
    clear hk et ho hc
    go_enter Tryd.func15, Tryd.ntmps15
    go_wp2_with (first
      | (go_at_call 13; refine HC.out.mono ?_; rintro e w1 ⟨rfl, k2⟩; have H1 := hide k2; clear k2)
      | (go_at_call 27; refine (HW.out.use H1.out (brow_nil _ _) (by have := HLL.out; simp only [List.length_nil]; omega)).mono ?_; rintro e w2 ⟨v2, rfl, h2⟩; have H2 := hide h2.row; have H3 := hide (h2.below (brow_nil _ _) H1.out H1.out.size); clear h2))
    go_ret2
    exact ⟨_, rfl, by simpa using H2.out, H3.out⟩
  · have et : textM T = [] := by rw [textM, if_neg hc]
    rw [et]
    have z1 : (checkE T != 0) = true := by simpa using hc
    go_enter Tryd.func15, Tryd.ntmps15
    go_wp2_with (first
      | (go_at_call 13; refine HC.out.mono ?_; rintro e w1 ⟨rfl, k2⟩; have H1 := hide k2; clear k2))
    go_ret2
    exact ⟨_, rfl, brow_nil _ _, H1.out⟩
end Go.Proofs.YtpffhckimilppaaDoor
