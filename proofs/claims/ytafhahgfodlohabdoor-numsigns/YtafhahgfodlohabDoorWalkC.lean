/-
  What the call of num.Mul does.
-/
import Derived.Test.YtafhahgfodlohabDoorWalkB
namespace Go.Proofs.YtafhahgfodlohabDoor
open Go.RowKit

set_option maxHeartbeats 400000 in
theorem nmul_any (a b : Int) (w : World) :
    Calls Tryd.prog 7 #[.int .i64 a, .int .i64 b] w fun e w' => e = .returned (.tuple #[.int .i64 (mulV a b), .int .i64 (mulE a b)]) ∧ w' = w := by
  cases ha : fitsB a
  · go_enter Tryd.func7, Tryd.ntmps7
    go_wp2_with (first | (go_at_call 10; refine (nfits_any _ _).mono ?_; rintro e w' ⟨rfl, rfl⟩))
    go_ret2
    exact ⟨by simp [mulV, mulE, mulOk, ha], rfl⟩
  · cases hb : fitsB b
    · go_enter Tryd.func7, Tryd.ntmps7
      go_wp2_with (first | (go_at_call 10; refine (nfits_any _ _).mono ?_; rintro e w' ⟨rfl, rfl⟩))
      go_ret2
      exact ⟨by simp [mulV, mulE, mulOk, ha, hb], rfl⟩
    · obtain ⟨ha1, ha2⟩ := (fitsB_iff a).1 ha
      obtain ⟨hb1, hb2⟩ := (fitsB_iff b).1 hb
      by_cases h0 : a = 0
      · subst h0
        go_enter Tryd.func7, Tryd.ntmps7
        go_wp2_with (first | (go_at_call 10; refine (nfits_any _ _).mono ?_; rintro e w' ⟨rfl, rfl⟩))
        go_ret2
        exact ⟨by simp [mulV, mulE, mulOk, ha, hb], rfl⟩
      · have hA := absI_nat a
        have hB := absI_nat b
        have hA1 : 1 ≤ absI a := by omega
        have hA2 : absI a ≤ 4611686018427387903 := by omega
        have hB1 : 0 ≤ absI b := by omega
        have hB2 : absI b ≤ 4611686018427387903 := by omega
        clear hA hB
        have hn : (a != 0) = true := by simpa using h0
        have hz : ¬ absI a = 0 := by omega
        have HF : Hid (fitsB (a * b) = !decide (4611686018427387903 / absI a < absI b)) := mul_fits a b h0
        clear h0
        have hq := div_bd (absI a) (by omega)
        obtain ⟨hq1, hq2⟩ := hq
        by_cases hlt : 4611686018427387903 / absI a < absI b
        · have HM : Hid (fitsB (a * b) = false) := by show _ = _; rw [HF.out]; simp [hlt]
          clear HF
          go_enter Tryd.func7, Tryd.ntmps7
          go_wp2_with (first | (go_at_call 10; refine (nfits_any _ _).mono ?_; rintro e w' ⟨rfl, rfl⟩) | (go_at_call 12; refine (size_any _ _ (by omega) (by omega)).mono ?_; rintro e w' ⟨rfl, rfl⟩))
          go_ret2
          exact ⟨by simp [mulV, mulE, mulOk, HM.out], rfl⟩
        · have HM : Hid (fitsB (a * b) = true) := by show _ = _; rw [HF.out]; simp [hlt]
          clear HF
          obtain ⟨hm1, hm2⟩ := (fitsB_iff (a * b)).1 HM.out
          go_enter Tryd.func7, Tryd.ntmps7
          go_wp2_with (first | (go_at_call 10; refine (nfits_any _ _).mono ?_; rintro e w' ⟨rfl, rfl⟩) | (go_at_call 12; refine (size_any _ _ (by omega) (by omega)).mono ?_; rintro e w' ⟨rfl, rfl⟩))
          go_ret2
          exact ⟨by simp [mulV, mulE, mulOk, ha, hb, HM.out], rfl⟩

end Go.Proofs.YtafhahgfodlohabDoor
