/-
  What the call of the document's reading of a number's text does, at every text.
-/
import Derived.Test.YtkpfiopgnobcdaaDoorWalkI
namespace Go.Proofs.YtkpfiopgnobcdaaDoor
open Go.RowKit

set_option maxHeartbeats 400000 in
theorem rparse_none (s : ByteArray) (w : World) (h0 : s.size = 0) :
    Calls Tryd.prog 36 #[.string s] w fun e w' => e = .returned (.tuple #[.int .i64 (parV s.data.toList), .int .i64 (parE s.data.toList)]) ∧ w' = w := by
  have HR : Hid (parV s.data.toList = 0 ∧ parE s.data.toList = 11) := by
    have he : s.data.toList = [] := List.length_eq_zero_iff.1 h0
    refine par_empty _ ?_
    rw [he]; rfl
  go_enter Tryd.func36, Tryd.ntmps36
  go_wp2
  go_ret2
  exact ⟨by rw [HR.out.1, HR.out.2]; rfl, rfl⟩

set_option maxHeartbeats 400000 in
theorem rparse_sign (s : ByteArray) (w : World) (hp : 0 < s.size) (h1 : s.size = 1) (hb : ((s[0].toNat : Int) == 45) = true) :
    Calls Tryd.prog 36 #[.string s] w fun e w' => e = .returned (.tuple #[.int .i64 (parV s.data.toList), .int .i64 (parE s.data.toList)]) ∧ w' = w := by
  have HR : Hid (parV s.data.toList = 0 ∧ parE s.data.toList = 11) := by
    refine par_empty _ ?_
    have hbl : belowB s.data.toList = true := by rw [below_at s (by omega), hb]
    rw [digitsL, hbl, cond_true]
    refine List.length_eq_zero_iff.1 ?_
    rw [len_drop]; omega
  have hq : ((1 : Int) == (s.size : Int)) = true := by rw [h1]; rfl
  have H1 : Hid (s.size = 1) := h1
  clear h1
  go_enter Tryd.func36, Tryd.ntmps36
  go_wp2
  go_ret2
  exact ⟨by rw [HR.out.1, HR.out.2]; rfl, rfl⟩

theorem rparse_any (s : ByteArray) (w : World) (hs : s.size ≤ maxLen) :
    Calls Tryd.prog 36 #[.string s] w fun e w' => e = .returned (.tuple #[.int .i64 (parV s.data.toList), .int .i64 (parE s.data.toList)]) ∧ w' = w := by
  by_cases h0 : s.size = 0
  · exact rparse_none s w h0
  · cases hb : ((s[0].toNat : Int) == 45)
    · have hbl : belowB s.data.toList = false := by rw [below_at s (by omega), hb]
      exact rparse_0 s w hs (by omega) hb (show _ = _ by rw [digitsL, hbl]; rfl) hbl
    · have hbl : belowB s.data.toList = true := by rw [below_at s (by omega), hb]
      by_cases h1 : s.size = 1
      · exact rparse_sign s w (by omega) h1 hb
      · exact rparse_1 s w hs (by omega) hb (show _ = _ by rw [digitsL, hbl]; rfl) hbl

end Go.Proofs.YtkpfiopgnobcdaaDoor
