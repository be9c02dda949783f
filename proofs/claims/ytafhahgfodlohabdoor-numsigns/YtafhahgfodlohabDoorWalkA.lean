/-
  What each call of num and of the document's answer does: Fits, Add.
-/
import Derived.Test.YtafhahgfodlohabDoorProg
import Derived.Test.YtafhahgfodlohabDoorPlain
import Derived.WalkKit
import Derived.WalkSpells
import Derived.WalkLawsBesides
namespace Go.Proofs.YtafhahgfodlohabDoor
open Go.RowKit

set_option maxHeartbeats 400000 in
theorem nfits_any (a : Int) (w : World) :
    Calls Tryd.prog 10 #[.int .i64 a] w fun e w' => e = .returned (.bool (fitsB a)) ∧ w' = w := by
  by_cases h1 : -4611686018427387903 ≤ a <;> by_cases h2 : a ≤ 4611686018427387903
  all_goals
    go_enter Tryd.func10, Tryd.ntmps10
    go_wp2
    go_ret
    exact ⟨by simp [fitsB, h1, h2], rfl⟩

set_option maxHeartbeats 400000 in
theorem rfits_any (a : Int) (w : World) :
    Calls Tryd.prog 5 #[.int .i64 a] w fun e w' => e = .returned (.bool (fitsB a)) ∧ w' = w := by
  by_cases h1 : -4611686018427387903 ≤ a <;> by_cases h2 : a ≤ 4611686018427387903
  all_goals
    go_enter Tryd.func5, Tryd.ntmps5
    go_wp2
    go_ret
    exact ⟨by simp [fitsB, h1, h2], rfl⟩

end Go.Proofs.YtafhahgfodlohabDoor
