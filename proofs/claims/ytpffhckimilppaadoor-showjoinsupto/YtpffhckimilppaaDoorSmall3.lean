/-
  What show.truth, num.Fits and the document's Fits do.
-/
import Derived.Test.YtpffhckimilppaaDoorShTree
namespace Go.Proofs.YtpffhckimilppaaDoor
open Go.RowKit

/-- Does a number fit? -/
def fitsB (n : Int) : Bool := decide (-4611686018427387903 ≤ n ∧ n ≤ 4611686018427387903)
theorem truth_any (b : Bool) (w : World) : Calls Tryd.prog 35 #[.bool b] w fun e w' => e = .returned (.string (if b then ⟨#[116, 114, 117, 101]⟩ else ⟨#[102, 97, 108, 115, 101]⟩)) ∧ w' = w := by
  cases b
  all_goals
    go_enter Tryd.func35, Tryd.ntmps35
    go_wp2
    go_ret
    exact ⟨rfl, rfl⟩
theorem fits_any (n : Int) (w : World) : Calls Tryd.prog 45 #[.int .i64 n] w fun e w' => e = .returned (.bool (fitsB n)) ∧ w' = w := by
  by_cases h1 : -4611686018427387903 ≤ n <;> by_cases h2 : n ≤ 4611686018427387903
  all_goals
    go_enter Tryd.func45, Tryd.ntmps45
    go_wp2
    go_ret
    exact ⟨by simp [fitsB, h1, h2], rfl⟩
theorem rfits_any (n : Int) (w : World) : Calls Tryd.prog 34 #[.int .i64 n] w fun e w' => e = .returned (.bool (fitsB n)) ∧ w' = w := by
  by_cases h1 : -4611686018427387903 ≤ n <;> by_cases h2 : n ≤ 4611686018427387903
  all_goals
    go_enter Tryd.func34, Tryd.ntmps34
    go_wp2
    go_ret
    exact ⟨by simp [fitsB, h1, h2], rfl⟩
end Go.Proofs.YtpffhckimilppaaDoor
