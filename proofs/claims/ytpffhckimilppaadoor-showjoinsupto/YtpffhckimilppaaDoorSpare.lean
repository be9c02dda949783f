/-
  What show.spare does of a value: is what its kind doesn't use zero?
-/
import Derived.Test.YtpffhckimilppaaDoorDeep
namespace Go.Proofs.YtpffhckimilppaaDoor
open Go.RowKit

/-- What its kind doesn't use is zero. -/
def spareB (x : VI) : Bool := (x.kind == 2 || !x.truth) && (x.kind == 3 || x.num == 0) && (x.kind == 4 || x.text.isEmpty) && (x.kind == 6 || x.names.length == 0) && (x.kind == 6 || x.kind == 5 || x.kids.length == 0)
theorem cast_beq (n : Nat) : ((n : Int) == 0) = (n == 0) := by rw [Bool.eq_iff_iff]; simp
set_option maxRecDepth 100000 in
set_option maxHeartbeats 6400000 in
theorem spare_k2 {x : VI} {na ka : Option Addr} {nc kc : Nat} {w : World} (hk : x.kind = 2) : Calls Tryd.prog 44 #[.agg (aggI x (.slice na x.names.length nc) (.slice ka x.kids.length kc)).toArray] w fun e w' => e = .returned (.bool (spareB x)) ∧ Below w.heap.size w w' := by
  unfold aggI
  by_cases hn : x.num = 0 <;> by_cases ht : x.text = [] <;> cases htr : x.truth
  all_goals
    go_enter Tryd.func44, Tryd.ntmps44
    go_wp2
    all_goals
      go_ret
      exact ⟨by simp [spareB, cast_beq, *], (Below.refl _ _).alloc (Nat.le_refl _) _⟩
set_option maxRecDepth 100000 in
set_option maxHeartbeats 6400000 in
theorem spare_k3 {x : VI} {na ka : Option Addr} {nc kc : Nat} {w : World} (hk : x.kind = 3) : Calls Tryd.prog 44 #[.agg (aggI x (.slice na x.names.length nc) (.slice ka x.kids.length kc)).toArray] w fun e w' => e = .returned (.bool (spareB x)) ∧ Below w.heap.size w w' := by
  unfold aggI
  by_cases hn : x.num = 0 <;> by_cases ht : x.text = [] <;> cases htr : x.truth
  all_goals
    go_enter Tryd.func44, Tryd.ntmps44
    go_wp2
    all_goals
      go_ret
      exact ⟨by simp [spareB, cast_beq, *], (Below.refl _ _).alloc (Nat.le_refl _) _⟩
set_option maxRecDepth 100000 in
set_option maxHeartbeats 6400000 in
theorem spare_k4 {x : VI} {na ka : Option Addr} {nc kc : Nat} {w : World} (hk : x.kind = 4) : Calls Tryd.prog 44 #[.agg (aggI x (.slice na x.names.length nc) (.slice ka x.kids.length kc)).toArray] w fun e w' => e = .returned (.bool (spareB x)) ∧ Below w.heap.size w w' := by
  unfold aggI
  by_cases hn : x.num = 0 <;> by_cases ht : x.text = [] <;> cases htr : x.truth
  all_goals
    go_enter Tryd.func44, Tryd.ntmps44
    go_wp2
    all_goals
      go_ret
      exact ⟨by simp [spareB, cast_beq, *], (Below.refl _ _).alloc (Nat.le_refl _) _⟩
set_option maxRecDepth 100000 in
set_option maxHeartbeats 6400000 in
theorem spare_k5 {x : VI} {na ka : Option Addr} {nc kc : Nat} {w : World} (hk : x.kind = 5) : Calls Tryd.prog 44 #[.agg (aggI x (.slice na x.names.length nc) (.slice ka x.kids.length kc)).toArray] w fun e w' => e = .returned (.bool (spareB x)) ∧ Below w.heap.size w w' := by
  unfold aggI
  by_cases hn : x.num = 0 <;> by_cases ht : x.text = [] <;> cases htr : x.truth
  all_goals
    go_enter Tryd.func44, Tryd.ntmps44
    go_wp2
    all_goals
      go_ret
      exact ⟨by simp [spareB, cast_beq, *], (Below.refl _ _).alloc (Nat.le_refl _) _⟩
set_option maxRecDepth 100000 in
set_option maxHeartbeats 6400000 in
theorem spare_k6 {x : VI} {na ka : Option Addr} {nc kc : Nat} {w : World} (hk : x.kind = 6) : Calls Tryd.prog 44 #[.agg (aggI x (.slice na x.names.length nc) (.slice ka x.kids.length kc)).toArray] w fun e w' => e = .returned (.bool (spareB x)) ∧ Below w.heap.size w w' := by
  unfold aggI
  by_cases hn : x.num = 0 <;> by_cases ht : x.text = [] <;> cases htr : x.truth
  all_goals
    go_enter Tryd.func44, Tryd.ntmps44
    go_wp2
    all_goals
      go_ret
      exact ⟨by simp [spareB, *], (Below.refl _ _).alloc (Nat.le_refl _) _⟩
set_option maxRecDepth 100000 in
set_option maxHeartbeats 6400000 in
theorem spare_other {x : VI} {na ka : Option Addr} {nc kc : Nat} {w : World} (a2 : ¬ x.kind = 2) (a3 : ¬ x.kind = 3) (a4 : ¬ x.kind = 4) (a5 : ¬ x.kind = 5) (a6 : ¬ x.kind = 6) : Calls Tryd.prog 44 #[.agg (aggI x (.slice na x.names.length nc) (.slice ka x.kids.length kc)).toArray] w fun e w' => e = .returned (.bool (spareB x)) ∧ Below w.heap.size w w' := by
  unfold aggI
  by_cases hn : x.num = 0 <;> by_cases ht : x.text = [] <;> cases htr : x.truth
  all_goals
    go_enter Tryd.func44, Tryd.ntmps44
    go_wp2
    all_goals
      go_ret
      exact ⟨by simp [spareB, cast_beq, *], (Below.refl _ _).alloc (Nat.le_refl _) _⟩
theorem spare_any {x : VI} {na ka : Option Addr} {nc kc : Nat} {w : World} : Calls Tryd.prog 44 #[.agg (aggI x (.slice na x.names.length nc) (.slice ka x.kids.length kc)).toArray] w fun e w' => e = .returned (.bool (spareB x)) ∧ Below w.heap.size w w' := by
  by_cases k2 : x.kind = 2
  · exact spare_k2 k2
  by_cases k3 : x.kind = 3
  · exact spare_k3 k3
  by_cases k4 : x.kind = 4
  · exact spare_k4 k4
  by_cases k5 : x.kind = 5
  · exact spare_k5 k5
  by_cases k6 : x.kind = 6
  · exact spare_k6 k6
  exact spare_other k2 k3 k4 k5 k6
end Go.Proofs.YtpffhckimilppaaDoor
