/-
  The notions that the contracts of road go by.
-/
import Derived.Test.YtojkdmkeankcgaaGreatProg
import Derived.WalkKit
import Derived.WalkSpells
import Derived.WalkLawsBesides
import Derived.Deep.QuietTactic
import Derived.BigQuiet
import Derived.BigRegion
import Derived.Deep.RegionWith
import Derived.Deep.RegionLaw
import Derived.Deep.RegionHeld
namespace Go.Proofs.YtojkdmkeankcgaaGreat
open Go.RowKit

theorem hide {p : Prop} (h : p) : Hid p := h
def I64 (x : Int) : Prop := -9223372036854775808 ≤ x ∧ x ≤ 9223372036854775807
theorem I64.wf {x : Int} (h : I64 x) : (Lit.int .i64 x).wf = true := WalkArith.wf_i64 h
theorem add0 (g j : Nat) : (⟨g, 0, none⟩ : Addr).add j = ⟨g, j, none⟩ := by
  unfold Addr.add
  split
  · rename_i h; subst h; rfl
  · simp

/-- cmp.Compare of two whole numbers. -/
def cmpI (a b : Int) : Int := if a < b then -1 else if b < a then 1 else 0
/-- A leg: from, to, weight. -/
abbrev Leg := Int × Int × Int
def cfL (x y : Leg) : Int := if cmpI x.1 y.1 = 0 then if cmpI x.2.1 y.2.1 = 0 then cmpI x.2.2 y.2.2 else cmpI x.2.1 y.2.1 else cmpI x.1 y.1
def encL (x : Leg) : List Value := [.int .i64 x.1, .int .i64 x.2.1, .int .i64 x.2.2]

theorem compare_any (a b : Int) (w : World) : Calls Tryz.prog 96 #[.int .i64 a, .int .i64 b] w fun e w' => e = .returned (.int .i64 (cmpI a b)) ∧ w' = w := by
  have ha : (a != a) = false := by simp
  have hb : (b != b) = false := by simp
  unfold cmpI
  by_cases h1 : a < b
  · rw [if_pos h1]
    go_enter Tryz.func96, Tryz.ntmps96
    go_wp2
    go_ret
    exact ⟨rfl, rfl⟩
  · rw [if_neg h1]
    by_cases h2 : b < a
    · rw [if_pos h2]
      go_enter Tryz.func96, Tryz.ntmps96
      go_wp2
      go_ret
      exact ⟨rfl, rfl⟩
    · rw [if_neg h2]
      go_enter Tryz.func96, Tryz.ntmps96
      go_wp2
      go_ret
      exact ⟨rfl, rfl⟩

/-- The first of three that isn't nothing. -/
def or3 (a b c : Int) : Int := if a = 0 then if b = 0 then c else b else a
set_option maxHeartbeats 1600000 in
theorem or_any (a b c : Int) (B cap : Nat) (w : World) (h0 : w.cell? ⟨B, 0, none⟩ = some (.int .i64 a)) (h1 : w.cell? ⟨B, 1, none⟩ = some (.int .i64 b)) (h2 : w.cell? ⟨B, 2, none⟩ = some (.int .i64 c)) :
    Calls Tryz.prog 95 #[.slice (some ⟨B, 0, none⟩) 3 cap] w fun e w' => e = .returned (.int .i64 (or3 a b c)) ∧ w' = w := by
  go_enter Tryz.func95, Tryz.ntmps95
  go_wp2
  go_loop [8] (fun i => ∃ k : Nat, i = .int .i64 k ∧ k ≤ 3 ∧ Hid ((0 < k → a = 0) ∧ (1 < k → b = 0) ∧ (2 < k → c = 0))) (fun i => 3 - (intOf i).toNat)
  case atStart => exact ⟨0, rfl, by omega, by omega, by omega, by omega⟩
  case round =>
    obtain ⟨k, rfl, hk, HH⟩ := hrel
    have hk4 : k = 0 ∨ k = 1 ∨ k = 2 ∨ k = 3 := by omega
    rcases hk4 with rfl | rfl | rfl | rfl
    · by_cases hz : a = 0
      · have hz2 : (a != 0) = false := by simp [hz]
        replace hz := hide hz
        go_wp2
        go_round
        case rel => exact ⟨1, by go_num, by omega, fun _ => hz.out, by omega, by omega⟩
        case measure => simp [intOf]
      · have hz2 : (a != 0) = true := by simp [hz]
        go_wp2
        go_ret
        exact ⟨by unfold or3; rw [if_neg hz]; rfl, rfl⟩
    · by_cases hz : b = 0
      · have hz2 : (b != 0) = false := by simp [hz]
        replace hz := hide hz
        go_wp2
        go_round
        case rel => exact ⟨2, by go_num, by omega, fun _ => HH.out.1 (by omega), fun _ => hz.out, by omega⟩
        case measure => simp [intOf]
      · have hz2 : (b != 0) = true := by simp [hz]
        go_wp2
        go_ret
        exact ⟨by unfold or3; rw [if_pos (HH.out.1 (by omega)), if_neg hz]; rfl, rfl⟩
    · by_cases hz : c = 0
      · have hz2 : (c != 0) = false := by simp [hz]
        replace hz := hide hz
        go_wp2
        go_round
        case rel => exact ⟨3, by go_num, by omega, fun _ => HH.out.1 (by omega), fun _ => HH.out.2.1 (by omega), fun _ => hz.out⟩
        case measure => simp [intOf]
      · have hz2 : (c != 0) = true := by simp [hz]
        go_wp2
        go_ret
        exact ⟨by unfold or3; rw [if_pos (HH.out.1 (by omega)), if_pos (HH.out.2.1 (by omega))]; rfl, rfl⟩
    · go_wp2
      go_ret
      exact ⟨by unfold or3; rw [if_pos (HH.out.1 (by omega)), if_pos (HH.out.2.1 (by omega)), HH.out.2.2 (by omega)]; rfl, rfl⟩
end Go.Proofs.YtojkdmkeankcgaaGreat
