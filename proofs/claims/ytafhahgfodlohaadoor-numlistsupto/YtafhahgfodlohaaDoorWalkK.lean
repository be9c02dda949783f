/-
  What the calls of num.Sum and of the document's sum do.
-/
import Derived.Test.YtafhahgfodlohaaDoorWalkB
import Derived.Test.YtafhahgfodlohaaDoorSums
import Derived.OpenShut
namespace Go.Proofs.YtafhahgfodlohaaDoor
open Go.RowKit

set_option maxHeartbeats 800000 in
theorem nsum_row (b off len cap : Nat) (zs : List Int) (w : World) (hm : len ≤ maxLen) (hl : zs.length = len) (hc : ∀ k, k < len → w.cell? ⟨b, off + k, none⟩ = some (.int .i64 (zs.getD k 0))) :
    Calls Tryd.prog 16 #[.slice (some ⟨b, off, none⟩) len cap] w fun e w' => e = .returned (.tuple #[.int .i64 (sumL zs).1, .int .i64 (sumL zs).2]) ∧ w' = w := by
  unfold maxLen at hm
  have HC : Hid (∀ k, k < len → w.cell? ⟨b, off + k, none⟩ = some (.int .i64 (zs.getD k 0))) := hc
  have HL : Hid (zs.length = len) := hl
  clear hc hl
  go_enter Tryd.func16, Tryd.ntmps16
  go_wp2
  go_loop [4, 11] (fun s i => ∃ (k : Nat) (v : Int), k ≤ len ∧ i = .int .i64 k ∧ s = .int .i64 v ∧ sumL (zs.take k) = (v, 0)) (fun _ i => len - (intOf i).toNat)
  case atStart => exact ⟨0, 0, Nat.zero_le _, rfl, rfl, rfl⟩
  case round =>
    obtain ⟨k, v, hk, rfl, rfl, hv⟩ := hrel
    have HV : Hid (sumL (zs.take k) = (v, 0)) := hv
    clear hv
    by_cases hlt : k < len
    · obtain ⟨z, hz⟩ : ∃ z, Hid (zs.getD k 0 = z) := ⟨_, rfl⟩
      have hcell : w.cell? ⟨b, off + k, none⟩ = some (.int .i64 z) := by rw [← hz.out]; exact HC.out k hlt
      have HS : Hid (sumL (zs.take (k + 1)) = (addV v z, addE v z)) := by
        have h := sumL_succ zs k (by rw [HL.out]; exact hlt) (by rw [HV.out])
        rw [HV.out, hz.out] at h
        exact h
      rcases addE_cases v z with he | ⟨he, hv0⟩
      · go_wp2_with (go_at_call 10; refine (nadd_any _ _ _).mono ?_; rintro e w' ⟨rfl, rfl⟩)
        go_round
        case rel => exact ⟨k + 1, addV v z, by omega, by go_num, rfl, by rw [HS.out, he]⟩
        case measure => simp [intOf]; omega
      · have HR : Hid (sumL zs = (0, 10)) := by
          have h := sumL_stuck zs (k + 1) (by rw [HS.out, he]; simp)
          rw [HS.out, he, hv0] at h
          exact h
        go_wp2_with (go_at_call 10; refine (nadd_any _ _ _).mono ?_; rintro e w' ⟨rfl, rfl⟩)
        go_ret2
        exact ⟨by rw [HR.out]; rfl, rfl⟩
    · have HR : Hid (sumL zs = (v, 0)) := by
        have h := HV.out
        rw [List.take_of_length_le (by rw [HL.out]; omega)] at h
        exact h
      go_wp2
      go_ret2
      exact ⟨by rw [HR.out]; rfl, rfl⟩

set_option maxHeartbeats 800000 in
theorem rsum_row (b off len cap : Nat) (zs : List Int) (w : World) (hm : len ≤ maxLen) (hl : zs.length = len) (hc : ∀ k, k < len → w.cell? ⟨b, off + k, none⟩ = some (.int .i64 (zs.getD k 0))) :
    Calls Tryd.prog 17 #[.slice (some ⟨b, off, none⟩) len cap] w fun e w' => e = .returned (.tuple #[.int .i64 (sumL zs).1, .int .i64 (sumL zs).2]) ∧ w' = w := by
  unfold maxLen at hm
  have HC : Hid (∀ k, k < len → w.cell? ⟨b, off + k, none⟩ = some (.int .i64 (zs.getD k 0))) := hc
  have HL : Hid (zs.length = len) := hl
  clear hc hl
  go_enter Tryd.func17, Tryd.ntmps17
  go_wp2
  go_loop [4, 5] (fun s i => ∃ (k : Nat) (v : Int), k ≤ len ∧ i = .int .i64 k ∧ s = .int .i64 v ∧ sumL (zs.take k) = (v, 0)) (fun _ i => len - (intOf i).toNat)
  case atStart => exact ⟨0, 0, Nat.zero_le _, rfl, rfl, rfl⟩
  case round =>
    obtain ⟨k, v, hk, rfl, rfl, hv⟩ := hrel
    have HV : Hid (sumL (zs.take k) = (v, 0)) := hv
    clear hv
    by_cases hlt : k < len
    · obtain ⟨z, hz⟩ : ∃ z, Hid (zs.getD k 0 = z) := ⟨_, rfl⟩
      have hcell : w.cell? ⟨b, off + k, none⟩ = some (.int .i64 z) := by rw [← hz.out]; exact HC.out k hlt
      have HS : Hid (sumL (zs.take (k + 1)) = (addV v z, addE v z)) := by
        have h := sumL_succ zs k (by rw [HL.out]; exact hlt) (by rw [HV.out])
        rw [HV.out, hz.out] at h
        exact h
      rcases addE_cases v z with he | ⟨he, hv0⟩
      · go_wp2_with (go_at_call 11; refine (radd_any _ _ _).mono ?_; rintro e w' ⟨rfl, rfl⟩)
        go_round
        case rel => exact ⟨k + 1, addV v z, by omega, by go_num, rfl, by rw [HS.out, he]⟩
        case measure => simp [intOf]; omega
      · have HR : Hid (sumL zs = (0, 10)) := by
          have h := sumL_stuck zs (k + 1) (by rw [HS.out, he]; simp)
          rw [HS.out, he, hv0] at h
          exact h
        go_wp2_with (go_at_call 11; refine (radd_any _ _ _).mono ?_; rintro e w' ⟨rfl, rfl⟩)
        go_ret2
        exact ⟨by rw [HR.out]; rfl, rfl⟩
    · have HR : Hid (sumL zs = (v, 0)) := by
        have h := HV.out
        rw [List.take_of_length_le (by rw [HL.out]; omega)] at h
        exact h
      go_wp2
      go_ret2
      exact ⟨by rw [HR.out]; rfl, rfl⟩

set_option maxHeartbeats 400000 in
theorem nsum_none (a : Option Addr) (cap : Nat) (w : World) :
    Calls Tryd.prog 16 #[.slice a 0 cap] w fun e w' => e = .returned (.tuple #[.int .i64 0, .int .i64 0]) ∧ w' = w := by
  go_enter Tryd.func16, Tryd.ntmps16
  go_wp2
  refine wp_loop_rounds 1 ?_
  rw [rounds_succ]
  go_wp2
  go_ret2
  exact ⟨rfl, rfl⟩
set_option maxHeartbeats 400000 in
theorem rsum_none (a : Option Addr) (cap : Nat) (w : World) :
    Calls Tryd.prog 17 #[.slice a 0 cap] w fun e w' => e = .returned (.tuple #[.int .i64 0, .int .i64 0]) ∧ w' = w := by
  go_enter Tryd.func17, Tryd.ntmps17
  go_wp2
  refine wp_loop_rounds 1 ?_
  rw [rounds_succ]
  go_wp2
  go_ret2
  exact ⟨rfl, rfl⟩

/-- What a slice of numbers that came in reads as: nothing, or a row of cells. -/
def IsRow (w : World) (a : Option Addr) (len cap : Nat) (zs : List Int) : Prop :=
  (a = none ∧ len = 0 ∧ cap = 0 ∧ zs = []) ∨
  ∃ x : Addr, a = some x ∧ len ≤ maxLen ∧ zs.length = len ∧ ∀ k, k < len → w.cell? (x.add k) = some (.int .i64 (zs.getD k 0))
theorem addr_add (b off j : Nat) : (⟨b, off, none⟩ : Addr).add j = ⟨b, off + j, none⟩ := by
  unfold Addr.add
  split
  · rename_i h; subst h; rfl
  · rfl

theorem nsum_any (a : Option Addr) (len cap : Nat) (zs : List Int) (w : World) (h : IsRow w a len cap zs) :
    Calls Tryd.prog 16 #[.slice a len cap] w fun e w' => e = .returned (.tuple #[.int .i64 (sumL zs).1, .int .i64 (sumL zs).2]) ∧ w' = w := by
  rcases h with ⟨rfl, rfl, rfl, rfl⟩ | ⟨x, rfl, hm, hl, hc⟩
  · exact nsum_none none 0 w
  · by_cases h0 : len = 0
    · subst h0
      rw [List.length_eq_zero_iff.1 hl]
      exact nsum_none _ _ w
    · obtain ⟨b, off, rfl, _⟩ := ints_at (w := w) (k := .i64) (a := x) (zs := zs) (fun i hi => hc i (by omega)) (by omega)
      exact nsum_row b off len cap zs w hm hl fun k hk => by rw [← addr_add]; exact hc k hk
theorem rsum_any (a : Option Addr) (len cap : Nat) (zs : List Int) (w : World) (h : IsRow w a len cap zs) :
    Calls Tryd.prog 17 #[.slice a len cap] w fun e w' => e = .returned (.tuple #[.int .i64 (sumL zs).1, .int .i64 (sumL zs).2]) ∧ w' = w := by
  rcases h with ⟨rfl, rfl, rfl, rfl⟩ | ⟨x, rfl, hm, hl, hc⟩
  · exact rsum_none none 0 w
  · by_cases h0 : len = 0
    · subst h0
      rw [List.length_eq_zero_iff.1 hl]
      exact rsum_none _ _ w
    · obtain ⟨b, off, rfl, _⟩ := ints_at (w := w) (k := .i64) (a := x) (zs := zs) (fun i hi => hc i (by omega)) (by omega)
      exact rsum_row b off len cap zs w hm hl fun k hk => by rw [← addr_add]; exact hc k hk

end Go.Proofs.YtafhahgfodlohaaDoor
