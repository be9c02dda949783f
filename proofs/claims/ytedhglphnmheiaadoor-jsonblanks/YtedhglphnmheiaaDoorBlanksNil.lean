/-
  What the law of blanks ahead (JsonBlanks) does of a slice that is nil.
-/
import Derived.Test.YtedhglphnmheiaaDoorBlanks
namespace Go.Proofs.YtedhglphnmheiaaDoor
open Go.RowKit

set_option maxRecDepth 100000 in
set_option maxHeartbeats 3200000 in
theorem blanks_none (x : Int) (w : World) (ht : Lib.Utf8Tabs 0 1 w) (h2 : 2 ≤ w.heap.size) :
    Calls Tryd.prog 4 #[.slice none 0 0, .int .i64 x] w fun e w' => e = .returned (.bool true) ∧ Below w.heap.size w w' := by
  have HT : Hid (Lib.Utf8Tabs 0 1 w) := ht
  clear ht
  obtain ⟨i5, hi5, hz0, hz1, hz2⟩ := info_parts info5
  obtain ⟨m, hm, hm50⟩ := wrap_fifty x
  go_enter Tryd.func4, Tryd.ntmps4
  go_wp2_with (go_at_call 9; refine (awake_any w HT.out h2).mono ?_; rintro e w1 ⟨rfl, hb1⟩)
  try rw [hm]
  clear hm
  go_loopw [5, 6] (fun v i wr => ∃ k : Nat, k ≤ m ∧ i = .int .i64 k ∧ wr.ownsRow w.heap.size 5 1 v k (Lib.byteCells (blkL k)) ∧ Below w.heap.size w wr) (fun _ i _ => m - (intOf i).toNat)
  case atStart => exact ⟨0, Nat.zero_le _, rfl, World.ownsRow_nil _ _ _ _, hb1⟩
  case round =>
    obtain ⟨k, hk, rfl, hown, hbr⟩ := hrel
    clear hb1
    have hbs := hbr.size
    by_cases hlt : k < m
    · rcases four_cases k with ⟨hbk, hr⟩ | ⟨hbk, hr⟩ | ⟨hbk, hr⟩ | ⟨hbk, hr⟩
      all_goals
        go_wp2_with (at_builtin; refine wpList_append_own _ rfl _ _ 22 rfl w.heap.size 5 i5 (.int .u8 0) 1 1 Tryd.underlying22 hi5 hz0 hz1 hz2 rfl (by decide) _ _ _ rfl (hown.alloc _) ⟨wr.heap.size, 0, none⟩ 1 1 [.int .u8 ((blkB k).toNat : Int)] rfl rfl (by rw [hbk]; exact cells_new _ _ 5 _ rfl) (byte_one _) (by unfold maxLen; omega) (by omega) (by simp; omega) ?_; intro vb wb hownb hgb _)
        go_roundw
        case rel => exact ⟨k + 1, by omega, by go_num, by rw [blkL_succ]; unfold Lib.byteCells at hownb ⊢; rw [List.map_append]; exact hownb, (hbr.alloc hbs _).grown hgb (by simp; omega) (fun j hj => (hown.lt j hj).1)⟩
        case measure => simp [intOf]; omega
    · obtain rfl : k = m := by omega
      have HWI : Hid _ := fun (w3 : World) (hb : Below (wr.alloc (.cells #[] 5)).heap.size (wr.alloc (.cells #[] 5)) w3) => own_below (own_below hown ((Below.refl _ wr).alloc (Nat.le_refl _) _)) hb
      have HMA : Hid ((wr.alloc (.cells #[] 5)).ownsRow w.heap.size 5 1 (.slice (some ⟨wr.heap.size, 0, none⟩) 0 0) 0 []) := World.ownsRow_made wr #[] 0 hbs (by decide) rfl
      have HBB : Hid (Below w.heap.size w (wr.alloc (.cells #[] 5))) := hbr.alloc hbs _
      rcases both [] k (by decide) hm50 with ⟨p, c, hc0, hpl, hq1, hq2⟩ | ⟨T, z, hq1, hq2⟩
      all_goals rw [List.append_nil] at hq2
      · have HP1 : Hid (∀ (v' : Value) (w' : World) (n : Nat), w'.ownsRow w.heap.size 5 1 v' n [] → Below w.heap.size w w' → Calls Tryd.prog 10 #[v'] w' fun e w'' => e = .returned (.tuple #[.slice none 0 0, .int .i64 p, .int .i64 c]) ∧ Below w'.heap.size w' w'') :=
          fun v' w' n ho hb => by
            have H := parse_row_own [] ho (tabs_below hb h2 HT.out) (Nat.le_trans h2 hb.size)
            rw [hq1] at H; exact H
        have HP2 : Hid (∀ (v' : Value) (w' : World) (n : Nat), w'.ownsRow w.heap.size 5 1 v' n (Lib.byteCells (blkL k)) → Below w.heap.size w w' → Calls Tryd.prog 10 #[v'] w' fun e w'' => e = .returned (.tuple #[.slice none 0 0, .int .i64 ((p + k : Nat) : Int), .int .i64 c]) ∧ Below w'.heap.size w' w'') :=
          fun v' w' n ho hb => by
            have H := parse_row_own (blkL k) ho (tabs_below hb h2 HT.out) (Nat.le_trans h2 hb.size)
            rw [hq2] at H; exact H
        have hp6 : p ≤ 60000 := Nat.le_trans hpl (by decide)
        clear hpl
        have hcb : ((c : Int) == 0) = false := by simpa using hc0
        clear hq1 hq2
        go_wp2_with (first | (go_at_call 12; refine (same_true (T := []) ⟨none, 0, rfl, by simp, fun i x h => by simp at h⟩ ⟨none, 0, rfl, by simp, fun i x h => by simp at h⟩).mono ?_; rintro e w5 ⟨rfl, hb5⟩) | (go_at_call 10; refine (HP2.out _ _ _ (HWI.out _ hb3) (HBB.out.trans (hb3.mono HBB.out.size))).mono ?_; rintro e w4 ⟨rfl, hb4⟩) | (go_at_call 10; refine (HP1.out _ _ _ HMA.out HBB.out).mono ?_; rintro e w3 ⟨rfl, hb3⟩) | (at_builtin; refine wpList_append_own_none rfl _ _ 22 rfl w.heap.size 5 i5 1 Tryd.underlying22 hi5 _ _ _ rfl hown rfl ?_) | (at_builtin; refine wpList_append_own_none rfl _ _ 22 rfl w.heap.size 5 i5 1 Tryd.underlying22 hi5 (.slice (some ⟨wr.heap.size, 0, none⟩) 0 0) 0 [] rfl HMA.out rfl ?_))
        have hbb := HBB.out
        go_ret
        exact ⟨by simpa using hc0, ((hbb.trans (hb3.mono hbb.size)).trans (hb4.mono (hbb.trans (hb3.mono hbb.size)).size)).trans (hb5.mono ((hbb.trans (hb3.mono hbb.size)).trans (hb4.mono (hbb.trans (hb3.mono hbb.size)).size)).size)⟩
      · have HP1 : Hid (∀ (v' : Value) (w' : World) (n : Nat), w'.ownsRow w.heap.size 5 1 v' n [] → Below w.heap.size w w' → Calls Tryd.prog 10 #[v'] w' fun e w'' => ∃ ta tc, e = .returned (.tuple #[.slice ta T.length tc, .int .i64 0, .int .i64 0]) ∧ TreeAt w'' (.slice ta T.length tc) (T.map V.toI) ∧ Below w'.heap.size w' w'') :=
          fun v' w' n ho hb => by
            have H := parse_row_own [] ho (tabs_below hb h2 HT.out) (Nat.le_trans h2 hb.size)
            rw [hq1] at H
            refine Calls.mono H ?_
            rintro e w'' ⟨v, cs, rfl, ho2, hr, hb2⟩
            have ht := tree_own ho2 hr
            obtain ⟨ta, tc, rfl⟩ := own_shape ho2
            exact ⟨ta, tc, rfl, ht, hb2⟩
        have HP2 : Hid (∀ (v' : Value) (w' : World) (n : Nat), w'.ownsRow w.heap.size 5 1 v' n (Lib.byteCells (blkL k)) → Below w.heap.size w w' → Calls Tryd.prog 10 #[v'] w' fun e w'' => ∃ ta tc, e = .returned (.tuple #[.slice ta T.length tc, .int .i64 0, .int .i64 0]) ∧ TreeAt w'' (.slice ta T.length tc) (T.map V.toI) ∧ Below w'.heap.size w' w'') :=
          fun v' w' n ho hb => by
            have H := parse_row_own (blkL k) ho (tabs_below hb h2 HT.out) (Nat.le_trans h2 hb.size)
            rw [hq2] at H
            refine Calls.mono H ?_
            rintro e w'' ⟨v, cs, rfl, ho2, hr, hb2⟩
            have ht := tree_own ho2 hr
            obtain ⟨ta, tc, rfl⟩ := own_shape ho2
            exact ⟨ta, tc, rfl, ht, hb2⟩
        clear hq1 hq2
        go_wp2_with (first | (go_at_call 12; refine (same_true (ht3.later hb4) ht4).mono ?_; rintro e w5 ⟨rfl, hb5⟩) | (go_at_call 10; refine (HP2.out _ _ _ (HWI.out _ hb3) (HBB.out.trans (hb3.mono HBB.out.size))).mono ?_; rintro e w4 ⟨tb, td, rfl, ht4, hb4⟩) | (go_at_call 10; refine (HP1.out _ _ _ HMA.out HBB.out).mono ?_; rintro e w3 ⟨ta, tc, rfl, ht3, hb3⟩) | (at_builtin; refine wpList_append_own_none rfl _ _ 22 rfl w.heap.size 5 i5 1 Tryd.underlying22 hi5 _ _ _ rfl hown rfl ?_) | (at_builtin; refine wpList_append_own_none rfl _ _ 22 rfl w.heap.size 5 i5 1 Tryd.underlying22 hi5 (.slice (some ⟨wr.heap.size, 0, none⟩) 0 0) 0 [] rfl HMA.out rfl ?_))
        have hbb := HBB.out
        go_ret
        exact ⟨by simp, ((hbb.trans (hb3.mono hbb.size)).trans (hb4.mono (hbb.trans (hb3.mono hbb.size)).size)).trans (hb5.mono ((hbb.trans (hb3.mono hbb.size)).trans (hb4.mono (hbb.trans (hb3.mono hbb.size)).size)).size)⟩
end Go.Proofs.YtedhglphnmheiaaDoor
