/-
  What the law of blanks ahead (JsonBlanks) does.
-/
import Derived.Test.YtedhglphnmheiaaDoorNil
import Derived.Test.YtedhglphnmheiaaDoorShift
import Derived.Test.YtedhglphnmheiaaDoorSame
import Derived.Laws.AppendOwnNone
namespace Go.Proofs.YtedhglphnmheiaaDoor
open Go.RowKit

theorem wrap_fifty (x : Int) : ∃ m : Nat, wrap64 ((IntKind.u64.wrap x).tmod 50) = (m : Int) ∧ m < 50 := by
  have h0 : 0 ≤ IntKind.u64.wrap x := by
    unfold IntKind.wrap; simp [IntKind.signed, IntKind.bits]; omega
  have h1 := Int.tmod_nonneg 50 h0
  have h2 := Int.tmod_lt_of_pos (IntKind.u64.wrap x) (show (0 : Int) < 50 by decide)
  refine ⟨((IntKind.u64.wrap x).tmod 50).toNat, ?_, by omega⟩
  simp only [wrap64]
  omega
def blkB (i : Nat) : UInt8 := if i % 4 = 0 then 32 else if i % 4 = 1 then 9 else if i % 4 = 2 then 10 else 13
def blkL (k : Nat) : List UInt8 := (List.range k).map blkB
theorem blkL_len (k : Nat) : (blkL k).length = k := by simp [blkL]
theorem blkL_succ (k : Nat) : blkL (k + 1) = blkL k ++ [blkB k] := by simp [blkL, List.range_succ]
theorem blkL_blank (k : Nat) : ∀ c, c ∈ blkL k → blankB c.toNat = true := by
  intro c hc
  simp only [blkL, List.mem_map] at hc
  obtain ⟨i, _, rfl⟩ := hc
  unfold blkB
  (repeat' split) <;> rfl
/-- How the two readings end. -/
def BothB (B : List UInt8) (m : Nat) : Prop :=
  (∃ p c : Nat, c ≠ 0 ∧ p ≤ B.length ∧ parseM B = .bad p c ∧ parseM (blkL m ++ B) = .bad (p + m) c) ∨ ∃ T z, parseM B = .ok T z ∧ parseM (blkL m ++ B) = .ok T 0
theorem both (B : List UInt8) (m : Nat) (hB : B.length ≤ 60000) (hm : m < 50) : BothB B m := by
  have e1 : parseM B = readM B := by unfold parseM; rw [if_neg (by omega)]
  have e2 : parseM (blkL m ++ B) = readM (blkL m ++ B) := by unfold parseM; rw [if_neg (by rw [List.length_append, blkL_len]; omega)]
  have e3 := sh_read (W := blkL m) (B := B) (blkL_len m) (blkL_blank m)
  have hf := read_fine B
  cases hM : readM B with
  | bad p c =>
    rw [hM] at e3 hf
    exact .inl ⟨p, c, hf.2, hf.1, by rw [e1, hM], by rw [e2, e3]⟩
  | ok T z =>
    rw [hM] at e3
    exact .inr ⟨T, z, by rw [e1, hM], by rw [e2, e3]⟩
/-- A row of the call's own stays while others are made. -/
theorem own_below {w w' : World} {base : Nat} {e : TypeId} {size : Nat} {v : Value} {n : Nat} {xs : List Value} (h : w.ownsRow base e size v n xs) (hb : Below w.heap.size w w') : w'.ownsRow base e size v n xs :=
  own_eq h (fun g hg => hb.block g (h.lt g hg).2)
theorem four_cases (k : Nat) : (blkB k = 32 ∧ (k : Int).tmod 4 = 0) ∨ (blkB k = 9 ∧ (k : Int).tmod 4 = 1) ∨ (blkB k = 10 ∧ (k : Int).tmod 4 = 2) ∨ (blkB k = 13 ∧ (k : Int).tmod 4 = 3) := by
  have h : (k : Int).tmod 4 = ((k % 4 : Nat) : Int) := by rw [Int.tmod_eq_emod_of_nonneg (by omega)]; omega
  rw [h]
  unfold blkB
  have : k % 4 = 0 ∨ k % 4 = 1 ∨ k % 4 = 2 ∨ k % 4 = 3 := by omega
  rcases this with e | e | e | e <;> rw [e] <;> simp

set_option maxRecDepth 100000 in
set_option maxHeartbeats 3200000 in
theorem blanks_row (y : Addr) (cap : Nat) (B : List UInt8) (x : Int) (w : World) (hy : BytesAt w y B) (ht : Lib.Utf8Tabs 0 1 w) (h2 : 2 ≤ w.heap.size) (hL : B.length ≤ 60000) :
    Calls Tryd.prog 4 #[.slice (some y) B.length cap, .int .i64 x] w fun e w' => e = .returned (.bool true) ∧ Below w.heap.size w w' := by
  have HT : Hid (Lib.Utf8Tabs 0 1 w) := ht
  have HY : Hid (∀ w', Below w.heap.size w w' → BytesAt w' y B) := fun w' hb => hy.later hb
  clear ht hy
  obtain ⟨i5, hi5, hz0, hz1, hz2⟩ := info_parts info5
  obtain ⟨m, hm, hm50⟩ := wrap_fifty x
  have hL4 : ¬ 60000 < (B.length : Int) := by omega
  go_enter Tryd.func4, Tryd.ntmps4
  go_wp2_with (go_at_call 9; refine (awake_any w HT.out h2).mono ?_; rintro e w1 ⟨rfl, hb1⟩)
  try rw [hm]
  clear hm
  go_loopw [5, 6] (fun v i wr => ∃ k : Nat, k ≤ m ∧ i = .int .i64 k ∧ wr.ownsRow w.heap.size 5 1 v k (Lib.byteCells (blkL k)) ∧ Below w.heap.size w wr) (fun _ i _ => m - (intOf i).toNat)
  case atStart => exact ⟨0, Nat.zero_le _, rfl, World.ownsRow_nil _ _ _ _, hb1⟩
  case round =>
    obtain ⟨k, hk, rfl, hown, hbr⟩ := hrel
    clear hb1
    have hbs := hbr.size
    by_cases hlt : k < m
    · rcases four_cases k with ⟨hbk, hr⟩ | ⟨hbk, hr⟩ | ⟨hbk, hr⟩ | ⟨hbk, hr⟩
      all_goals
        go_wp2_with (at_builtin; refine wpList_append_own _ rfl _ _ 22 rfl w.heap.size 5 i5 (.int .u8 0) 1 1 Tryd.underlying22 hi5 hz0 hz1 hz2 rfl (by decide) _ _ _ rfl (hown.alloc _) ⟨wr.heap.size, 0, none⟩ 1 1 [.int .u8 ((blkB k).toNat : Int)] rfl rfl (by rw [hbk]; exact cells_new _ _ 5 _ rfl) (byte_one _) (by unfold maxLen; omega) (by omega) (by simp; omega) ?_; intro vb wb hownb hgb _)
        go_roundw
        case rel => exact ⟨k + 1, by omega, by go_num, by rw [blkL_succ]; unfold Lib.byteCells at hownb ⊢; rw [List.map_append]; exact hownb, (hbr.alloc hbs _).grown hgb (by simp; omega) (fun j hj => (hown.lt j hj).1)⟩
        case measure => simp [intOf]; omega
    · obtain rfl : k = m := by omega
      rcases both B k hL hm50 with ⟨p, c, hc0, hpl, hq1, hq2⟩ | ⟨T, z, hq1, hq2⟩
      · have HP1 : Hid (∀ (v' : Value) (w' : World) (n : Nat), w'.ownsRow w.heap.size 5 1 v' n ([] ++ Lib.byteCells B) → Below w.heap.size w w' → Calls Tryd.prog 10 #[v'] w' fun e w'' => e = .returned (.tuple #[.slice none 0 0, .int .i64 p, .int .i64 c]) ∧ Below w'.heap.size w' w'') :=
          fun v' w' n ho hb => by
            have H := parse_row_own B (by simpa using ho) (tabs_below hb h2 HT.out) (Nat.le_trans h2 hb.size)
            rw [hq1] at H; exact H
        have HP2 : Hid (∀ (v' : Value) (w' : World) (n : Nat), w'.ownsRow w.heap.size 5 1 v' n (Lib.byteCells (blkL k) ++ Lib.byteCells B) → Below w.heap.size w w' → Calls Tryd.prog 10 #[v'] w' fun e w'' => e = .returned (.tuple #[.slice none 0 0, .int .i64 ((p + k : Nat) : Int), .int .i64 c]) ∧ Below w'.heap.size w' w'') :=
          fun v' w' n ho hb => by
            have H := parse_row_own (blkL k ++ B) (by unfold Lib.byteCells at ho ⊢; rw [List.map_append]; exact ho) (tabs_below hb h2 HT.out) (Nat.le_trans h2 hb.size)
            rw [hq2] at H; exact H
        have hcb : ((c : Int) == 0) = false := by simpa using hc0
        clear hq1 hq2
        go_wp2_with (first | (go_at_call 12; refine (same_true (T := []) ⟨none, 0, rfl, by simp, fun i x h => by simp at h⟩ ⟨none, 0, rfl, by simp, fun i x h => by simp at h⟩).mono ?_; rintro e w5 ⟨rfl, hb5⟩) | (go_at_call 10; refine (HP2.out _ _ _ (own_below hoa hb3) (hbb.trans (hb3.mono hbb.size))).mono ?_; rintro e w4 ⟨rfl, hb4⟩) | (go_at_call 10; refine (HP1.out _ _ _ hownb hbb).mono ?_; rintro e w3 ⟨rfl, hb3⟩) | (at_builtin; refine wpList_append_own _ rfl _ _ 22 rfl w.heap.size 5 i5 (.int .u8 0) 1 1 Tryd.underlying22 hi5 hz0 hz1 hz2 rfl (by decide) (.slice (some ⟨wa.heap.size, 0, none⟩) 0 0) 0 [] rfl (World.ownsRow_made _ #[] 0 hba.size (by decide) rfl) y B.length cap (Lib.byteCells B) rfl (by simp [Lib.byteCells_length]) ((HY.out _ (hba.alloc hba.size _)).news) (byteCells_one _) (by unfold maxLen; omega) (by omega) (by have := hba.size; simp; omega) ?_; intro vb wb hownb hgb _; have hbb := after_app hba hgb; have hoa := own_below howna (after_app (Below.refl wa.heap.size wa) hgb)) | (at_builtin; refine wpList_append_own _ rfl _ _ 22 rfl w.heap.size 5 i5 (.int .u8 0) 1 1 Tryd.underlying22 hi5 hz0 hz1 hz2 rfl (by decide) _ _ _ rfl hown y B.length cap (Lib.byteCells B) rfl (by simp [Lib.byteCells_length]) ((HY.out _ hbr).news) (byteCells_one _) (by unfold maxLen; omega) (by omega) hbs ?_; intro va wa howna hga _; have hba : Below w.heap.size w wa := hbr.grown hga hbs (fun j hj => (hown.lt j hj).1)))
        go_ret
        exact ⟨by simpa using hc0, ((hbb.trans (hb3.mono hbb.size)).trans (hb4.mono (hbb.trans (hb3.mono hbb.size)).size)).trans (hb5.mono ((hbb.trans (hb3.mono hbb.size)).trans (hb4.mono (hbb.trans (hb3.mono hbb.size)).size)).size)⟩
      · have HP1 : Hid (∀ (v' : Value) (w' : World) (n : Nat), w'.ownsRow w.heap.size 5 1 v' n ([] ++ Lib.byteCells B) → Below w.heap.size w w' → Calls Tryd.prog 10 #[v'] w' fun e w'' => ∃ ta tc, e = .returned (.tuple #[.slice ta T.length tc, .int .i64 0, .int .i64 0]) ∧ TreeAt w'' (.slice ta T.length tc) (T.map V.toI) ∧ Below w'.heap.size w' w'') :=
          fun v' w' n ho hb => by
            have H := parse_row_own B (by simpa using ho) (tabs_below hb h2 HT.out) (Nat.le_trans h2 hb.size)
            rw [hq1] at H
            refine Calls.mono H ?_
            rintro e w'' ⟨v, cs, rfl, ho2, hr, hb2⟩
            have ht := tree_own ho2 hr
            obtain ⟨ta, tc, rfl⟩ := own_shape ho2
            exact ⟨ta, tc, rfl, ht, hb2⟩
        have HP2 : Hid (∀ (v' : Value) (w' : World) (n : Nat), w'.ownsRow w.heap.size 5 1 v' n (Lib.byteCells (blkL k) ++ Lib.byteCells B) → Below w.heap.size w w' → Calls Tryd.prog 10 #[v'] w' fun e w'' => ∃ ta tc, e = .returned (.tuple #[.slice ta T.length tc, .int .i64 0, .int .i64 0]) ∧ TreeAt w'' (.slice ta T.length tc) (T.map V.toI) ∧ Below w'.heap.size w' w'') :=
          fun v' w' n ho hb => by
            have H := parse_row_own (blkL k ++ B) (by unfold Lib.byteCells at ho ⊢; rw [List.map_append]; exact ho) (tabs_below hb h2 HT.out) (Nat.le_trans h2 hb.size)
            rw [hq2] at H
            refine Calls.mono H ?_
            rintro e w'' ⟨v, cs, rfl, ho2, hr, hb2⟩
            have ht := tree_own ho2 hr
            obtain ⟨ta, tc, rfl⟩ := own_shape ho2
            exact ⟨ta, tc, rfl, ht, hb2⟩
        clear hq1 hq2
        go_wp2_with (first | (go_at_call 12; refine (same_true (ht3.later hb4) ht4).mono ?_; rintro e w5 ⟨rfl, hb5⟩) | (go_at_call 10; refine (HP2.out _ _ _ (own_below hoa hb3) (hbb.trans (hb3.mono hbb.size))).mono ?_; rintro e w4 ⟨tb, td, rfl, ht4, hb4⟩) | (go_at_call 10; refine (HP1.out _ _ _ hownb hbb).mono ?_; rintro e w3 ⟨ta, tc, rfl, ht3, hb3⟩) | (at_builtin; refine wpList_append_own _ rfl _ _ 22 rfl w.heap.size 5 i5 (.int .u8 0) 1 1 Tryd.underlying22 hi5 hz0 hz1 hz2 rfl (by decide) (.slice (some ⟨wa.heap.size, 0, none⟩) 0 0) 0 [] rfl (World.ownsRow_made _ #[] 0 hba.size (by decide) rfl) y B.length cap (Lib.byteCells B) rfl (by simp [Lib.byteCells_length]) ((HY.out _ (hba.alloc hba.size _)).news) (byteCells_one _) (by unfold maxLen; omega) (by omega) (by have := hba.size; simp; omega) ?_; intro vb wb hownb hgb _; have hbb := after_app hba hgb; have hoa := own_below howna (after_app (Below.refl wa.heap.size wa) hgb)) | (at_builtin; refine wpList_append_own _ rfl _ _ 22 rfl w.heap.size 5 i5 (.int .u8 0) 1 1 Tryd.underlying22 hi5 hz0 hz1 hz2 rfl (by decide) _ _ _ rfl hown y B.length cap (Lib.byteCells B) rfl (by simp [Lib.byteCells_length]) ((HY.out _ hbr).news) (byteCells_one _) (by unfold maxLen; omega) (by omega) hbs ?_; intro va wa howna hga _; have hba : Below w.heap.size w wa := hbr.grown hga hbs (fun j hj => (hown.lt j hj).1)))
        go_ret
        exact ⟨by simp, ((hbb.trans (hb3.mono hbb.size)).trans (hb4.mono (hbb.trans (hb3.mono hbb.size)).size)).trans (hb5.mono ((hbb.trans (hb3.mono hbb.size)).trans (hb4.mono (hbb.trans (hb3.mono hbb.size)).size)).size)⟩
set_option maxRecDepth 100000 in
set_option maxHeartbeats 3200000 in
theorem blanks_out (a : Option Addr) (len cap : Nat) (x : Int) (w : World) (ht : Lib.Utf8Tabs 0 1 w) (h2 : 2 ≤ w.heap.size) (hL : 60000 < len) :
    Calls Tryd.prog 4 #[.slice a len cap, .int .i64 x] w fun e w' => e = .returned (.bool true) ∧ Below w.heap.size w w' := by
  have HT : Hid (Lib.Utf8Tabs 0 1 w) := ht
  clear ht
  have hL' : 60000 < (len : Int) := by omega
  go_enter Tryd.func4, Tryd.ntmps4
  go_wp2_with (go_at_call 9; refine (awake_any w HT.out h2).mono ?_; rintro e w1 ⟨rfl, hb1⟩)
  go_ret
  exact ⟨rfl, hb1⟩
end Go.Proofs.YtedhglphnmheiaaDoor
