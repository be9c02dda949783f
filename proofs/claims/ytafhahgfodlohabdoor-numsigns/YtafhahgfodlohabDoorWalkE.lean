/-
  What the calls of num.Parse, num.Text and of the fixed facts (Awake) do.
-/
import Derived.Test.YtafhahgfodlohabDoorWalkD
import Derived.Test.YtafhahgfodlohabDoorShelf
import Derived.Lib.AppendIntMem
namespace Go.Proofs.YtafhahgfodlohabDoor
open Go.RowKit

theorem cntV_bd (l : List UInt8) : 0 ≤ cntV l ∧ cntV l ≤ 4611686018427387903 := by
  unfold cntV
  by_cases h : valN l ≤ 4611686018427387903 <;> simp [h] <;> omega
theorem below_at (s : ByteArray) (h : 0 < s.size) : belowB s.data.toList = ((s[0].toNat : Int) == 45) := by
  unfold belowB; rw [head_at s h, Bool.eq_iff_iff]
  simp only [beq_iff_eq, Option.some.injEq]
  rw [← UInt8.toNat_inj]
  have : (45 : UInt8).toNat = 45 := rfl
  omega

theorem drop_one (s : ByteArray) : (s.extract 1 s.size).data.toList = s.data.toList.drop 1 := by
  have h : s.size = s.data.size := rfl
  rw [ByteArray.data_extract, Array.toList_extract, List.extract_eq_take_drop, h]
  rw [List.take_of_length_le (by simp)]

set_option maxHeartbeats 400000 in
theorem nparse_pos (s : ByteArray) (w : World) (hs : s.size ≤ maxLen) (hb : s.size = 0 ∨ ∃ h : 0 < s.size, ((s[0].toNat : Int) == 45) = false) :
    Calls Tryd.prog 8 #[.string s] w fun e w' => e = .returned (.tuple #[.int .i64 (parV s.data.toList), .int .i64 (parE s.data.toList)]) ∧ w' = w := by
  have hs' := hs
  unfold maxLen at hs
  have HB : Hid (belowB s.data.toList = false) := by
    show _ = _
    rcases hb with h0 | ⟨h0, h1⟩
    · have he : s.data.toList = [] := List.length_eq_zero_iff.1 h0
      rw [he]; rfl
    · rw [below_at s h0, h1]
  have HD : Hid (digitsL s.data.toList = s.data.toList) := by show _ = _; simp [digitsL, HB.out]
  cases hp : plainB s.data.toList
  · have HR : Hid (parV s.data.toList = 0 ∧ parE s.data.toList = 11) := by
      show _ ∧ _; simp [parV, parE, parOk, HD.out, hp]
    rcases hb with hb | ⟨hb0, hb⟩
    all_goals
      go_enter Tryd.func8, Tryd.ntmps8
      go_wp2_with (go_at_call 13; refine (plain_any _ _ hs').mono ?_; rintro e w' ⟨rfl, rfl⟩)
      go_ret2
      exact ⟨by rw [HR.out.1, HR.out.2]; rfl, rfl⟩
  · have HR : Hid (parV s.data.toList = cntV s.data.toList ∧ parE s.data.toList = cntE s.data.toList) := by
      show _ ∧ _; simp [parV, parE, parOk, HD.out, hp, HB.out]
    have HA : Hid (s.data.toList.all digB = true) := by
      show _ = _
      simp only [plainB, Bool.and_eq_true] at hp; exact hp.2
    rcases hb with hb | ⟨hb0, hb⟩
    all_goals
      go_enter Tryd.func8, Tryd.ntmps8
      go_wp2_with (first | (go_at_call 13; refine (plain_any _ _ hs').mono ?_; rintro e w' ⟨rfl, rfl⟩) | (go_at_call 14; refine (count_any _ _ hs' HA.out).mono ?_; rintro e w' ⟨rfl, rfl⟩))
      go_ret2
      exact ⟨by rw [HR.out.1, HR.out.2]; rfl, rfl⟩

theorem plain_is (b : Bool) (s : ByteArray) (w : World) (hs : s.size ≤ maxLen) (h : plainB s.data.toList = b) :
    Calls Tryd.prog 13 #[.string s] w fun e w' => e = .returned (.bool b) ∧ w' = w := by
  rw [← h]; exact plain_any s w hs

theorem count_is (v x : Int) (s : ByteArray) (w : World) (hs : s.size ≤ maxLen) (hd : s.data.toList.all digB = true) (hv : Hid (cntV s.data.toList = v)) (hx : Hid (cntE s.data.toList = x)) :
    Calls Tryd.prog 14 #[.string s] w fun e w' => e = .returned (.tuple #[.int .i64 v, .int .i64 x]) ∧ w' = w := by
  rw [← hv.out, ← hx.out]; exact count_any s w hs hd

set_option maxHeartbeats 400000 in
theorem nparse_neg (s : ByteArray) (w : World) (hs : s.size ≤ maxLen) (h0 : 0 < s.size) (hb : ((s[0].toNat : Int) == 45) = true) :
    Calls Tryd.prog 8 #[.string s] w fun e w' => e = .returned (.tuple #[.int .i64 (parV s.data.toList), .int .i64 (parE s.data.toList)]) ∧ w' = w := by
  have hs' : (s.extract 1 s.size).size ≤ maxLen := by unfold maxLen at *; simp; omega
  unfold maxLen at hs
  have HB : Hid (belowB s.data.toList = true) := by show _ = _; rw [below_at s h0, hb]
  have HD : Hid (digitsL s.data.toList = (s.extract 1 s.size).data.toList) := by show _ = _; rw [drop_one]; simp [digitsL, HB.out]
  cases hp : plainB (s.extract 1 s.size).data.toList
  · have HR : Hid (parV s.data.toList = 0 ∧ parE s.data.toList = 11) := by
      show _ ∧ _; simp only [parV, parE, parOk, HD.out, hp]; simp
    go_enter Tryd.func8, Tryd.ntmps8
    go_wp2_with (go_at_call 13; refine (plain_is false _ _ hs' hp).mono ?_; rintro e w' ⟨rfl, rfl⟩)
    go_ret2
    exact ⟨by rw [HR.out.1, HR.out.2]; rfl, rfl⟩
  · have HA : Hid ((s.extract 1 s.size).data.toList.all digB = true) := by
      show _ = _
      simp only [plainB, Bool.and_eq_true] at hp; exact hp.2
    have HP : Hid (plainB (s.extract 1 s.size).data.toList = true) := hp
    clear hp
    cases hz : ((s.extract 1 s.size).toList == [48])
    · obtain ⟨v, hv⟩ : ∃ v, Hid (cntV (s.extract 1 s.size).data.toList = v) := ⟨_, rfl⟩
      obtain ⟨x, hx⟩ : ∃ x, Hid (cntE (s.extract 1 s.size).data.toList = x) := ⟨_, rfl⟩
      have HR : Hid (parV s.data.toList = -v ∧ parE s.data.toList = x) := by
        show _ ∧ _
        rw [ByteArray.toList_eq] at hz
        simp only [parV, parE, parOk, HD.out, HP.out, HB.out, hz, hv.out, hx.out]; simp
      have hbd := cntV_bd (s.extract 1 s.size).data.toList
      rw [hv.out] at hbd
      obtain ⟨hv1, hv2⟩ := hbd
      go_enter Tryd.func8, Tryd.ntmps8
      go_wp2_with (first | (go_at_call 13; refine (plain_is true _ _ hs' HP.out).mono ?_; rintro e w' ⟨rfl, rfl⟩) | (go_at_call 14; refine (count_is v x _ _ hs' HA.out hv hx).mono ?_; rintro e w' ⟨rfl, rfl⟩))
      go_ret2
      exact ⟨by rw [HR.out.1, HR.out.2]; rfl, rfl⟩
    · have HR : Hid (parV s.data.toList = 0 ∧ parE s.data.toList = 11) := by
        show _ ∧ _
        rw [ByteArray.toList_eq] at hz
        simp only [parV, parE, parOk, HD.out, HP.out, HB.out, hz]; simp
      go_enter Tryd.func8, Tryd.ntmps8
      go_wp2_with (first | (go_at_call 13; refine (plain_is true _ _ hs' HP.out).mono ?_; rintro e w' ⟨rfl, rfl⟩))
      go_ret2
      exact ⟨by rw [HR.out.1, HR.out.2]; rfl, rfl⟩

theorem nparse_any (s : ByteArray) (w : World) (hs : s.size ≤ maxLen) :
    Calls Tryd.prog 8 #[.string s] w fun e w' => e = .returned (.tuple #[.int .i64 (parV s.data.toList), .int .i64 (parE s.data.toList)]) ∧ w' = w := by
  by_cases h0 : s.size = 0
  · exact nparse_pos s w hs (.inl h0)
  · cases hb : ((s[0].toNat : Int) == 45)
    · exact nparse_pos s w hs (.inr ⟨by omega, hb⟩)
    · exact nparse_neg s w hs (by omega) hb

theorem parse_is (v x : Int) (s : ByteArray) (w : World) (hs : s.size ≤ maxLen) (hv : parV s.data.toList = v) (hx : parE s.data.toList = x) :
    Calls Tryd.prog 8 #[.string s] w fun e w' => e = .returned (.tuple #[.int .i64 v, .int .i64 x]) ∧ w' = w := by
  rw [← hv, ← hx]; exact nparse_any s w hs

/-- The library's table of the powers of ten. -/
def Tab (w : World) : Prop := Lib.TabIs Tryd.prog w "internal/strconv.uint64pow10" .u64 Lib.pow10Tab

set_option maxHeartbeats 400000 in
theorem text_any (n : Int) (h0 : -9223372036854775808 ≤ n) (h1 : n ≤ 9223372036854775807) (w : World) (ht : Tab w) :
    Calls Tryd.prog 9 #[.int .i64 n] w fun e w' => e = .returned (.string ⟨(Lib.itoa n).toArray⟩) ∧ Below w.heap.size w w' := by
  have hi := Tryd.strconv_Itoa n h0 h1 w ht
  have H : Hid (Calls Tryd.prog 15 #[.int .i64 n] w fun e w' => e = .returned (.string ⟨(Lib.itoa n).toArray⟩) ∧ ∃ k os, w' = Sort.grow (w.drewN k) os) := hi
  clear hi ht
  go_enter Tryd.func9, Tryd.ntmps9
  go_wp2_with (go_at_call 15; refine H.out.mono ?_; rintro e w' ⟨rfl, k, os, rfl⟩)
  go_ret
  exact ⟨rfl, Lib.below_grow _ w (Nat.le_refl _) k os⟩

theorem text_is (l : List UInt8) (n : Int) (h0 : -9223372036854775808 ≤ n) (h1 : n ≤ 9223372036854775807) (w : World) (ht : Tab w) (hl : Lib.itoa n = l) :
    Calls Tryd.prog 9 #[.int .i64 n] w fun e w' => e = .returned (.string ⟨l.toArray⟩) ∧ Below w.heap.size w w' := by
  rw [← hl]; exact text_any n h0 h1 w ht

theorem dec_small (u : Nat) (h : u < 10) : Lib.decDigits u = [UInt8.ofNat (48 + u)] := by
  rw [Lib.decDigits, dif_pos h]
theorem dec_step (u : Nat) (h : 10 ≤ u) : Lib.decDigits u = Lib.decDigits (u / 10) ++ [UInt8.ofNat (48 + u % 10)] := by
  rw [Lib.decDigits, dif_neg (by omega)]
theorem least_text : Lib.itoa (-9223372036854775808) = [45, 57, 50, 50, 51, 51, 55, 50, 48, 51, 54, 56, 53, 52, 55, 55, 53, 56, 48, 56] := by
  have e : (-9223372036854775808 : Int).natAbs = 9223372036854775808 := rfl
  rw [Lib.itoa, if_pos (by decide), e]
  simp [dec_step, dec_small]

theorem mul_is (v x a b : Int) (w : World) (hv : mulV a b = v) (hx : mulE a b = x) :
    Calls Tryd.prog 7 #[.int .i64 a, .int .i64 b] w fun e w' => e = .returned (.tuple #[.int .i64 v, .int .i64 x]) ∧ w' = w := by
  rw [← hv, ← hx]; exact nmul_any a b w

set_option maxHeartbeats 400000 in
theorem awake_any (w : World) (ht : Tab w) :
    Calls Tryd.prog 4 #[] w fun e w' => e = .returned (.bool true) ∧ Below w.heap.size w w' := by
  have HT : Hid (Tab w) := ht
  clear ht
  go_enter Tryd.func4, Tryd.ntmps4
  go_wp2_with (first | (go_at_call 7; refine (mul_is 0 10 _ _ _ (by decide) (by decide)).mono ?_; rintro e w' ⟨rfl, rfl⟩) | (go_at_call 8; refine (parse_is (-12) 0 _ _ (by decide) (by decide) (by decide)).mono ?_; rintro e w' ⟨rfl, rfl⟩) | (go_at_call 9; refine (text_is _ _ (by decide) (by decide) _ HT.out least_text).mono ?_; rintro e w'' ⟨rfl, hb⟩))
  go_ret
  exact ⟨rfl, hb⟩

end Go.Proofs.YtafhahgfodlohabDoor
