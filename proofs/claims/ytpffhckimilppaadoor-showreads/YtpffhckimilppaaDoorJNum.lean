/-
  What the calls of num.plain, num.count and num.Parse do.
-/
import Derived.Test.YtpffhckimilppaaDoorJText
import Derived.Test.YtpffhckimilppaaDoorJBase
namespace Go.Proofs.YtpffhckimilppaaDoor.Js
open Go.RowKit

set_option maxHeartbeats 400000 in
theorem count_any (s : ByteArray) (w : World) (hs : s.size ≤ maxLen) (hd : s.data.toList.all digB = true) :
    Calls Tryd.prog 78 #[.string s] w fun e w' => e = .returned (.tuple #[.int .i64 (cntV s.data.toList), .int .i64 (cntE s.data.toList)]) ∧ w' = w := by
  unfold maxLen at hs
  have HD : Hid (s.data.toList.all digB = true) := hd
  clear hd
  go_enter Tryd.func78, Tryd.ntmps78
  go_wp2
  go_loop [4, 9] (fun n i => ∃ k : Nat, k ≤ s.size ∧ i = .int .i64 k ∧ n = .int .i64 (valN (s.data.toList.take k)) ∧ valN (s.data.toList.take k) ≤ 4611686018427387903) (fun _ i => s.size - (intOf i).toNat)
  case atStart => exact ⟨0, Nat.zero_le _, rfl, rfl, by simp [valN]⟩
  case round =>
    obtain ⟨k, hk, rfl, rfl, hb⟩ := hrel
    by_cases hlt : k < s.size
    · obtain ⟨hc1, hc2⟩ := all_at s k hlt HD.out
      have HS : Hid (valN (s.data.toList.take (k + 1)) = 10 * valN (s.data.toList.take k) + (s[k].toNat - 48)) := by
        show _ = _; rw [take_snoc s k hlt, valN_snoc]
      have HL : Hid (valN (s.data.toList.take (k + 1)) ≤ valN s.data.toList) := valN_take_le _ _
      by_cases hq : (4611686018427387903 - ((s[k].toNat : Int) - 48)) / 10 < (valN (s.data.toList.take k) : Int)
      · have HE : Hid (¬ valN s.data.toList ≤ 4611686018427387903) := by
          show ¬ _
          have h1 := HS.out
          have h2 := HL.out
          omega
        go_wp2
        go_ret2
        exact ⟨by rw [show cntV s.data.toList = 0 by simp [cntV, HE.out], show cntE s.data.toList = 10 by simp [cntE, HE.out]]; rfl, rfl⟩
      · go_wp2
        go_round
        case rel => exact ⟨k + 1, by omega, by go_num, by rw [HS.out]; go_num, by rw [HS.out]; omega⟩
        case measure => simp [intOf]; omega
    · have HF : Hid (valN (s.data.toList.take k) = valN s.data.toList) := by
        show _ = _; rw [List.take_of_length_le (by simp; omega)]
      have HV : Hid (cntV s.data.toList = (valN (s.data.toList.take k) : Int)) := by
        show _ = _; rw [HF.out] at hb ⊢; simp [cntV, hb]
      have HE : Hid (cntE s.data.toList = 0) := by
        show _ = _; rw [HF.out] at hb; simp [cntE, hb]
      go_wp2
      go_ret2
      exact ⟨by rw [HV.out, HE.out]; rfl, rfl⟩

theorem plain_no (l : List UInt8) (h : l.all digB = false) : plainB l = false := by simp [plainB, h]

theorem empty_iff (s : ByteArray) : s.toList.isEmpty = decide (s.size = 0) := by
  rw [ByteArray.toList_eq]
  have : s.size = s.data.toList.length := rfl
  rw [this]
  cases s.data.toList <;> simp
theorem head_at (s : ByteArray) (h : 0 < s.size) : s.data.toList.head? = some s[0] := by
  have e : s[0] = s.data.toList[0]'(by simpa using h) := rfl
  rw [e, List.head?_eq_getElem?, List.getElem?_eq_getElem]
theorem digB_at (c : UInt8) (h1 : 48 ≤ (c.toNat : Int)) (h2 : (c.toNat : Int) ≤ 57) : digB c = true := by simp [digB, h1, h2]
theorem digB_lo (c : UInt8) (h1 : (c.toNat : Int) < 48) : digB c = false := by simp [digB]; omega
theorem digB_hi (c : UInt8) (h1 : 57 < (c.toNat : Int)) : digB c = false := by simp [digB]; omega
theorem plain_yes (s : ByteArray) (h0 : 0 < s.size) (hz : ¬ (1 < s.size ∧ (s[0].toNat : Int) = 48)) : plainB s.data.toList = s.data.toList.all digB := by
  have hl : s.size = s.data.toList.length := rfl
  have hh := head_at s h0
  unfold plainB
  rw [hh, ← hl]
  have he : s.data.toList.isEmpty = false := by
    rw [List.isEmpty_eq_false_iff]; intro e; have h2 : s.size = 0 := by rw [hl, e]; rfl
    omega
  rw [he]
  by_cases h1 : 1 < s.size
  · have hn : ¬ s[0] = 48 := fun e => hz ⟨h1, by rw [e]; rfl⟩
    simp [h1, hn]
  · simp [h1]
theorem plain_zero (s : ByteArray) (h1 : 1 < s.size) (hc : (s[0].toNat : Int) = 48) : plainB s.data.toList = false := by
  have hl : s.size = s.data.toList.length := rfl
  have hh := head_at s (by omega)
  have hn : s[0] = 48 := UInt8.toNat_inj.1 (by have : (48 : UInt8).toNat = 48 := rfl; omega)
  unfold plainB
  rw [hh, ← hl, hn]
  simp [h1]

set_option maxHeartbeats 400000 in
theorem plain_any (s : ByteArray) (w : World) (hs : s.size ≤ maxLen) :
    Calls Tryd.prog 77 #[.string s] w fun e w' => e = .returned (.bool (plainB s.data.toList)) ∧ w' = w := by
  unfold maxLen at hs
  by_cases h0 : s.size = 0
  · have he : s.toList.isEmpty = true := by rw [empty_iff]; simp [h0]
    have HP : Hid (plainB s.data.toList = false) := by
      show _ = _
      rw [ByteArray.toList_eq] at he
      simp [plainB, he]
    clear h0
    go_enter Tryd.func77, Tryd.ntmps77
    go_wp2
    go_ret
    exact ⟨by rw [HP.out]; rfl, rfl⟩
  · have he : s.toList.isEmpty = false := by rw [empty_iff]; simp [h0]
    have hp : 0 < s.size := by omega
    by_cases hz : 1 < s.size ∧ (s[0].toNat : Int) = 48
    · obtain ⟨hz1, hz2⟩ := hz
      have HP : Hid (plainB s.data.toList = false) := plain_zero s hz1 hz2
      go_enter Tryd.func77, Tryd.ntmps77
      go_wp2
      go_ret
      exact ⟨by rw [HP.out]; rfl, rfl⟩
    · have HP : Hid (plainB s.data.toList = s.data.toList.all digB) := plain_yes s hp hz
      have hc : ¬ 1 < s.size ∨ 1 < s.size ∧ ((s[0].toNat : Int) == 48) = false := by
        by_cases h1 : 1 < s.size
        · right; exact ⟨h1, by simpa using fun e => hz ⟨h1, e⟩⟩
        · left; exact h1
      clear hz
      rcases hc with hc | ⟨h1, hc⟩
      all_goals
        go_enter Tryd.func77, Tryd.ntmps77
        go_wp2
        go_loop [18] (fun i => ∃ k : Nat, k ≤ s.size ∧ i = .int .i64 k ∧ (s.data.toList.take k).all digB = true) (fun i => s.size - (intOf i).toNat)
        case atStart => exact ⟨0, Nat.zero_le _, rfl, by simp⟩
        case round =>
          obtain ⟨k, hk, rfl, ha⟩ := hrel
          have HA : Hid ((s.data.toList.take k).all digB = true) := ha
          clear ha
          by_cases hlt : k < s.size
          · have HS : Hid ((s.data.toList.take (k + 1)).all digB = ((s.data.toList.take k).all digB && digB s[k])) := all_snoc s k hlt
            have HN : Hid (digB s[k] = false → s.data.toList.all digB = false) := all_no s k hlt
            by_cases hc1 : (s[k].toNat : Int) < 48
            · go_wp2
              go_ret
              exact ⟨by rw [HP.out, HN.out (digB_lo _ hc1)]; rfl, rfl⟩
            · by_cases hc2 : 57 < (s[k].toNat : Int)
              · go_wp2
                go_ret
                exact ⟨by rw [HP.out, HN.out (digB_hi _ hc2)]; rfl, rfl⟩
              · go_wp2
                go_round
                case rel => exact ⟨k + 1, by omega, by go_num, by rw [HS.out, HA.out, digB_at _ (by omega) (by omega)]; rfl⟩
                case measure => simp [intOf]; omega
          · have HF : Hid (s.data.toList.all digB = true) := all_full s k (by omega) HA.out
            go_wp2
            go_ret
            exact ⟨by rw [HP.out, HF.out]; rfl, rfl⟩

theorem cntV_bd (l : List UInt8) : 0 ≤ cntV l ∧ cntV l ≤ 4611686018427387903 := by
  unfold cntV
  by_cases h : valN l ≤ 4611686018427387903 <;> simp [h] <;> omega
theorem below_at (s : ByteArray) (h : 0 < s.size) : belowB s.data.toList = ((s[0].toNat : Int) == 45) := by
  unfold belowB; rw [head_at s h, Bool.eq_iff_iff]
  simp only [beq_iff_eq, Option.some.injEq]
  rw [← UInt8.toNat_inj]
  have : (45 : UInt8).toNat = 45 := rfl
  omega

theorem drop_one (s : ByteArray) : (s.extract 1 s.size).data.toList = s.data.toList.drop 1 := by
  have h : s.size = s.data.size := rfl
  rw [ByteArray.data_extract, Array.toList_extract, List.extract_eq_take_drop, h]
  rw [List.take_of_length_le (by simp)]

set_option maxHeartbeats 400000 in
theorem nparse_pos (s : ByteArray) (w : World) (hs : s.size ≤ maxLen) (hb : s.size = 0 ∨ ∃ h : 0 < s.size, ((s[0].toNat : Int) == 45) = false) :
    Calls Tryd.prog 66 #[.string s] w fun e w' => e = .returned (.tuple #[.int .i64 (parV s.data.toList), .int .i64 (parE s.data.toList)]) ∧ w' = w := by
  have hs' := hs
  unfold maxLen at hs
  have HB : Hid (belowB s.data.toList = false) := by
    show _ = _
    rcases hb with h0 | ⟨h0, h1⟩
    · have he : s.data.toList = [] := List.length_eq_zero_iff.1 h0
      rw [he]; rfl
    · rw [below_at s h0, h1]
  have HD : Hid (digitsL s.data.toList = s.data.toList) := by show _ = _; simp [digitsL, HB.out]
  cases hp : plainB s.data.toList
  · have HR : Hid (parV s.data.toList = 0 ∧ parE s.data.toList = 11) := by
      show _ ∧ _; simp [parV, parE, parOk, HD.out, hp]
    rcases hb with hb | ⟨hb0, hb⟩
    all_goals
      go_enter Tryd.func66, Tryd.ntmps66
      go_wp2_with (go_at_call 77; refine (plain_any _ _ hs').mono ?_; rintro e w' ⟨rfl, rfl⟩)
      go_ret2
      exact ⟨by rw [HR.out.1, HR.out.2]; rfl, rfl⟩
  · have HR : Hid (parV s.data.toList = cntV s.data.toList ∧ parE s.data.toList = cntE s.data.toList) := by
      show _ ∧ _; simp [parV, parE, parOk, HD.out, hp, HB.out]
    have HA : Hid (s.data.toList.all digB = true) := by
      show _ = _
      simp only [plainB, Bool.and_eq_true] at hp; exact hp.2
    rcases hb with hb | ⟨hb0, hb⟩
    all_goals
      go_enter Tryd.func66, Tryd.ntmps66
      go_wp2_with (first | (go_at_call 77; refine (plain_any _ _ hs').mono ?_; rintro e w' ⟨rfl, rfl⟩) | (go_at_call 78; refine (count_any _ _ hs' HA.out).mono ?_; rintro e w' ⟨rfl, rfl⟩))
      go_ret2
      exact ⟨by rw [HR.out.1, HR.out.2]; rfl, rfl⟩

theorem plain_is (b : Bool) (s : ByteArray) (w : World) (hs : s.size ≤ maxLen) (h : plainB s.data.toList = b) :
    Calls Tryd.prog 77 #[.string s] w fun e w' => e = .returned (.bool b) ∧ w' = w := by
  rw [← h]; exact plain_any s w hs

theorem count_is (v x : Int) (s : ByteArray) (w : World) (hs : s.size ≤ maxLen) (hd : s.data.toList.all digB = true) (hv : Hid (cntV s.data.toList = v)) (hx : Hid (cntE s.data.toList = x)) :
    Calls Tryd.prog 78 #[.string s] w fun e w' => e = .returned (.tuple #[.int .i64 v, .int .i64 x]) ∧ w' = w := by
  rw [← hv.out, ← hx.out]; exact count_any s w hs hd

set_option maxHeartbeats 400000 in
theorem nparse_neg (s : ByteArray) (w : World) (hs : s.size ≤ maxLen) (h0 : 0 < s.size) (hb : ((s[0].toNat : Int) == 45) = true) :
    Calls Tryd.prog 66 #[.string s] w fun e w' => e = .returned (.tuple #[.int .i64 (parV s.data.toList), .int .i64 (parE s.data.toList)]) ∧ w' = w := by
  have hs' : (s.extract 1 s.size).size ≤ maxLen := by unfold maxLen at *; simp; omega
  unfold maxLen at hs
  have HB : Hid (belowB s.data.toList = true) := by show _ = _; rw [below_at s h0, hb]
  have HD : Hid (digitsL s.data.toList = (s.extract 1 s.size).data.toList) := by show _ = _; rw [drop_one]; simp [digitsL, HB.out]
  cases hp : plainB (s.extract 1 s.size).data.toList
  · have HR : Hid (parV s.data.toList = 0 ∧ parE s.data.toList = 11) := by
      show _ ∧ _; simp only [parV, parE, parOk, HD.out, hp]; simp
    go_enter Tryd.func66, Tryd.ntmps66
    go_wp2_with (go_at_call 77; refine (plain_is false _ _ hs' hp).mono ?_; rintro e w' ⟨rfl, rfl⟩)
    go_ret2
    exact ⟨by rw [HR.out.1, HR.out.2]; rfl, rfl⟩
  · have HA : Hid ((s.extract 1 s.size).data.toList.all digB = true) := by
      show _ = _
      simp only [plainB, Bool.and_eq_true] at hp; exact hp.2
    have HP : Hid (plainB (s.extract 1 s.size).data.toList = true) := hp
    clear hp
    cases hz : ((s.extract 1 s.size).toList == [48])
    · obtain ⟨v, hv⟩ : ∃ v, Hid (cntV (s.extract 1 s.size).data.toList = v) := ⟨_, rfl⟩
      obtain ⟨x, hx⟩ : ∃ x, Hid (cntE (s.extract 1 s.size).data.toList = x) := ⟨_, rfl⟩
      have HR : Hid (parV s.data.toList = -v ∧ parE s.data.toList = x) := by
        show _ ∧ _
        rw [ByteArray.toList_eq] at hz
        simp only [parV, parE, parOk, HD.out, HP.out, HB.out, hz, hv.out, hx.out]; simp
      have hbd := cntV_bd (s.extract 1 s.size).data.toList
      rw [hv.out] at hbd
      obtain ⟨hv1, hv2⟩ := hbd
      go_enter Tryd.func66, Tryd.ntmps66
      go_wp2_with (first | (go_at_call 77; refine (plain_is true _ _ hs' HP.out).mono ?_; rintro e w' ⟨rfl, rfl⟩) | (go_at_call 78; refine (count_is v x _ _ hs' HA.out hv hx).mono ?_; rintro e w' ⟨rfl, rfl⟩))
      go_ret2
      exact ⟨by rw [HR.out.1, HR.out.2]; rfl, rfl⟩
    · have HR : Hid (parV s.data.toList = 0 ∧ parE s.data.toList = 11) := by
        show _ ∧ _
        rw [ByteArray.toList_eq] at hz
        simp only [parV, parE, parOk, HD.out, HP.out, HB.out, hz]; simp
      go_enter Tryd.func66, Tryd.ntmps66
      go_wp2_with (first | (go_at_call 77; refine (plain_is true _ _ hs' HP.out).mono ?_; rintro e w' ⟨rfl, rfl⟩))
      go_ret2
      exact ⟨by rw [HR.out.1, HR.out.2]; rfl, rfl⟩

theorem nparse_any (s : ByteArray) (w : World) (hs : s.size ≤ maxLen) :
    Calls Tryd.prog 66 #[.string s] w fun e w' => e = .returned (.tuple #[.int .i64 (parV s.data.toList), .int .i64 (parE s.data.toList)]) ∧ w' = w := by
  by_cases h0 : s.size = 0
  · exact nparse_pos s w hs (.inl h0)
  · cases hb : ((s[0].toNat : Int) == 45)
    · exact nparse_pos s w hs (.inr ⟨by omega, hb⟩)
    · exact nparse_neg s w hs (by omega) hb

theorem parse_is (v x : Int) (s : ByteArray) (w : World) (hs : s.size ≤ maxLen) (hv : parV s.data.toList = v) (hx : parE s.data.toList = x) :
    Calls Tryd.prog 66 #[.string s] w fun e w' => e = .returned (.tuple #[.int .i64 v, .int .i64 x]) ∧ w' = w := by
  rw [← hv, ← hx]; exact nparse_any s w hs

end Go.Proofs.YtpffhckimilppaaDoor.Js