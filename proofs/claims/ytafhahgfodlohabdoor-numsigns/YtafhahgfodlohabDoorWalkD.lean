/-
  What the calls of num.plain and num.count do.
-/
import Derived.Test.YtafhahgfodlohabDoorWalkC
import Derived.Test.YtafhahgfodlohabDoorText
namespace Go.Proofs.YtafhahgfodlohabDoor
open Go.RowKit

set_option maxHeartbeats 400000 in
theorem count_any (s : ByteArray) (w : World) (hs : s.size ≤ maxLen) (hd : s.data.toList.all digB = true) :
    Calls Tryd.prog 14 #[.string s] w fun e w' => e = .returned (.tuple #[.int .i64 (cntV s.data.toList), .int .i64 (cntE s.data.toList)]) ∧ w' = w := by
  unfold maxLen at hs
  have HD : Hid (s.data.toList.all digB = true) := hd
  clear hd
  go_enter Tryd.func14, Tryd.ntmps14
  go_wp2
  go_loop [4, 9] (fun n i => ∃ k : Nat, k ≤ s.size ∧ i = .int .i64 k ∧ n = .int .i64 (valN (s.data.toList.take k)) ∧ valN (s.data.toList.take k) ≤ 4611686018427387903) (fun _ i => s.size - (intOf i).toNat)
  case atStart => exact ⟨0, Nat.zero_le _, rfl, rfl, by simp [valN]⟩
  case round =>
    obtain ⟨k, hk, rfl, rfl, hb⟩ := hrel
    by_cases hlt : k < s.size
    · obtain ⟨hc1, hc2⟩ := all_at s k hlt HD.out
      have HS : Hid (valN (s.data.toList.take (k + 1)) = 10 * valN (s.data.toList.take k) + (s[k].toNat - 48)) := by
        show _ = _; rw [take_snoc s k hlt, valN_snoc]
      have HL : Hid (valN (s.data.toList.take (k + 1)) ≤ valN s.data.toList) := valN_take_le _ _
      by_cases hq : (4611686018427387903 - ((s[k].toNat : Int) - 48)) / 10 < (valN (s.data.toList.take k) : Int)
      · have HE : Hid (¬ valN s.data.toList ≤ 4611686018427387903) := by
          show ¬ _
          have h1 := HS.out
          have h2 := HL.out
          omega
        go_wp2
        go_ret2
        exact ⟨by rw [show cntV s.data.toList = 0 by simp [cntV, HE.out], show cntE s.data.toList = 10 by simp [cntE, HE.out]]; rfl, rfl⟩
      · go_wp2
        go_round
        case rel => exact ⟨k + 1, by omega, by go_num, by rw [HS.out]; go_num, by rw [HS.out]; omega⟩
        case measure => simp [intOf]; omega
    · have HF : Hid (valN (s.data.toList.take k) = valN s.data.toList) := by
        show _ = _; rw [List.take_of_length_le (by simp; omega)]
      have HV : Hid (cntV s.data.toList = (valN (s.data.toList.take k) : Int)) := by
        show _ = _; rw [HF.out] at hb ⊢; simp [cntV, hb]
      have HE : Hid (cntE s.data.toList = 0) := by
        show _ = _; rw [HF.out] at hb; simp [cntE, hb]
      go_wp2
      go_ret2
      exact ⟨by rw [HV.out, HE.out]; rfl, rfl⟩

theorem plain_no (l : List UInt8) (h : l.all digB = false) : plainB l = false := by simp [plainB, h]

theorem empty_iff (s : ByteArray) : s.toList.isEmpty = decide (s.size = 0) := by
  rw [ByteArray.toList_eq]
  have : s.size = s.data.toList.length := rfl
  rw [this]
  cases s.data.toList <;> simp
theorem head_at (s : ByteArray) (h : 0 < s.size) : s.data.toList.head? = some s[0] := by
  have e : s[0] = s.data.toList[0]'(by simpa using h) := rfl
  rw [e, List.head?_eq_getElem?, List.getElem?_eq_getElem]
theorem digB_at (c : UInt8) (h1 : 48 ≤ (c.toNat : Int)) (h2 : (c.toNat : Int) ≤ 57) : digB c = true := by simp [digB, h1, h2]
theorem digB_lo (c : UInt8) (h1 : (c.toNat : Int) < 48) : digB c = false := by simp [digB]; omega
theorem digB_hi (c : UInt8) (h1 : 57 < (c.toNat : Int)) : digB c = false := by simp [digB]; omega
theorem plain_yes (s : ByteArray) (h0 : 0 < s.size) (hz : ¬ (1 < s.size ∧ (s[0].toNat : Int) = 48)) : plainB s.data.toList = s.data.toList.all digB := by
  have hl : s.size = s.data.toList.length := rfl
  have hh := head_at s h0
  unfold plainB
  rw [hh, ← hl]
  have he : s.data.toList.isEmpty = false := by
    rw [List.isEmpty_eq_false_iff]; intro e; have h2 : s.size = 0 := by rw [hl, e]; rfl
    omega
  rw [he]
  by_cases h1 : 1 < s.size
  · have hn : ¬ s[0] = 48 := fun e => hz ⟨h1, by rw [e]; rfl⟩
    simp [h1, hn]
  · simp [h1]
theorem plain_zero (s : ByteArray) (h1 : 1 < s.size) (hc : (s[0].toNat : Int) = 48) : plainB s.data.toList = false := by
  have hl : s.size = s.data.toList.length := rfl
  have hh := head_at s (by omega)
  have hn : s[0] = 48 := UInt8.toNat_inj.1 (by have : (48 : UInt8).toNat = 48 := rfl; omega)
  unfold plainB
  rw [hh, ← hl, hn]
  simp [h1]

set_option maxHeartbeats 400000 in
theorem plain_any (s : ByteArray) (w : World) (hs : s.size ≤ maxLen) :
    Calls Tryd.prog 13 #[.string s] w fun e w' => e = .returned (.bool (plainB s.data.toList)) ∧ w' = w := by
  unfold maxLen at hs
  by_cases h0 : s.size = 0
  · have he : s.toList.isEmpty = true := by rw [empty_iff]; simp [h0]
    have HP : Hid (plainB s.data.toList = false) := by
      show _ = _
      rw [ByteArray.toList_eq] at he
      simp [plainB, he]
    clear h0
    go_enter Tryd.func13, Tryd.ntmps13
    go_wp2
    go_ret
    exact ⟨by rw [HP.out]; rfl, rfl⟩
  · have he : s.toList.isEmpty = false := by rw [empty_iff]; simp [h0]
    have hp : 0 < s.size := by omega
    by_cases hz : 1 < s.size ∧ (s[0].toNat : Int) = 48
    · obtain ⟨hz1, hz2⟩ := hz
      have HP : Hid (plainB s.data.toList = false) := plain_zero s hz1 hz2
      go_enter Tryd.func13, Tryd.ntmps13
      go_wp2
      go_ret
      exact ⟨by rw [HP.out]; rfl, rfl⟩
    · have HP : Hid (plainB s.data.toList = s.data.toList.all digB) := plain_yes s hp hz
      have hc : ¬ 1 < s.size ∨ 1 < s.size ∧ ((s[0].toNat : Int) == 48) = false := by
        by_cases h1 : 1 < s.size
        · right; exact ⟨h1, by simpa using fun e => hz ⟨h1, e⟩⟩
        · left; exact h1
      clear hz
      rcases hc with hc | ⟨h1, hc⟩
      all_goals
        go_enter Tryd.func13, Tryd.ntmps13
        go_wp2
        go_loop [18] (fun i => ∃ k : Nat, k ≤ s.size ∧ i = .int .i64 k ∧ (s.data.toList.take k).all digB = true) (fun i => s.size - (intOf i).toNat)
        case atStart => exact ⟨0, Nat.zero_le _, rfl, by simp⟩
        case round =>
          obtain ⟨k, hk, rfl, ha⟩ := hrel
          have HA : Hid ((s.data.toList.take k).all digB = true) := ha
          clear ha
          by_cases hlt : k < s.size
          · have HS : Hid ((s.data.toList.take (k + 1)).all digB = ((s.data.toList.take k).all digB && digB s[k])) := all_snoc s k hlt
            have HN : Hid (digB s[k] = false → s.data.toList.all digB = false) := all_no s k hlt
            by_cases hc1 : (s[k].toNat : Int) < 48
            · go_wp2
              go_ret
              exact ⟨by rw [HP.out, HN.out (digB_lo _ hc1)]; rfl, rfl⟩
            · by_cases hc2 : 57 < (s[k].toNat : Int)
              · go_wp2
                go_ret
                exact ⟨by rw [HP.out, HN.out (digB_hi _ hc2)]; rfl, rfl⟩
              · go_wp2
                go_round
                case rel => exact ⟨k + 1, by omega, by go_num, by rw [HS.out, HA.out, digB_at _ (by omega) (by omega)]; rfl⟩
                case measure => simp [intOf]; omega
          · have HF : Hid (s.data.toList.all digB = true) := all_full s k (by omega) HA.out
            go_wp2
            go_ret
            exact ⟨by rw [HP.out, HF.out]; rfl, rfl⟩

end Go.Proofs.YtafhahgfodlohabDoor
