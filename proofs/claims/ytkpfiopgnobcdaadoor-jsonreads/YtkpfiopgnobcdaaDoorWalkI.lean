/-
  What the call of the document's reading of a number's text does.
-/
import Derived.Test.YtkpfiopgnobcdaaDoorNum
import Derived.Test.YtkpfiopgnobcdaaDoorParts
namespace Go.Proofs.YtkpfiopgnobcdaaDoor
open Go.RowKit

theorem seg_bd (s : ByteArray) (F k : Nat) (ha : (s.data.toList.drop F).all digB = true) (hk : k ≤ F + 18) : (valN ((s.data.toList.take k).drop F) : Int) ≤ 999999999999999999 := by
  have h := seg_lt s F k ha
  have hl : ((s.data.toList.take k).drop F).length ≤ 18 := by rw [List.length_drop, List.length_take]; omega
  have h18 : 10 ^ ((s.data.toList.take k).drop F).length ≤ 10 ^ 18 := Nat.pow_le_pow_right (by omega) hl
  have : (10 : Nat) ^ 18 = 1000000000000000000 := by decide
  omega
theorem seg_bd19 (s : ByteArray) (F k : Nat) (ha : (s.data.toList.drop F).all digB = true) (hk : k ≤ F + 19) : (valN ((s.data.toList.take k).drop F) : Int) ≤ 9999999999999999999 := by
  have h := seg_lt s F k ha
  have hl : ((s.data.toList.take k).drop F).length ≤ 19 := by rw [List.length_drop, List.length_take]; omega
  have h18 : 10 ^ ((s.data.toList.take k).drop F).length ≤ 10 ^ 19 := Nat.pow_le_pow_right (by omega) hl
  have : (10 : Nat) ^ 19 = 10000000000000000000 := by decide
  omega
theorem head_drop (s : ByteArray) (F : Nat) (h : F < s.size) : (s.data.toList.drop F).head? = some s[F] := by
  rw [List.head?_drop]
  have e : s[F] = s.data.toList[F]'(by simpa using h) := rfl
  rw [e, List.getElem?_eq_getElem]
theorem is48 (c : UInt8) : ((c.toNat : Int) == 48) = decide (c = 48) := by
  rw [Bool.eq_iff_iff, beq_iff_eq, decide_eq_true_eq, ← UInt8.toNat_inj]
  have : (48 : UInt8).toNat = 48 := rfl
  omega
theorem len_drop (s : ByteArray) (F : Nat) : (s.data.toList.drop F).length = s.size - F := by
  rw [List.length_drop]; rfl

set_option maxHeartbeats 800000 in
theorem rparse_0 (s : ByteArray) (w : World) (hs : s.size ≤ maxLen) (hlt : 0 < s.size) (hb : ((s[0].toNat : Int) == 45) = false)
    (HD : Hid (digitsL s.data.toList = s.data.toList.drop 0)) (HB : Hid (belowB s.data.toList = false)) :
    Calls Tryd.prog 36 #[.string s] w fun e w' => e = .returned (.tuple #[.int .i64 (parV s.data.toList), .int .i64 (parE s.data.toList)]) ∧ w' = w := by
  unfold maxLen at hs
  have HE : Hid (digitsL s.data.toList ≠ []) := by
    show _ ≠ _
    rw [HD.out]; intro e
    have := congrArg List.length e
    rw [len_drop] at this
    simp only [List.length_nil] at this; omega
  have hq : ((0 : Int) == (s.size : Int)) = false := by rw [beq_eq_false_iff_ne]; omega
  go_enter Tryd.func36, Tryd.ntmps36
  go_wp2
  go_loop [5] (fun i => ∃ k : Nat, 0 ≤ k ∧ k ≤ s.size ∧ i = .int .i64 k ∧ ((s.data.toList.take k).drop 0).all digB = true) (fun i => s.size - (intOf i).toNat)
  case atStart => exact ⟨0, Nat.le_refl _, by omega, rfl, by simp⟩
  case round =>
    obtain ⟨k, hk0, hk, rfl, ha⟩ := hrel
    have HA : Hid (((s.data.toList.take k).drop 0).all digB = true) := ha
    clear ha
    by_cases hkl : k < s.size
    · have HS : Hid ((s.data.toList.take (k + 1)).drop 0 = (s.data.toList.take k).drop 0 ++ [s[k]]) := seg_snoc s 0 k hk0 hkl
      have HN : Hid (digB s[k] = false → parV s.data.toList = 0 ∧ parE s.data.toList = 11) := fun h => par_nodigit _ (by rw [HD.out]; exact seg_no s 0 k hk0 hkl h)
      by_cases hc1 : (s[k].toNat : Int) < 48
      · have HR : Hid (parV s.data.toList = 0 ∧ parE s.data.toList = 11) := HN.out (digB_lo _ hc1)
        go_wp2
        go_ret2
        exact ⟨by rw [HR.out.1, HR.out.2]; rfl, rfl⟩
      · by_cases hc2 : 57 < (s[k].toNat : Int)
        · have HR : Hid (parV s.data.toList = 0 ∧ parE s.data.toList = 11) := HN.out (digB_hi _ hc2)
          go_wp2
          go_ret2
          exact ⟨by rw [HR.out.1, HR.out.2]; rfl, rfl⟩
        · go_wp2
          go_round
          case rel => exact ⟨k + 1, by omega, by omega, by go_num, by rw [HS.out, List.all_append, HA.out, List.all_cons, digB_at _ (by omega) (by omega)]; rfl⟩
          case measure => simp [intOf]; omega
    · have hks : k = s.size := by omega
      subst hks
      have HD2 : Hid ((s.data.toList.drop 0).all digB = true) := by
        have h := HA.out
        rw [seg_full s 0 _ (Nat.le_refl _)] at h
        exact h
      clear HA hkl hk hk0
      have HH : Hid ((digitsL s.data.toList).head? = some s[0]) := by show _ = _; rw [HD.out]; exact head_drop s 0 hlt
      cases hz : ((s[0].toNat : Int) == 48)
      · have HZ : Hid ((digitsL s.data.toList).head? = some 48 → s.data.toList = [48]) := by
          intro e
          rw [HH.out] at e
          rw [is48, Option.some.inj e] at hz
          simp at hz
        by_cases hlong : 19 < s.size - 0
        · have HR : Hid (parV s.data.toList = 0 ∧ parE s.data.toList = 10) := par_long _ HE.out (by rw [HD.out]; exact HD2.out) HZ.out (by rw [HD.out, len_drop]; exact hlong)
          go_wp2
          go_ret2
          exact ⟨by rw [HR.out.1, HR.out.2]; rfl, rfl⟩
        · have HK : Hid (parOk s.data.toList = true) := par_ok _ HE.out (by rw [HD.out]; exact HD2.out) HZ.out
          have hsz : s.size ≤ 0 + 19 := by omega
          clear hlong
          go_wp2
          go_loop [6, 7] (fun n i => ∃ k v : Nat, 0 ≤ k ∧ k ≤ s.size ∧ i = .int .i64 k ∧ n = .int .u64 v ∧ v = valN ((s.data.toList.take k).drop 0)) (fun _ i => s.size - (intOf i).toNat)
          case atStart => exact ⟨0, 0, Nat.le_refl _, by omega, rfl, rfl, by simp [valN]⟩
          case round =>
            obtain ⟨k, v, hk0, hk, rfl, rfl, hv0⟩ := hrel
            have HV0 : Hid (v = valN ((s.data.toList.take k).drop 0)) := hv0
            clear hv0
            by_cases hkl : k < s.size
            · obtain ⟨hc1, hc2⟩ := seg_at s 0 k hk0 hkl HD2.out
              have hbd := seg_bd s 0 k HD2.out (by omega)
              rw [← HV0.out] at hbd
              have HS : Hid (valN ((s.data.toList.take (k + 1)).drop 0) = 10 * v + (s[k].toNat - 48)) := by
                show _ = _; rw [seg_snoc s 0 k hk0 hkl, valN_snoc, ← HV0.out]
              go_wp2
              go_round
              case rel => exact ⟨k + 1, 10 * v + (s[k].toNat - 48), by omega, by omega, by go_num, by go_num, HS.out.symm⟩
              case measure => simp [intOf]; omega
            · have hks : k = s.size := by omega
              subst hks
              have hbd := seg_bd19 s 0 s.size HD2.out (by omega)
              rw [← HV0.out] at hbd
              have HV : Hid (valN (digitsL s.data.toList) = v) := by
                show _ = _; rw [HD.out, HV0.out, seg_full s 0 _ (Nat.le_refl _)]
              by_cases hbig : (v : Int) ≤ 4611686018427387903
              · have HR : Hid (parV s.data.toList = (v : Int) ∧ parE s.data.toList = 0) := by
                  have h := par_fit _ HK.out (by rw [HV.out]; omega)
                  rw [HB.out, HV.out] at h; exact h
                go_wp2
                go_ret2
                exact ⟨by rw [HR.out.1, HR.out.2]; rfl, rfl⟩
              · have HR : Hid (parV s.data.toList = 0 ∧ parE s.data.toList = 10) := par_big _ HK.out (by rw [HV.out]; omega)
                go_wp2
                go_ret2
                exact ⟨by rw [HR.out.1, HR.out.2]; rfl, rfl⟩
      · cases he : (s.toList == [48])
        · have HR : Hid (parV s.data.toList = 0 ∧ parE s.data.toList = 11) := by
            refine par_zero _ ?_ ?_
            · rw [HH.out]; rw [is48, decide_eq_true_eq] at hz; rw [hz]
            · rw [beq_eq_false_iff_ne, ByteArray.toList_eq] at he; exact he
          have he2 : (s.toList != [48]) = true := by simpa using he
          go_wp2
          go_ret2
          exact ⟨by rw [HR.out.1, HR.out.2]; rfl, rfl⟩
        · have HZ : Hid ((digitsL s.data.toList).head? = some 48 → s.data.toList = [48]) := by
            intro _
            rw [ByteArray.toList_eq, beq_iff_eq] at he; exact he
          have he2 : (s.toList != [48]) = false := by simpa using he
          by_cases hlong : 19 < s.size - 0
          · have HR : Hid (parV s.data.toList = 0 ∧ parE s.data.toList = 10) := par_long _ HE.out (by rw [HD.out]; exact HD2.out) HZ.out (by rw [HD.out, len_drop]; exact hlong)
            go_wp2
            go_ret2
            exact ⟨by rw [HR.out.1, HR.out.2]; rfl, rfl⟩
          · have HK : Hid (parOk s.data.toList = true) := par_ok _ HE.out (by rw [HD.out]; exact HD2.out) HZ.out
            have hsz : s.size ≤ 0 + 19 := by omega
            clear hlong
            go_wp2
            go_loop [6, 7] (fun n i => ∃ k v : Nat, 0 ≤ k ∧ k ≤ s.size ∧ i = .int .i64 k ∧ n = .int .u64 v ∧ v = valN ((s.data.toList.take k).drop 0)) (fun _ i => s.size - (intOf i).toNat)
            case atStart => exact ⟨0, 0, Nat.le_refl _, by omega, rfl, rfl, by simp [valN]⟩
            case round =>
              obtain ⟨k, v, hk0, hk, rfl, rfl, hv0⟩ := hrel
              have HV0 : Hid (v = valN ((s.data.toList.take k).drop 0)) := hv0
              clear hv0
              by_cases hkl : k < s.size
              · obtain ⟨hc1, hc2⟩ := seg_at s 0 k hk0 hkl HD2.out
                have hbd := seg_bd s 0 k HD2.out (by omega)
                rw [← HV0.out] at hbd
                have HS : Hid (valN ((s.data.toList.take (k + 1)).drop 0) = 10 * v + (s[k].toNat - 48)) := by
                  show _ = _; rw [seg_snoc s 0 k hk0 hkl, valN_snoc, ← HV0.out]
                go_wp2
                go_round
                case rel => exact ⟨k + 1, 10 * v + (s[k].toNat - 48), by omega, by omega, by go_num, by go_num, HS.out.symm⟩
                case measure => simp [intOf]; omega
              · have hks : k = s.size := by omega
                subst hks
                have hbd := seg_bd19 s 0 s.size HD2.out (by omega)
                rw [← HV0.out] at hbd
                have HV : Hid (valN (digitsL s.data.toList) = v) := by
                  show _ = _; rw [HD.out, HV0.out, seg_full s 0 _ (Nat.le_refl _)]
                by_cases hbig : (v : Int) ≤ 4611686018427387903
                · have HR : Hid (parV s.data.toList = (v : Int) ∧ parE s.data.toList = 0) := by
                    have h := par_fit _ HK.out (by rw [HV.out]; omega)
                    rw [HB.out, HV.out] at h; exact h
                  go_wp2
                  go_ret2
                  exact ⟨by rw [HR.out.1, HR.out.2]; rfl, rfl⟩
                · have HR : Hid (parV s.data.toList = 0 ∧ parE s.data.toList = 10) := par_big _ HK.out (by rw [HV.out]; omega)
                  go_wp2
                  go_ret2
                  exact ⟨by rw [HR.out.1, HR.out.2]; rfl, rfl⟩

set_option maxHeartbeats 800000 in
theorem rparse_1 (s : ByteArray) (w : World) (hs : s.size ≤ maxLen) (hlt : 1 < s.size) (hb : ((s[0].toNat : Int) == 45) = true)
    (HD : Hid (digitsL s.data.toList = s.data.toList.drop 1)) (HB : Hid (belowB s.data.toList = true)) :
    Calls Tryd.prog 36 #[.string s] w fun e w' => e = .returned (.tuple #[.int .i64 (parV s.data.toList), .int .i64 (parE s.data.toList)]) ∧ w' = w := by
  unfold maxLen at hs
  have HE : Hid (digitsL s.data.toList ≠ []) := by
    show _ ≠ _
    rw [HD.out]; intro e
    have := congrArg List.length e
    rw [len_drop] at this
    simp only [List.length_nil] at this; omega
  have hq : ((1 : Int) == (s.size : Int)) = false := by rw [beq_eq_false_iff_ne]; omega
  go_enter Tryd.func36, Tryd.ntmps36
  go_wp2
  go_loop [5] (fun i => ∃ k : Nat, 1 ≤ k ∧ k ≤ s.size ∧ i = .int .i64 k ∧ ((s.data.toList.take k).drop 1).all digB = true) (fun i => s.size - (intOf i).toNat)
  case atStart => exact ⟨1, Nat.le_refl _, by omega, rfl, by simp⟩
  case round =>
    obtain ⟨k, hk0, hk, rfl, ha⟩ := hrel
    have HA : Hid (((s.data.toList.take k).drop 1).all digB = true) := ha
    clear ha
    by_cases hkl : k < s.size
    · have HS : Hid ((s.data.toList.take (k + 1)).drop 1 = (s.data.toList.take k).drop 1 ++ [s[k]]) := seg_snoc s 1 k hk0 hkl
      have HN : Hid (digB s[k] = false → parV s.data.toList = 0 ∧ parE s.data.toList = 11) := fun h => par_nodigit _ (by rw [HD.out]; exact seg_no s 1 k hk0 hkl h)
      by_cases hc1 : (s[k].toNat : Int) < 48
      · have HR : Hid (parV s.data.toList = 0 ∧ parE s.data.toList = 11) := HN.out (digB_lo _ hc1)
        go_wp2
        go_ret2
        exact ⟨by rw [HR.out.1, HR.out.2]; rfl, rfl⟩
      · by_cases hc2 : 57 < (s[k].toNat : Int)
        · have HR : Hid (parV s.data.toList = 0 ∧ parE s.data.toList = 11) := HN.out (digB_hi _ hc2)
          go_wp2
          go_ret2
          exact ⟨by rw [HR.out.1, HR.out.2]; rfl, rfl⟩
        · go_wp2
          go_round
          case rel => exact ⟨k + 1, by omega, by omega, by go_num, by rw [HS.out, List.all_append, HA.out, List.all_cons, digB_at _ (by omega) (by omega)]; rfl⟩
          case measure => simp [intOf]; omega
    · have hks : k = s.size := by omega
      subst hks
      have HD2 : Hid ((s.data.toList.drop 1).all digB = true) := by
        have h := HA.out
        rw [seg_full s 1 _ (Nat.le_refl _)] at h
        exact h
      clear HA hkl hk hk0
      have HH : Hid ((digitsL s.data.toList).head? = some s[1]) := by show _ = _; rw [HD.out]; exact head_drop s 1 hlt
      cases hz : ((s[1].toNat : Int) == 48)
      · have HZ : Hid ((digitsL s.data.toList).head? = some 48 → s.data.toList = [48]) := by
          intro e
          rw [HH.out] at e
          rw [is48, Option.some.inj e] at hz
          simp at hz
        by_cases hlong : 19 < s.size - 1
        · have HR : Hid (parV s.data.toList = 0 ∧ parE s.data.toList = 10) := par_long _ HE.out (by rw [HD.out]; exact HD2.out) HZ.out (by rw [HD.out, len_drop]; exact hlong)
          go_wp2
          go_ret2
          exact ⟨by rw [HR.out.1, HR.out.2]; rfl, rfl⟩
        · have HK : Hid (parOk s.data.toList = true) := par_ok _ HE.out (by rw [HD.out]; exact HD2.out) HZ.out
          have hsz : s.size ≤ 1 + 19 := by omega
          clear hlong
          go_wp2
          go_loop [6, 7] (fun n i => ∃ k v : Nat, 1 ≤ k ∧ k ≤ s.size ∧ i = .int .i64 k ∧ n = .int .u64 v ∧ v = valN ((s.data.toList.take k).drop 1)) (fun _ i => s.size - (intOf i).toNat)
          case atStart => exact ⟨1, 0, Nat.le_refl _, by omega, rfl, rfl, by simp [valN]⟩
          case round =>
            obtain ⟨k, v, hk0, hk, rfl, rfl, hv0⟩ := hrel
            have HV0 : Hid (v = valN ((s.data.toList.take k).drop 1)) := hv0
            clear hv0
            by_cases hkl : k < s.size
            · obtain ⟨hc1, hc2⟩ := seg_at s 1 k hk0 hkl HD2.out
              have hbd := seg_bd s 1 k HD2.out (by omega)
              rw [← HV0.out] at hbd
              have HS : Hid (valN ((s.data.toList.take (k + 1)).drop 1) = 10 * v + (s[k].toNat - 48)) := by
                show _ = _; rw [seg_snoc s 1 k hk0 hkl, valN_snoc, ← HV0.out]
              go_wp2
              go_round
              case rel => exact ⟨k + 1, 10 * v + (s[k].toNat - 48), by omega, by omega, by go_num, by go_num, HS.out.symm⟩
              case measure => simp [intOf]; omega
            · have hks : k = s.size := by omega
              subst hks
              have hbd := seg_bd19 s 1 s.size HD2.out (by omega)
              rw [← HV0.out] at hbd
              have HV : Hid (valN (digitsL s.data.toList) = v) := by
                show _ = _; rw [HD.out, HV0.out, seg_full s 1 _ (Nat.le_refl _)]
              by_cases hbig : (v : Int) ≤ 4611686018427387903
              · have HR : Hid (parV s.data.toList = -(v : Int) ∧ parE s.data.toList = 0) := by
                  have h := par_fit _ HK.out (by rw [HV.out]; omega)
                  rw [HB.out, HV.out] at h; exact h
                go_wp2
                go_ret2
                exact ⟨by rw [HR.out.1, HR.out.2]; rfl, rfl⟩
              · have HR : Hid (parV s.data.toList = 0 ∧ parE s.data.toList = 10) := par_big _ HK.out (by rw [HV.out]; omega)
                go_wp2
                go_ret2
                exact ⟨by rw [HR.out.1, HR.out.2]; rfl, rfl⟩
      · cases he : (s.toList == [48])
        · have HR : Hid (parV s.data.toList = 0 ∧ parE s.data.toList = 11) := by
            refine par_zero _ ?_ ?_
            · rw [HH.out]; rw [is48, decide_eq_true_eq] at hz; rw [hz]
            · rw [beq_eq_false_iff_ne, ByteArray.toList_eq] at he; exact he
          have he2 : (s.toList != [48]) = true := by simpa using he
          go_wp2
          go_ret2
          exact ⟨by rw [HR.out.1, HR.out.2]; rfl, rfl⟩
        · have HZ : Hid ((digitsL s.data.toList).head? = some 48 → s.data.toList = [48]) := by
            intro _
            rw [ByteArray.toList_eq, beq_iff_eq] at he; exact he
          have he2 : (s.toList != [48]) = false := by simpa using he
          by_cases hlong : 19 < s.size - 1
          · have HR : Hid (parV s.data.toList = 0 ∧ parE s.data.toList = 10) := par_long _ HE.out (by rw [HD.out]; exact HD2.out) HZ.out (by rw [HD.out, len_drop]; exact hlong)
            go_wp2
            go_ret2
            exact ⟨by rw [HR.out.1, HR.out.2]; rfl, rfl⟩
          · have HK : Hid (parOk s.data.toList = true) := par_ok _ HE.out (by rw [HD.out]; exact HD2.out) HZ.out
            have hsz : s.size ≤ 1 + 19 := by omega
            clear hlong
            go_wp2
            go_loop [6, 7] (fun n i => ∃ k v : Nat, 1 ≤ k ∧ k ≤ s.size ∧ i = .int .i64 k ∧ n = .int .u64 v ∧ v = valN ((s.data.toList.take k).drop 1)) (fun _ i => s.size - (intOf i).toNat)
            case atStart => exact ⟨1, 0, Nat.le_refl _, by omega, rfl, rfl, by simp [valN]⟩
            case round =>
              obtain ⟨k, v, hk0, hk, rfl, rfl, hv0⟩ := hrel
              have HV0 : Hid (v = valN ((s.data.toList.take k).drop 1)) := hv0
              clear hv0
              by_cases hkl : k < s.size
              · obtain ⟨hc1, hc2⟩ := seg_at s 1 k hk0 hkl HD2.out
                have hbd := seg_bd s 1 k HD2.out (by omega)
                rw [← HV0.out] at hbd
                have HS : Hid (valN ((s.data.toList.take (k + 1)).drop 1) = 10 * v + (s[k].toNat - 48)) := by
                  show _ = _; rw [seg_snoc s 1 k hk0 hkl, valN_snoc, ← HV0.out]
                go_wp2
                go_round
                case rel => exact ⟨k + 1, 10 * v + (s[k].toNat - 48), by omega, by omega, by go_num, by go_num, HS.out.symm⟩
                case measure => simp [intOf]; omega
              · have hks : k = s.size := by omega
                subst hks
                have hbd := seg_bd19 s 1 s.size HD2.out (by omega)
                rw [← HV0.out] at hbd
                have HV : Hid (valN (digitsL s.data.toList) = v) := by
                  show _ = _; rw [HD.out, HV0.out, seg_full s 1 _ (Nat.le_refl _)]
                by_cases hbig : (v : Int) ≤ 4611686018427387903
                · have HR : Hid (parV s.data.toList = -(v : Int) ∧ parE s.data.toList = 0) := by
                    have h := par_fit _ HK.out (by rw [HV.out]; omega)
                    rw [HB.out, HV.out] at h; exact h
                  go_wp2
                  go_ret2
                  exact ⟨by rw [HR.out.1, HR.out.2]; rfl, rfl⟩
                · have HR : Hid (parV s.data.toList = 0 ∧ parE s.data.toList = 10) := par_big _ HK.out (by rw [HV.out]; omega)
                  go_wp2
                  go_ret2
                  exact ⟨by rw [HR.out.1, HR.out.2]; rfl, rfl⟩

end Go.Proofs.YtkpfiopgnobcdaaDoor
