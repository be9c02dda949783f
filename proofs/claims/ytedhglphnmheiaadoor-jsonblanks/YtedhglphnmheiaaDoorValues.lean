/-
  What the law of so many values (JsonValues) does.
-/
import Derived.Test.YtedhglphnmheiaaDoorSevens
import Derived.Test.YtedhglphnmheiaaDoorNests
namespace Go.Proofs.YtedhglphnmheiaaDoor
open Go.RowKit

def sevF (j : Nat) : UInt8 := if j = 0 then 91 else if j % 2 = 1 then 55 else 44
def sevP (k : Nat) : List UInt8 := if k = 0 then [91] else (List.range (2 * k)).map sevF
theorem sevP_one : sevP 1 = sevP 0 ++ [55] := by rfl
theorem sevP_succ (k : Nat) (h : 0 < k) : sevP (k + 1) = (sevP k ++ [44]) ++ [55] := by
  unfold sevP
  rw [if_neg (by omega), if_neg (by omega)]
  have e : 2 * (k + 1) = 2 * k + 1 + 1 := by omega
  rw [e, List.range_succ, List.range_succ, List.map_append, List.map_append]
  have h1 : sevF (2 * k) = 44 := by unfold sevF; rw [if_neg (by omega), if_neg (by omega)]
  have h2 : sevF (2 * k + 1) = 55 := by unfold sevF; rw [if_neg (by omega), if_pos (by omega)]
  simp [h1, h2]
theorem sevP_len (k : Nat) : (sevP k).length = if k = 0 then 1 else 2 * k := by unfold sevP; split <;> simp
theorem sev_byte (n j : Nat) (hn : 0 < n) (hj : j < 2 * n) : byteAt (sevP n ++ [93]) j = (sevF j).toNat := by
  unfold byteAt sevP
  rw [if_neg (by omega), List.getD_eq_getElem?_getD, List.getElem?_append_left (by simp; omega)]
  simp [hj]
theorem sev_is (n : Nat) (hn : 0 < n) : Sev (sevP n ++ [93]) n := by
  have hl : (sevP n).length = 2 * n := by rw [sevP_len, if_neg (by omega)]
  refine ⟨by simp [hl], ?_, fun i hi => ?_, fun i hi => ?_, ?_, hn⟩
  · rw [sev_byte n 0 hn (by omega)]; rfl
  · rw [sev_byte n _ hn (by omega)]; unfold sevF; rw [if_neg (by omega), if_pos (by omega)]; rfl
  · rw [sev_byte n _ hn (by omega)]; unfold sevF; rw [if_neg (by omega), if_neg (by omega)]; rfl
  · unfold byteAt
    rw [List.getD_eq_getElem?_getD, List.getElem?_append_right (by omega), hl]
    simp
theorem small_ten (x : Int) : ∃ m : Nat, wrap64 (8187 + wrap64 ((IntKind.u64.wrap x).tmod 10)) = (m : Int) ∧ 8187 ≤ m ∧ m ≤ 8196 := by
  have h0 : 0 ≤ IntKind.u64.wrap x := by
    unfold IntKind.wrap; simp [IntKind.signed, IntKind.bits]; omega
  have h1 := Int.tmod_nonneg 10 h0
  have h2 := Int.tmod_lt_of_pos (IntKind.u64.wrap x) (show (0 : Int) < 10 by decide)
  refine ⟨(8187 + (IntKind.u64.wrap x).tmod 10).toNat, ?_, by omega, by omega⟩
  simp only [wrap64]
  omega
theorem byte_one (c : Int) : ∀ u ∈ [Value.int .u8 c], u.oneCell' = true := by intro u hu; simp at hu; subst hu; rfl
theorem info5 : (Tryd.prog.info? 5).map (fun i => (i.zero, i.size, i.bytes)) = some (some (.int .u8 0), 1, 1) := by kernel_rfl
/-- A row of bytes of the call's own, parsed. -/
theorem parse_own (l : List UInt8) {w : World} {base n : Nat} {v : Value} (ho : w.ownsRow base 5 1 v n (Lib.byteCells l)) (hl : 0 < l.length) (ht : Lib.Utf8Tabs 0 1 w) (hw : 2 ≤ w.heap.size) : Calls Tryd.prog 10 #[v] w (DoneR w (parseM l)) := by
  have hn : n = l.length := by have := ho.1; rw [Lib.byteCells_length] at this; omega
  subst hn
  rcases ho.2 with ⟨_, h0⟩ | ⟨g, cap, cur, rfl, _, hg, hc1, hc2, _⟩
  · omega
  · unfold maxLen at hc2
    refine parse_json (B := l) (tb := g) (toff := 0) ?_ (lt_of_block hg) hc1 (by omega) ht hw
    intro j hj
    have hadd : (⟨g, 0, none⟩ : Addr).add j = ⟨g, 0 + j, none⟩ := by unfold Addr.add; split <;> simp_all
    have := ho.cells (g := g) rfl j (.int .u8 (byteAt l j)) (by simp [Lib.byteCells, byteAt, List.getD_eq_getElem?_getD, List.getElem?_eq_getElem hj])
    rwa [hadd] at this

set_option maxRecDepth 100000 in
set_option maxHeartbeats 3200000 in
theorem values_any (x : Int) (w : World) (ht : Lib.Utf8Tabs 0 1 w) (h2 : 2 ≤ w.heap.size) :
    Calls Tryd.prog 7 #[.int .i64 x] w fun e w' => e = .returned (.bool true) ∧ Below w.heap.size w w' := by
  have HT : Hid (Lib.Utf8Tabs 0 1 w) := ht
  clear ht
  obtain ⟨m, hm, hm1, hm2⟩ := small_ten x
  obtain ⟨i5, hi5, hz0, hz1, hz2⟩ := info_parts info5
  go_enter Tryd.func7, Tryd.ntmps7
  go_wp2_with (go_at_call 9; refine (awake_any w HT.out h2).mono ?_; rintro e w1 ⟨rfl, hb1⟩)
  rw [hm]
  clear hm
  obtain ⟨base, hbase⟩ : ∃ base, Hid (base = w1.heap.size) := ⟨_, rfl⟩
  go_loopw [3, 4] (fun v i wr => ∃ k : Nat, k ≤ m ∧ i = .int .i64 k ∧ wr.ownsRow base 5 1 v (sevP k).length (Lib.byteCells (sevP k)) ∧ Below base w1 wr ∧ base ≤ wr.heap.size) (fun _ i _ => m - (intOf i).toNat)
  case atStart =>
    refine ⟨0, Nat.zero_le _, rfl, ⟨rfl, .inr ⟨w1.heap.size, 1, _, rfl, by rw [hbase.out]; exact Nat.le_refl _, heap_alloc_new w1 _, Nat.le_refl _, by decide, rfl, rfl⟩⟩, (Below.refl _ _).alloc (by rw [hbase.out]; exact Nat.le_refl _) _, by rw [hbase.out]; simp⟩
  case round =>
    obtain ⟨k, hk, rfl, hown, hbr, hbs⟩ := hrel
    have hlen := sevP_len k
    by_cases hlt : k < m
    · by_cases hk0 : k = 0
      · subst hk0
        have hlen0 : (sevP 0).length = 1 := rfl
        clear hlen
        go_wp2_with (at_builtin; refine wpList_append_own _ rfl (.tmp 26) (.tmp 27) 22 rfl base 5 i5 (.int .u8 0) 1 1 Tryd.underlying22 hi5 hz0 hz1 hz2 rfl (by decide) _ _ _ rfl (hown.alloc _) ⟨wr.heap.size, 0, none⟩ 1 1 [.int .u8 55] rfl rfl (cells_new _ [.int .u8 55] 5 _ rfl) (byte_one _) (by unfold maxLen; omega) (by omega) (by simp; omega) ?_; intro vb wb hownb hgb _)
        go_roundw
        case rel => exact ⟨1, by omega, by go_num, by rw [sevP_one]; unfold Lib.byteCells at hownb ⊢; rw [List.map_append, List.length_append]; exact hownb, (hbr.alloc hbs _).grown hgb (by simp; omega) (fun j hj => (hown.lt j hj).1), by have := hgb.size; simp at this; omega⟩
        case measure => simp [intOf]; omega
      · rw [if_neg hk0] at hlen
        have hlen2 : (sevP k).length ≤ 20000 := by omega
        have hkp : (0 : Int) < (k : Int) := by omega
        have HLEN : Hid ((sevP k).length = 2 * k) := hlen
        clear hlen
        go_wp2_with (first | (at_builtin; refine wpList_append_own _ rfl (.tmp 23) (.tmp 24) 22 rfl base 5 i5 (.int .u8 0) 1 1 Tryd.underlying22 hi5 hz0 hz1 hz2 rfl (by decide) _ _ _ rfl (hown.alloc _) ⟨wr.heap.size, 0, none⟩ 1 1 [.int .u8 44] rfl rfl (cells_new _ [.int .u8 44] 5 _ rfl) (byte_one _) (by unfold maxLen; omega) (by omega) (by simp; omega) ?_; intro va wa howna hga _; have hsa : base ≤ wa.heap.size := (by have := hga.size; simp at this; omega)) | (at_builtin; refine wpList_append_own _ rfl (.tmp 26) (.tmp 27) 22 rfl base 5 i5 (.int .u8 0) 1 1 Tryd.underlying22 hi5 hz0 hz1 hz2 rfl (by decide) _ _ _ rfl (howna.alloc _) ⟨wa.heap.size, 0, none⟩ 1 1 [.int .u8 55] rfl rfl (cells_new _ [.int .u8 55] 5 _ rfl) (byte_one _) (by unfold maxLen; omega) (by omega) (by simp; omega) ?_; intro vb wb hownb hgb _))
        go_roundw
        case rel =>
          have ha := hga.size; have hb := hgb.size
          simp at ha hb
          refine ⟨k + 1, by omega, by go_num, ?_, (((hbr.alloc hbs _).grown hga (by simp; omega) (fun j hj => (hown.lt j hj).1)).alloc (by omega) _).grown hgb (by simp; omega) (fun j hj => (howna.lt j hj).1), by omega⟩
          rw [sevP_succ k (by omega)]; unfold Lib.byteCells at hownb ⊢; rw [List.map_append, List.map_append, List.length_append, List.length_append]; exact hownb
        case measure => simp [intOf]; omega
    · obtain rfl : k = m := by omega
      rw [if_neg (by omega)] at hlen
      have hlen2 : (sevP k).length ≤ 20000 := by omega
      have HS := (sev_is k (by omega)).read (by omega)
      rw [show readM (sevP k ++ [93]) = parseM (sevP k ++ [93]) by unfold parseM; rw [if_neg (by have := (sev_is k (by omega)).len; omega)]] at HS
      have HLEN : Hid ((sevP k).length = 2 * k) := hlen
      clear hlen
      rcases (show k < 8192 ∨ k = 8192 ∨ 8192 < k by omega) with h8 | h8 | h8
      · have HP : Hid (∀ (v' : Value) (w' : World) (n : Nat), w'.ownsRow base 5 1 v' n (Lib.byteCells (sevP k) ++ [.int .u8 93]) → Below base w1 w' → Calls Tryd.prog 10 #[v'] w' fun e w'' => (∃ ta tc, e = .returned (.tuple #[.slice ta (k + 1) tc, .int .i64 0, .int .i64 0])) ∧ Below w.heap.size w w'') := by
          intro v' w' n ho hb
          have hbw := hb1.trans (hb.mono (by rw [hbase.out]; exact hb1.size))
          have ho2 : w'.ownsRow base 5 1 v' n (Lib.byteCells (sevP k ++ [93])) := by unfold Lib.byteCells at ho ⊢; rw [List.map_append]; exact ho
          have H := parse_own (sevP k ++ [93]) ho2 (by simp) (tabs_below hbw h2 HT.out) (Nat.le_trans h2 hbw.size)
          obtain ⟨T, e1, e2⟩ := HS.1 h8
          rw [e1] at H
          refine Calls.mono H ?_
          rintro e w'' ⟨v2, cs, rfl, hr, _, hb3⟩
          obtain ⟨ta, tc, rfl⟩ := own_shape hr
          exact ⟨⟨ta, tc, by rw [e2]⟩, hbw.trans (hb3.mono hbw.size)⟩
        clear HS
        have h8' : (k : Int) < 8192 := by omega
        go_wp2_with (first | (at_builtin; refine wpList_append_own _ rfl (.tmp 30) (.tmp 31) 22 rfl base 5 i5 (.int .u8 0) 1 1 Tryd.underlying22 hi5 hz0 hz1 hz2 rfl (by decide) _ _ _ rfl (hown.alloc _) ⟨wr.heap.size, 0, none⟩ 1 1 [.int .u8 93] rfl rfl (cells_new _ [.int .u8 93] 5 _ rfl) (byte_one _) (by unfold maxLen; omega) (by omega) (by simp; omega) ?_; intro vb wb hownb hgb _; have hbb := (hbr.alloc hbs _).grown hgb (by simp; omega) (fun j hj => (hown.lt j hj).1)) | (go_at_call 10; refine (HP.out vb wb _ hownb hbb).mono ?_; rintro e w2 ⟨⟨ta, tc, rfl⟩, hb2⟩))
        go_ret
        exact ⟨rfl, hb2⟩
      · have HP : Hid (∀ (v' : Value) (w' : World) (n : Nat), w'.ownsRow base 5 1 v' n (Lib.byteCells (sevP k) ++ [.int .u8 93]) → Below base w1 w' → Calls Tryd.prog 10 #[v'] w' fun e w'' => e = .returned (.tuple #[.slice none 0 0, .int .i64 (0 : Nat), .int .i64 (27 : Nat)]) ∧ Below w.heap.size w w'') := by
          intro v' w' n ho hb
          have hbw := hb1.trans (hb.mono (by rw [hbase.out]; exact hb1.size))
          have ho2 : w'.ownsRow base 5 1 v' n (Lib.byteCells (sevP k ++ [93])) := by unfold Lib.byteCells at ho ⊢; rw [List.map_append]; exact ho
          have H := parse_own (sevP k ++ [93]) ho2 (by simp) (tabs_below hbw h2 HT.out) (Nat.le_trans h2 hbw.size)
          rw [HS.2.1 h8] at H
          refine Calls.mono H ?_
          rintro e w'' ⟨rfl, hb3⟩
          exact ⟨rfl, hbw.trans (hb3.mono hbw.size)⟩
        clear HS
        have h8' : ¬ (k : Int) < 8192 := by omega
        have h8q : ((k : Int) == 8192) = true := by simp; omega
        clear h8
        go_wp2_with (first | (at_builtin; refine wpList_append_own _ rfl (.tmp 30) (.tmp 31) 22 rfl base 5 i5 (.int .u8 0) 1 1 Tryd.underlying22 hi5 hz0 hz1 hz2 rfl (by decide) _ _ _ rfl (hown.alloc _) ⟨wr.heap.size, 0, none⟩ 1 1 [.int .u8 93] rfl rfl (cells_new _ [.int .u8 93] 5 _ rfl) (byte_one _) (by unfold maxLen; omega) (by omega) (by simp; omega) ?_; intro vb wb hownb hgb _; have hbb := (hbr.alloc hbs _).grown hgb (by simp; omega) (fun j hj => (hown.lt j hj).1)) | (go_at_call 10; refine (HP.out vb wb _ hownb hbb).mono ?_; rintro e w2 ⟨rfl, hb2⟩))
        go_ret
        exact ⟨rfl, hb2⟩
      · have HP : Hid (∀ (v' : Value) (w' : World) (n : Nat), w'.ownsRow base 5 1 v' n (Lib.byteCells (sevP k) ++ [.int .u8 93]) → Below base w1 w' → Calls Tryd.prog 10 #[v'] w' fun e w'' => e = .returned (.tuple #[.slice none 0 0, .int .i64 (16385 : Nat), .int .i64 (27 : Nat)]) ∧ Below w.heap.size w w'') := by
          intro v' w' n ho hb
          have hbw := hb1.trans (hb.mono (by rw [hbase.out]; exact hb1.size))
          have ho2 : w'.ownsRow base 5 1 v' n (Lib.byteCells (sevP k ++ [93])) := by unfold Lib.byteCells at ho ⊢; rw [List.map_append]; exact ho
          have H := parse_own (sevP k ++ [93]) ho2 (by simp) (tabs_below hbw h2 HT.out) (Nat.le_trans h2 hbw.size)
          rw [HS.2.2 h8] at H
          refine Calls.mono H ?_
          rintro e w'' ⟨rfl, hb3⟩
          exact ⟨rfl, hbw.trans (hb3.mono hbw.size)⟩
        clear HS
        have h8' : ¬ (k : Int) < 8192 := by omega
        have h8q : ((k : Int) == 8192) = false := by simp; omega
        clear h8
        go_wp2_with (first | (at_builtin; refine wpList_append_own _ rfl (.tmp 30) (.tmp 31) 22 rfl base 5 i5 (.int .u8 0) 1 1 Tryd.underlying22 hi5 hz0 hz1 hz2 rfl (by decide) _ _ _ rfl (hown.alloc _) ⟨wr.heap.size, 0, none⟩ 1 1 [.int .u8 93] rfl rfl (cells_new _ [.int .u8 93] 5 _ rfl) (byte_one _) (by unfold maxLen; omega) (by omega) (by simp; omega) ?_; intro vb wb hownb hgb _; have hbb := (hbr.alloc hbs _).grown hgb (by simp; omega) (fun j hj => (hown.lt j hj).1)) | (go_at_call 10; refine (HP.out vb wb _ hownb hbb).mono ?_; rintro e w2 ⟨rfl, hb2⟩))
        go_ret
        exact ⟨rfl, hb2⟩
end Go.Proofs.YtedhglphnmheiaaDoor
