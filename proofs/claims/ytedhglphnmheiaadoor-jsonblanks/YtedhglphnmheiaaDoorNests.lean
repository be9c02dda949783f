/-
  What the law of nested brackets (JsonNests) does.
-/
import Derived.Test.YtedhglphnmheiaaDoorAwake
namespace Go.Proofs.YtedhglphnmheiaaDoor
open Go.RowKit

def opL (obj : Bool) (n i : Nat) : List UInt8 := if obj = true ∧ i + 1 < n then [123, 34, 107, 34, 58] else [91]
def clL (obj : Bool) (n i : Nat) : List UInt8 := if obj = true ∧ i + 1 < n then [125] else [93]
def nestS (obj : Bool) (n : Nat) : Nat → List UInt8
  | 0 => []
  | k + 1 => nestS obj n k ++ opL obj n k
def nestE (obj : Bool) (n : Nat) : Nat → List UInt8
  | 0 => []
  | k + 1 => clL obj n k ++ nestE obj n k
theorem nestS_len (obj : Bool) (n : Nat) : ∀ k, (nestS obj n k).length ≤ 5 * k
  | 0 => by simp [nestS]
  | k + 1 => by have := nestS_len obj n k; simp only [nestS, List.length_append, opL]; split <;> simp <;> omega
theorem nestE_len (obj : Bool) (n : Nat) : ∀ k, (nestE obj n k).length ≤ k
  | 0 => by simp [nestE]
  | k + 1 => by have := nestE_len obj n k; simp only [nestE, List.length_append, clL]; split <;> simp <;> omega
def resOk (obj : Bool) (n : Nat) : Bool :=
  match parseM (nestS obj n n ++ nestE obj n n) with
  | .ok T _ => decide (n ≤ 16 ∧ T.length = n)
  | .bad a c => decide (16 < n ∧ c = 26 ∧ a = if obj then 80 else 16)
theorem res_all : ((List.range 41).all fun n => n == 0 || (resOk true n && resOk false n)) = true := by kernel_rfl

theorem str_app (a b : List UInt8) : (⟨a.toArray⟩ : ByteArray) ++ ⟨b.toArray⟩ = ⟨(a ++ b).toArray⟩ := by
  apply ByteArray.ext
  simp [ByteArray.data_append]

theorem small_mod (x : Int) : ∃ m : Nat, wrap64 (1 + wrap64 ((IntKind.u64.wrap x).tmod 40)) = (m : Int) ∧ 1 ≤ m ∧ m ≤ 40 := by
  have h0 : 0 ≤ IntKind.u64.wrap x := by
    unfold IntKind.wrap; simp [IntKind.signed, IntKind.bits]; omega
  have h1 := Int.tmod_nonneg 40 h0
  have h2 := Int.tmod_lt_of_pos (IntKind.u64.wrap x) (show (0 : Int) < 40 by decide)
  refine ⟨(1 + (IntKind.u64.wrap x).tmod 40).toNat, ?_, by omega, by omega⟩
  simp only [wrap64]
  omega
/-- The bytes of a string, in new memory. -/
theorem bytes_of (l : List UInt8) (w : World) (hl : l.length ≤ 9223372036854775807) : ∃ (C : Nat) (D : Array Value) (fz : Nat × Nat), (convert 9 22 (.string ⟨l.toArray⟩)).run Tryd.prog w = .ok (.slice (some ⟨w.heap.size, 0, none⟩) l.length C) (w.drew.alloc (.cells D 5 fz)) ∧
    l.length ≤ C ∧ C ≤ 9223372036854775807 ∧ ∀ j, j < l.length → D[j]? = some (.int .u8 (byteAt l j)) := by
  have hz : (⟨l.toArray⟩ : ByteArray).size = l.length := by simp [ByteArray.size]
  have h := run_bytes_of_string (P := Tryd.prog) w 9 22 5 ⟨l.toArray⟩ Tryd.underlying9 Tryd.underlying22 Tryd.underlying5
  rw [hz] at h
  have h1 := grownCap_ge w l.length 0 5
  have h2 := grownCap_le_maxLen w l.length 0 5 (by unfold maxLen; omega)
  unfold maxLen at h2
  refine ⟨_, _, _, h, h1, by omega, fun j hj => ?_⟩
  unfold bytesRow
  rw [Array.getElem?_append_left (by simpa using hj)]
  simp [byteAt, List.getD_eq_getElem?_getD, List.getElem?_eq_getElem hj]
theorem parse_new (l : List UInt8) (w : World) (C : Nat) (D : Array Value) (fz : Nat × Nat) (h1 : l.length ≤ C) (h2 : C ≤ 9223372036854775807) (hD : ∀ j, j < l.length → D[j]? = some (.int .u8 (byteAt l j))) (ht : Lib.Utf8Tabs 0 1 w) (hw : 2 ≤ w.heap.size) :
    Calls Tryd.prog 10 #[.slice (some ⟨w.heap.size, 0, none⟩) l.length C] (w.drew.alloc (.cells D 5 fz)) (DoneR (w.drew.alloc (.cells D 5 fz)) (parseM l)) := by
  refine parse_json (B := l) (tb := w.heap.size) (toff := 0) ?_ (by simp) h1 h2 (tabs_below (((Below.refl _ w).drew).alloc (Nat.le_refl _) _) hw ht) (by simp; omega)
  intro j hj
  have := heap_alloc_new w.drew (.cells D 5 fz)
  rw [cell_of_row _ w.heap.size (0 + j) _ _ _ this, Nat.zero_add]
  exact hD j hj

set_option maxRecDepth 100000 in
set_option maxHeartbeats 1600000 in
theorem nests_any (x : Int) (obj : Bool) (w : World) (ht : Lib.Utf8Tabs 0 1 w) (h2 : 2 ≤ w.heap.size) :
    Calls Tryd.prog 6 #[.int .i64 x, .bool obj] w fun e w' => e = .returned (.bool true) ∧ Below w.heap.size w w' := by
  have HT : Hid (Lib.Utf8Tabs 0 1 w) := ht
  clear ht
  obtain ⟨m, hm, hm1, hm2⟩ := small_mod x
  have HRES : Hid (resOk obj m = true) := by
    show _ = _
    have h := List.all_eq_true.1 res_all m (List.mem_range.2 (by omega))
    have hm0 : (m == 0) = false := by simp; omega
    rw [hm0, Bool.false_or, Bool.and_eq_true] at h
    cases obj
    · exact h.2
    · exact h.1
  go_enter Tryd.func6, Tryd.ntmps6
  go_wp2_with (go_at_call 9; refine (awake_any w HT.out h2).mono ?_; rintro e w1 ⟨rfl, hb1⟩)
  rw [hm]
  clear hm
  go_loop [5, 6, 7] (fun s en i => ∃ k : Nat, k ≤ m ∧ i = .int .i64 k ∧ s = .string ⟨(nestS obj m k).toArray⟩ ∧ en = .string ⟨(nestE obj m k).toArray⟩) (fun _ _ i => m - (intOf i).toNat)
  case atStart => exact ⟨0, Nat.zero_le _, rfl, rfl, rfl⟩
  case round =>
    obtain ⟨k, hk, rfl, rfl, rfl⟩ := hrel
    have hs1 := nestS_len obj m k
    have hs2 := nestE_len obj m k
    by_cases hlt : k < m
    · by_cases ho : obj = true ∧ k + 1 < m
      · have HS : Hid ((⟨(nestS obj m k).toArray⟩ : ByteArray) ++ ⟨#[123, 34, 107, 34, 58]⟩ = ⟨(nestS obj m (k + 1)).toArray⟩) := by
          show _ = _; rw [nestS, opL, if_pos ho]; exact str_app (nestS obj m k) [123, 34, 107, 34, 58]
        have HN : Hid ((⟨#[125]⟩ : ByteArray) ++ ⟨(nestE obj m k).toArray⟩ = ⟨(nestE obj m (k + 1)).toArray⟩) := by
          show _ = _; rw [nestE, clL, if_pos ho]; exact str_app [125] (nestE obj m k)
        obtain ⟨rfl, ho2⟩ := ho
        have ho3 : (k : Int) < (m : Int) - 1 := by omega
        go_wp2
        go_round
        case rel => exact ⟨k + 1, by omega, by go_num, by rw [HS.out], by rw [HN.out]⟩
        case measure => simp [intOf]; omega
      · have HS : Hid ((⟨(nestS obj m k).toArray⟩ : ByteArray) ++ ⟨#[91]⟩ = ⟨(nestS obj m (k + 1)).toArray⟩) := by
          show _ = _; rw [nestS, opL, if_neg ho]; exact str_app (nestS obj m k) [91]
        have HN : Hid ((⟨#[93]⟩ : ByteArray) ++ ⟨(nestE obj m k).toArray⟩ = ⟨(nestE obj m (k + 1)).toArray⟩) := by
          show _ = _; rw [nestE, clL, if_neg ho]; exact str_app [93] (nestE obj m k)
        have ho2 : obj = false ∨ obj = true ∧ ¬ (k : Int) < (m : Int) - 1 := by
          cases obj
          · exact .inl rfl
          · exact .inr ⟨rfl, by simp at ho; omega⟩
        clear ho
        rcases ho2 with rfl | ⟨rfl, ho3⟩
        all_goals
          go_wp2
          go_round
          case rel => exact ⟨k + 1, by omega, by go_num, by rw [HS.out], by rw [HN.out]⟩
          case measure => simp [intOf]; omega
    · obtain rfl : k = m := by omega
      obtain ⟨L, hL⟩ : ∃ L, Hid (nestS obj k k ++ nestE obj k k = L) := ⟨_, rfl⟩
      have hap : (⟨(nestS obj k k).toArray⟩ : ByteArray) ++ ⟨(nestE obj k k).toArray⟩ = ⟨L.toArray⟩ := by rw [← hL.out]; exact str_app _ _
      have hLl : L.length ≤ 1000 := by rw [← hL.out, List.length_append]; omega
      obtain ⟨C, D, fz, hcv, hC1, hC2, hD⟩ := bytes_of L w1 (by omega)
      have HP : Hid (Calls Tryd.prog 10 #[.slice (some ⟨w1.heap.size, 0, none⟩) L.length C] (w1.drew.alloc (.cells D 5 fz)) (DoneR (w1.drew.alloc (.cells D 5 fz)) (parseM L))) := parse_new L w1 C D fz hC1 hC2 hD (tabs_below hb1 h2 HT.out) (Nat.le_trans h2 hb1.size)
      have HRS := HRES.out
      unfold resOk at HRS
      rw [hL.out] at HRS
      cases hM : parseM L with
      | ok T z =>
        rw [hM] at HRS HP
        simp only [decide_eq_true_eq] at HRS
        obtain ⟨hk16, hTl⟩ := HRS
        have HP2 : Hid (Calls Tryd.prog 10 #[.slice (some ⟨w1.heap.size, 0, none⟩) L.length C] (w1.drew.alloc (.cells D 5 fz)) fun e w' => ∃ ta tc, e = .returned (.tuple #[.slice ta k tc, .int .i64 0, .int .i64 0]) ∧ Below w.heap.size w w') := by
          have H : Calls Tryd.prog 10 #[.slice (some ⟨w1.heap.size, 0, none⟩) L.length C] (w1.drew.alloc (.cells D 5 fz)) fun e w' => ∃ v cs, e = .returned (.tuple #[v, .int .i64 0, .int .i64 0]) ∧ w'.ownsRow 0 42 6 v T.length cs ∧ Reps w' cs T ∧ Below (w1.drew.alloc (.cells D 5 fz)).heap.size (w1.drew.alloc (.cells D 5 fz)) w' := HP
          refine H.mono ?_
          rintro e w' ⟨v, cs, rfl, ho, _, hb⟩
          obtain ⟨ta, tc, rfl⟩ := own_shape ho
          exact ⟨ta, tc, by rw [hTl], (hb1.drew.alloc hb1.size _).trans (hb.mono (by have := hb1.size; simp; omega))⟩
        clear HP hM hTl
        have hk16' : (k : Int) ≤ 16 := by omega
        go_wp2_with (go_at_call 10; refine HP2.out.mono ?_; rintro e w2 ⟨ta, tc, rfl, hb2⟩)
        go_ret
        exact ⟨rfl, hb2⟩
      | bad z c =>
        rw [hM] at HRS HP
        simp only [decide_eq_true_eq] at HRS
        obtain ⟨hk16, rfl, rfl⟩ := HRS
        have HP2 : Hid (Calls Tryd.prog 10 #[.slice (some ⟨w1.heap.size, 0, none⟩) L.length C] (w1.drew.alloc (.cells D 5 fz)) fun e w' => e = .returned (.tuple #[.slice none 0 0, .int .i64 ((if obj = true then 80 else 16 : Nat) : Int), .int .i64 (26 : Nat)]) ∧ Below w.heap.size w w') := by
          have H : Calls Tryd.prog 10 #[.slice (some ⟨w1.heap.size, 0, none⟩) L.length C] (w1.drew.alloc (.cells D 5 fz)) fun e w' => e = .returned (.tuple #[.slice none 0 0, .int .i64 ((if obj = true then 80 else 16 : Nat) : Int), .int .i64 (26 : Nat)]) ∧ Below (w1.drew.alloc (.cells D 5 fz)).heap.size (w1.drew.alloc (.cells D 5 fz)) w' := HP
          refine H.mono ?_
          rintro e w' ⟨rfl, hb⟩
          exact ⟨rfl, (hb1.drew.alloc hb1.size _).trans (hb.mono (by have := hb1.size; simp; omega))⟩
        clear HP hM
        have hk16' : ¬ (k : Int) ≤ 16 := by omega
        cases obj
        all_goals
          go_wp2_with (go_at_call 10; refine HP2.out.mono ?_; rintro e w2 ⟨rfl, hb2⟩)
          go_ret
          exact ⟨rfl, hb2⟩
end Go.Proofs.YtedhglphnmheiaaDoor
