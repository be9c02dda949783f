/-
  What the calls of num.Text and of the document's Text of a number do.
-/
import Derived.Test.YtpffhckimilppaaDoorQuo
import Derived.Test.YtpffhckimilppaaDoorShelf
import Derived.Lib.ItoaNum
import Derived.Lib.ItoaMem
import Derived.Lib.AppendIntMem
namespace Go.Proofs.YtpffhckimilppaaDoor
open Go.RowKit
set_option maxRecDepth 100000

theorem digit_of (d : Nat) (h : d < 10) : (UInt8.ofNat (48 + d)).toNat = 48 + d := by
  rw [UInt8.toNat_ofNat']; omega
theorem decS (u : Nat) (h : u < 10) : Lib.decDigits u = [UInt8.ofNat (48 + u)] := by
  rw [Lib.decDigits, dif_pos h]
theorem decT (u : Nat) (h : ¬ u < 10) : Lib.decDigits u = Lib.decDigits (u / 10) ++ [UInt8.ofNat (48 + u % 10)] := by
  rw [Lib.decDigits, dif_neg h]
theorem dec_len (u : Nat) : 1 ≤ (Lib.decDigits u).length ∧ (Lib.decDigits u).length ≤ u / 10 + 1 := by
  induction u using Nat.strongRecOn with
  | _ u ih =>
    by_cases h : u < 10
    · rw [decS u h]; simp
    · have := ih (u / 10) (by omega)
      rw [decT u h, List.length_append]; simp only [List.length_singleton]; omega
theorem dec_step (u : Nat) (h : 10 ≤ u) : Lib.decDigits u = Lib.decDigits (u / 10) ++ [UInt8.ofNat (48 + u % 10)] := by
  rw [Lib.decDigits, dif_neg (by omega)]
theorem dec_small (u : Nat) (h : u < 10) : Lib.decDigits u = [UInt8.ofNat (48 + u)] := by
  rw [Lib.decDigits, dif_pos h]
theorem least_text : Lib.itoa (-9223372036854775808) = [45, 57, 50, 50, 51, 51, 55, 50, 48, 51, 54, 56, 53, 52, 55, 55, 53, 56, 48, 56] := by
  have e : (-9223372036854775808 : Int).natAbs = 9223372036854775808 := rfl
  rw [Lib.itoa, if_pos (by decide), e]
  simp [dec_step, dec_small]
/-- The library's table of the powers of ten. -/
def Tab (w : World) : Prop := Lib.TabIs Tryd.prog w "internal/strconv.uint64pow10" .u64 Lib.pow10Tab

set_option maxHeartbeats 400000 in
theorem text_any (n : Int) (h0 : -9223372036854775808 ≤ n) (h1 : n ≤ 9223372036854775807) (w : World) (ht : Tab w) :
    Calls Tryd.prog 36 #[.int .i64 n] w fun e w' => e = .returned (.string ⟨(Lib.itoa n).toArray⟩) ∧ Below w.heap.size w w' := by
  have hi := Tryd.strconv_Itoa n h0 h1 w ht
  have H : Hid (Calls Tryd.prog 48 #[.int .i64 n] w fun e w' => e = .returned (.string ⟨(Lib.itoa n).toArray⟩) ∧ ∃ k os, w' = Sort.grow (w.drewN k) os) := hi
  clear hi ht
  go_enter Tryd.func36, Tryd.ntmps36
  go_wp2_with (go_at_call 48; refine H.out.mono ?_; rintro e w' ⟨rfl, k, os, rfl⟩)
  go_ret
  exact ⟨rfl, Lib.below_grow _ w (Nat.le_refl _) k os⟩

theorem conv_one (wr : World) (v : Nat) (c : UInt8) (hc : UInt8.ofNat (48 + v % 10) = c) :
    (convert 30 9 (.slice (some ⟨wr.heap.size, 0, none⟩) 1 1)).run Tryd.prog (wr.alloc (.cells #[.int .u8 (48 + (v : Int) % 10)] 5)) = .ok (.string ⟨#[c]⟩) (wr.alloc (.cells #[.int .u8 (48 + (v : Int) % 10)] 5)) := by
  have h := run_convert_bytes_back (P := Tryd.prog) (wr.alloc (.cells #[.int .u8 (48 + (v : Int) % 10)] 5)) 30 9 5 ⟨wr.heap.size, 0, none⟩ 1 [c] Tryd.underlying30 Tryd.underlying5 Tryd.underlying9 (by
    intro j hj
    obtain rfl : j = 0 := by simp at hj; omega
    have e : (c.toNat : Int) = 48 + (v : Int) % 10 := by rw [← hc, digit_of _ (by omega)]; omega
    simp only [List.getElem_cons_zero]
    rw [e]
    simp [Addr.add])
  exact h
theorem str_cons (c : UInt8) (l : List UInt8) : (⟨#[c]⟩ : ByteArray) ++ ⟨l.toArray⟩ = ⟨(c :: l).toArray⟩ := by
  apply ByteArray.ext
  simp [ByteArray.data_append]
theorem ret_str {a b : ByteArray} (h : a = b) : Ending.returned (.string a) = .returned (.string b) := by rw [h]

set_option maxHeartbeats 800000 in
theorem rtext_pos (u : Nat) (hu : u ≤ 9223372036854775807) (w : World) :
    Calls Tryd.prog 38 #[.int .i64 u] w fun e w' => e = .returned (.string ⟨(Lib.decDigits u).toArray⟩) ∧ Below w.heap.size w w' := by
  have hne : ((u : Int) == -9223372036854775808) = false := by rw [beq_eq_false_iff_ne]; omega
  go_enter Tryd.func38, Tryd.ntmps38
  go_wp2
  go_loopw [0, 3] (fun a s wr => ∃ (v : Nat) (l : List UInt8), v ≤ u ∧ a = .int .i64 v ∧ s = .string ⟨l.toArray⟩ ∧ Lib.decDigits u = Lib.decDigits v ++ l ∧ Below w.heap.size w wr) (fun a _ _ => (intOf a).toNat)
  case atStart => exact ⟨u, [], Nat.le_refl _, rfl, rfl, by simp, Below.refl _ _⟩
  case round =>
    obtain ⟨v, l, hv, rfl, rfl, hl, hnx⟩ := hrel
    have HL : Hid (Lib.decDigits u = Lib.decDigits v ++ l) := hl
    clear hl
    obtain ⟨c, hc⟩ : ∃ c, Hid (UInt8.ofNat (48 + v % 10) = c) := ⟨_, rfl⟩
    have hcv := conv_one wr v c hc.out
    have hdl : (Lib.decDigits u).length = (Lib.decDigits v).length + l.length := by rw [HL.out]; simp
    have hll : l.length ≤ 1000000000000000000 := by have := dec_len u; omega
    clear hdl
    by_cases hz : v < 10
    · have HF : Hid ((⟨#[c]⟩ : ByteArray) ++ ⟨l.toArray⟩ = ⟨(Lib.decDigits u).toArray⟩) := by
        show _ = _
        rw [str_cons, HL.out, decS v hz]
        have : v % 10 = v := by omega
        rw [← hc.out, this]; rfl
      go_wp2
      go_ret
      exact ⟨ret_str HF.out, hnx.alloc (hnx.size) _⟩
    · have HF : Hid (Lib.decDigits u = Lib.decDigits (v / 10) ++ c :: l) := by
        show _ = _
        rw [HL.out, decT v hz, hc.out]; simp
      have HC : Hid ((⟨#[c]⟩ : ByteArray) ++ ⟨l.toArray⟩ = ⟨(c :: l).toArray⟩) := str_cons c l
      go_wp2
      go_roundw
      case rel => exact ⟨v / 10, c :: l, by omega, by go_num, by rw [HC.out], HF.out, hnx.alloc (hnx.size) _⟩
      case measure => simp [intOf]; omega

theorem neg_text (n : Int) (h : n < 0) : (⟨#[45]⟩ : ByteArray) ++ ⟨(Lib.decDigits n.natAbs).toArray⟩ = ⟨(Lib.itoa n).toArray⟩ := by
  rw [str_cons, Lib.itoa, if_pos h]

set_option maxHeartbeats 800000 in
theorem rtext_any (n : Int) (h0 : -9223372036854775808 ≤ n) (h1 : n ≤ 9223372036854775807) (w : World) :
    Calls Tryd.prog 38 #[.int .i64 n] w fun e w' => e = .returned (.string ⟨(Lib.itoa n).toArray⟩) ∧ Below w.heap.size w w' := by
  by_cases hneg : n < 0
  · by_cases hmin : n = -9223372036854775808
    · subst hmin
      have HL : Hid (Lib.itoa (-9223372036854775808) = [45, 57, 50, 50, 51, 51, 55, 50, 48, 51, 54, 56, 53, 52, 55, 55, 53, 56, 48, 56]) := least_text
      go_enter Tryd.func38, Tryd.ntmps38
      go_wp2
      go_ret
      exact ⟨by rw [HL.out]; rfl, Below.refl _ _⟩
    · have hm : (n == -9223372036854775808) = false := by simpa using hmin
      have HN : Hid ((⟨#[45]⟩ : ByteArray) ++ ⟨(Lib.decDigits n.natAbs).toArray⟩ = ⟨(Lib.itoa n).toArray⟩) := neg_text n hneg
      have hll : (Lib.decDigits n.natAbs).length ≤ 1000000000000000000 := by have := dec_len n.natAbs; omega
      have hnat : -n = (n.natAbs : Int) := by omega
      have hbd : n.natAbs ≤ 9223372036854775807 := by omega
      have HR : Hid (∀ w, Calls Tryd.prog 38 #[.int .i64 (-n)] w fun e w' => e = .returned (.string ⟨(Lib.decDigits n.natAbs).toArray⟩) ∧ Below w.heap.size w w') := by
        intro w; rw [hnat]; exact rtext_pos n.natAbs hbd w
      clear hnat hbd
      have hm2 : -9223372036854775808 < n := by omega
      go_enter Tryd.func38, Tryd.ntmps38
      go_wp2_with (go_at_call 38; refine (HR.out _).mono ?_; rintro e w' ⟨rfl, hb⟩)
      go_ret
      exact ⟨ret_str HN.out, hb⟩
  · have e : n = ((n.toNat : Nat) : Int) := by omega
    have e2 : Lib.itoa n = Lib.decDigits n.toNat := by rw [Lib.itoa, if_neg hneg]
    rw [e2]
    have := rtext_pos n.toNat (by omega) w
    rwa [← e] at this

theorem dec_le : ∀ (k u : Nat), u < 10 ^ (k + 1) → (Lib.decDigits u).length ≤ k + 1
  | 0, u, h => by rw [decS u (by simpa using h)]; simp
  | k + 1, u, h => by
    by_cases hs : u < 10
    · rw [decS u hs]; simp
    · have := dec_le k (u / 10) (by rw [Nat.pow_succ] at h; omega)
      rw [decT u hs, List.length_append]; simp only [List.length_singleton]; omega
theorem itoa_le (n : Int) (h0 : -9223372036854775808 ≤ n) (h1 : n ≤ 9223372036854775807) : (Lib.itoa n).length ≤ 20 := by
  unfold Lib.itoa
  have e : (10 : Nat) ^ (18 + 1) = 10000000000000000000 := by decide
  split
  · have := dec_le 18 n.natAbs (by rw [e]; omega)
    simp only [List.length_cons]; omega
  · have := dec_le 18 n.toNat (by rw [e]; omega)
    omega
end Go.Proofs.YtpffhckimilppaaDoor
