/-
  What the calls of the document's Fits and of its text of a number do.
-/
import Derived.Test.YtjknlglbejhkkaaDoorBase
import Derived.Test.YtjknlglbejhkkaaDoorNumeral
import Derived.Lib.AppendIntMem
namespace Go.Proofs.YtjknlglbejhkkaaDoor
open Go.RowKit

set_option maxHeartbeats 400000 in
theorem rfits_any (a : Int) (w : World) :
    Calls Tryd.prog 14 #[.int .i64 a] w fun e w' => e = .returned (.bool (fitsB a)) ∧ w' = w := by
  by_cases h1 : -4611686018427387903 ≤ a <;> by_cases h2 : a ≤ 4611686018427387903
  all_goals
    go_enter Tryd.func14, Tryd.ntmps14
    go_wp2
    go_ret
    exact ⟨by simp [fitsB, h1, h2], rfl⟩

theorem dec_small (u : Nat) (h : u < 10) : Lib.decDigits u = [UInt8.ofNat (48 + u)] := by
  rw [Lib.decDigits, dif_pos h]
theorem dec_step (u : Nat) (h : 10 ≤ u) : Lib.decDigits u = Lib.decDigits (u / 10) ++ [UInt8.ofNat (48 + u % 10)] := by
  rw [Lib.decDigits, dif_neg (by omega)]
theorem least_text : Lib.itoa (-9223372036854775808) = [45, 57, 50, 50, 51, 51, 55, 50, 48, 51, 54, 56, 53, 52, 55, 55, 53, 56, 48, 56] := by
  have e : (-9223372036854775808 : Int).natAbs = 9223372036854775808 := rfl
  rw [Lib.itoa, if_pos (by decide), e]
  simp [dec_step, dec_small]

theorem conv_one (wr : World) (v : Nat) (c : UInt8) (hc : UInt8.ofNat (48 + v % 10) = c) :
    (convert 22 9 (.slice (some ⟨wr.heap.size, 0, none⟩) 1 1)).run Tryd.prog (wr.alloc (.cells #[.int .u8 (48 + (v : Int) % 10)] 5)) = .ok (.string ⟨#[c]⟩) (wr.alloc (.cells #[.int .u8 (48 + (v : Int) % 10)] 5)) := by
  have h := run_convert_bytes_back (P := Tryd.prog) (wr.alloc (.cells #[.int .u8 (48 + (v : Int) % 10)] 5)) 22 9 5 ⟨wr.heap.size, 0, none⟩ 1 [c] Tryd.underlying22 Tryd.underlying5 Tryd.underlying9 (by
    intro j hj
    obtain rfl : j = 0 := by simp at hj; omega
    have e : (c.toNat : Int) = 48 + (v : Int) % 10 := by rw [← hc, digit_of _ (by omega)]; omega
    simp only [List.getElem_cons_zero]
    rw [e]
    simp [Addr.add])
  exact h
theorem str_cons (c : UInt8) (l : List UInt8) : (⟨#[c]⟩ : ByteArray) ++ ⟨l.toArray⟩ = ⟨(c :: l).toArray⟩ := by
  apply ByteArray.ext
  simp [ByteArray.data_append]
theorem ret_str {a b : ByteArray} (h : a = b) : Ending.returned (.string a) = .returned (.string b) := by rw [h]

set_option maxHeartbeats 800000 in
theorem rtext_pos (u : Nat) (hu : u ≤ 9223372036854775807) (w : World) :
    Calls Tryd.prog 13 #[.int .i64 u] w fun e w' => e = .returned (.string ⟨(Lib.decDigits u).toArray⟩) ∧ Below w.heap.size w w' := by
  have hne : ((u : Int) == -9223372036854775808) = false := by rw [beq_eq_false_iff_ne]; omega
  go_enter Tryd.func13, Tryd.ntmps13
  go_wp2
  go_loopw [0, 3] (fun a s wr => ∃ (v : Nat) (l : List UInt8), v ≤ u ∧ a = .int .i64 v ∧ s = .string ⟨l.toArray⟩ ∧ Lib.decDigits u = Lib.decDigits v ++ l ∧ Below w.heap.size w wr) (fun a _ _ => (intOf a).toNat)
  case atStart => exact ⟨u, [], Nat.le_refl _, rfl, rfl, by simp, Below.refl _ _⟩
  case round =>
    obtain ⟨v, l, hv, rfl, rfl, hl, hnx⟩ := hrel
    have HL : Hid (Lib.decDigits u = Lib.decDigits v ++ l) := hl
    clear hl
    obtain ⟨c, hc⟩ : ∃ c, Hid (UInt8.ofNat (48 + v % 10) = c) := ⟨_, rfl⟩
    have hcv := conv_one wr v c hc.out
    have hdl : (Lib.decDigits u).length = (Lib.decDigits v).length + l.length := by rw [HL.out]; simp
    have hll : l.length ≤ 1000000000000000000 := by have := dec_len u; omega
    clear hdl
    by_cases hz : v < 10
    · have HF : Hid ((⟨#[c]⟩ : ByteArray) ++ ⟨l.toArray⟩ = ⟨(Lib.decDigits u).toArray⟩) := by
        show _ = _
        rw [str_cons, HL.out, decS v hz]
        have : v % 10 = v := by omega
        rw [← hc.out, this]; rfl
      go_wp2
      go_ret
      exact ⟨ret_str HF.out, hnx.alloc (hnx.size) _⟩
    · have HF : Hid (Lib.decDigits u = Lib.decDigits (v / 10) ++ c :: l) := by
        show _ = _
        rw [HL.out, decT v hz, hc.out]; simp
      have HC : Hid ((⟨#[c]⟩ : ByteArray) ++ ⟨l.toArray⟩ = ⟨(c :: l).toArray⟩) := str_cons c l
      go_wp2
      go_roundw
      case rel => exact ⟨v / 10, c :: l, by omega, by go_num, by rw [HC.out], HF.out, hnx.alloc (hnx.size) _⟩
      case measure => simp [intOf]; omega

theorem neg_text (n : Int) (h : n < 0) : (⟨#[45]⟩ : ByteArray) ++ ⟨(Lib.decDigits n.natAbs).toArray⟩ = ⟨(Lib.itoa n).toArray⟩ := by
  rw [str_cons, Lib.itoa, if_pos h]

set_option maxHeartbeats 800000 in
theorem rtext_any (n : Int) (h0 : -9223372036854775808 ≤ n) (h1 : n ≤ 9223372036854775807) (w : World) :
    Calls Tryd.prog 13 #[.int .i64 n] w fun e w' => e = .returned (.string ⟨(Lib.itoa n).toArray⟩) ∧ Below w.heap.size w w' := by
  by_cases hneg : n < 0
  · by_cases hmin : n = -9223372036854775808
    · subst hmin
      have HL : Hid (Lib.itoa (-9223372036854775808) = [45, 57, 50, 50, 51, 51, 55, 50, 48, 51, 54, 56, 53, 52, 55, 55, 53, 56, 48, 56]) := least_text
      go_enter Tryd.func13, Tryd.ntmps13
      go_wp2
      go_ret
      exact ⟨by rw [HL.out]; rfl, Below.refl _ _⟩
    · have hm : (n == -9223372036854775808) = false := by simpa using hmin
      have HN : Hid ((⟨#[45]⟩ : ByteArray) ++ ⟨(Lib.decDigits n.natAbs).toArray⟩ = ⟨(Lib.itoa n).toArray⟩) := neg_text n hneg
      have hll : (Lib.decDigits n.natAbs).length ≤ 1000000000000000000 := by have := dec_len n.natAbs; omega
      have hnat : -n = (n.natAbs : Int) := by omega
      have hbd : n.natAbs ≤ 9223372036854775807 := by omega
      have HR : Hid (∀ w, Calls Tryd.prog 13 #[.int .i64 (-n)] w fun e w' => e = .returned (.string ⟨(Lib.decDigits n.natAbs).toArray⟩) ∧ Below w.heap.size w w') := by
        intro w; rw [hnat]; exact rtext_pos n.natAbs hbd w
      clear hnat hbd
      have hm2 : -9223372036854775808 < n := by omega
      go_enter Tryd.func13, Tryd.ntmps13
      go_wp2_with (go_at_call 13; refine (HR.out _).mono ?_; rintro e w' ⟨rfl, hb⟩)
      go_ret
      exact ⟨ret_str HN.out, hb⟩
  · have e : n = ((n.toNat : Nat) : Int) := by omega
    have e2 : Lib.itoa n = Lib.decDigits n.toNat := by rw [Lib.itoa, if_neg hneg]
    rw [e2]
    have := rtext_pos n.toNat (by omega) w
    rwa [← e] at this

end Go.Proofs.YtjknlglbejhkkaaDoor
