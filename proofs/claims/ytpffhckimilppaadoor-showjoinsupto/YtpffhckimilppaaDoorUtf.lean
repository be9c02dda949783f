/-
  What the document's UTF does: is a text UTF-8?
-/
import Derived.Test.YtpffhckimilppaaDoorRune
import Derived.Test.YtpffhckimilppaaDoorQuo
import Derived.Lib.MapLaws
import Derived.Lib.TrimUEq
import Derived.Lib.ValidU
namespace Go.Proofs.YtpffhckimilppaaDoor
open Go.RowKit
set_option maxRecDepth 100000

def byteAt (B : List UInt8) (i : Nat) : Nat := (B.getD i 0).toNat
theorem byteAt_lt (B : List UInt8) (i : Nat) : byteAt B i < 256 := UInt8.toNat_lt _
def decAt (B : List UInt8) (a : Nat) : Nat × Nat := Lib.decodeN (B.length - a) (byteAt B a) (byteAt B (a + 1)) (byteAt B (a + 2)) (byteAt B (a + 3))
theorem getD_drop (B : List UInt8) (p j : Nat) : (B.drop p).getD j 0 = B.getD (p + j) 0 := by simp [List.getD_eq_getElem?_getD, List.getElem?_drop]
theorem decAt_L (B : List UInt8) (p : Nat) : decAt B p = Lib.decodeL (B.drop p) := by
  rw [Lib.decodeL_N]
  unfold decAt byteAt
  rw [getD_drop, getD_drop, getD_drop, getD_drop, List.length_drop]
  rfl
theorem get_list (l : List UInt8) (i : Nat) : ((⟨l.toArray⟩ : ByteArray).get! i) = l.getD i 0 := by
  simp [ByteArray.get!, List.getD_eq_getElem?_getD, getElem!_def]
  cases l[i]? <;> rfl
theorem decode_list (l : List UInt8) (p : Nat) : Utf8.decode ⟨l.toArray⟩ p = decAt l p := by
  rw [Lib.decode_at]
  unfold decAt byteAt
  rw [get_list, get_list, get_list, get_list]
  rfl
theorem dec_bytes (B : List UInt8) (p : Nat) (hp : p < B.length) (h : ¬ ((decAt B p).1 = 65533 ∧ (decAt B p).2 = 1)) : Lib.encodeRune ((decAt B p).1 : Nat) = (B.drop p).take (decAt B p).2 := by
  rw [decAt_L] at h ⊢
  exact Lib.encode_decode _ (by simp; omega) h
theorem runeM_at (B : List UInt8) (p : Nat) : runeM (B.length - p) (fun j => byteAt B (p + j)) = if (decAt B p).1 = 65533 ∧ (decAt B p).2 = 1 then 0 else (decAt B p).2 := by
  rw [rune_dec _ _ (fun j => byteAt_lt B (p + j))]
  have e : Lib.decodeN (B.length - p) (byteAt B (p + 0)) (byteAt B (p + 1)) (byteAt B (p + 2)) (byteAt B (p + 3)) = decAt B p := rfl
  rw [e]
  by_cases h : (decAt B p).1 = 65533 ∧ (decAt B p).2 = 1
  · rw [if_pos h, if_pos (Prod.ext h.1 h.2)]
  · rw [if_neg h, if_neg (fun e => h ⟨by rw [e], by rw [e]⟩)]
theorem tailM_le (bs : Nat → Nat) (n a b : Nat) : tailM bs n a b = n ∨ tailM bs n a b = 0 := by unfold tailM; split <;> simp
theorem runeM_le (N : Nat) (bs : Nat → Nat) (h : 1 ≤ N) : runeM N bs ≤ N ∧ runeM N bs ≤ 4 := by
  unfold runeM
  have t2 := tailM_le bs 2 128 (bs 0 % 32)
  have t3 := tailM_le bs 3 2048 (bs 0 % 16)
  have t4 := tailM_le bs 4 65536 (bs 0 % 8)
  repeat' split
  all_goals omega
/-- Bytes in memory, wherever they lie. -/
def BytesIn (w : World) (g : Nat) (l : List UInt8) : Prop := ∀ j, j < l.length → w.cell? ⟨g, j, none⟩ = some (.int .u8 (byteAt l j))
theorem BytesIn.later {w w' : World} {g : Nat} {l : List UInt8} (h : BytesIn w g l) (f : Below w.heap.size w w') : BytesIn w' g l := fun j hj => (f.cell (p := ⟨g, j, none⟩) (block_lt_of_cell (h j hj))).trans (h j hj)
theorem rune_in {w : World} {g : Nat} {l : List UInt8} (h : BytesIn w g l) (p cap : Nat) (hp : p < l.length) (hl : l.length ≤ 9223372036854775807) :
    Calls Tryd.prog 31 #[.slice (some ⟨g, p, none⟩) (l.length - p) cap] w fun e w' => e = .returned (.int .i64 ((if (decAt l p).1 = 65533 ∧ (decAt l p).2 = 1 then 0 else (decAt l p).2 : Nat) : Int)) ∧ w' = w := by
  have := rune_any ⟨g, p, none⟩ (l.length - p) cap (fun j => byteAt l (p + j)) w (fun j hj => by
    have e : (⟨g, p, none⟩ : Addr).add j = ⟨g, p + j, none⟩ := by
      unfold Addr.add
      split
      · rename_i h; subst h; rfl
      · rfl
    rw [e]; exact h (p + j) (by omega)) (fun j => byteAt_lt _ _) (by omega) (by omega)
  rw [runeM_at] at this
  exact this
/-- The bytes of a string, as the conversion lays them. -/
theorem bytes_conv (w : World) (l : List UInt8) : ∃ cap o, l.length ≤ cap ∧ (convert 9 30 (.string ⟨l.toArray⟩)).run Tryd.prog w = .ok (.slice (some ⟨w.heap.size, 0, none⟩) l.length cap) (w.drew.alloc o) ∧ BytesIn (w.drew.alloc o) w.heap.size l := by
  have hz : (⟨l.toArray⟩ : ByteArray).size = l.length := by simp [ByteArray.size]
  have h := run_bytes_of_string (P := Tryd.prog) w 9 30 5 ⟨l.toArray⟩ Tryd.underlying9 Tryd.underlying30 Tryd.underlying5
  rw [hz] at h
  refine ⟨_, _, grownCap_ge w l.length 0 5, h, fun j hj => ?_⟩
  rw [cell_of_row _ w.heap.size j _ _ _ (show (w.drew.alloc _).heap[w.heap.size]? = _ from heap_alloc_new w.drew _)]
  unfold bytesRow byteAt
  rw [Array.getElem?_append_left (by simpa using hj)]
  simp [List.getD_eq_getElem?_getD, hj]
theorem valid_step (l : List UInt8) (f p : Nat) (hp : p < l.length) : Lib.validGoD (f + 1) (l.drop p) = if (decAt l p).1 = 65533 ∧ (decAt l p).2 = 1 then false else Lib.validGoD f (l.drop (p + (decAt l p).2)) := by
  have hne : ¬ l.drop p = [] := by simp; omega
  show (if l.drop p = [] then true else if (Lib.decodeL (l.drop p)).1 = 65533 ∧ (Lib.decodeL (l.drop p)).2 = 1 then false else Lib.validGoD f ((l.drop p).drop (Lib.decodeL (l.drop p)).2)) = _
  rw [if_neg hne, decAt_L, List.drop_drop]
theorem valid_end (l : List UInt8) (f p : Nat) (hp : l.length ≤ p) : Lib.validGoD f (l.drop p) = true := by
  rw [List.drop_eq_nil_of_le hp]
  cases f with
  | zero => rfl
  | succ f => show (if ([] : List UInt8) = [] then true else _) = true; rw [if_pos rfl]
set_option maxHeartbeats 1600000 in
theorem utf_any (l : List UInt8) (hl : l.length ≤ 9223372036854775807) (w : World) :
    Calls Tryd.prog 19 #[.string ⟨l.toArray⟩] w fun e w' => e = .returned (.bool (Lib.validD l)) ∧ Below w.heap.size w w' := by
  obtain ⟨cap, o, hcap, hcv, hby⟩ := bytes_conv w l
  have HB := hide hby
  have HB0 := hide ((Below.refl w.heap.size w).drew.alloc (Nat.le_refl _) o)
  generalize hw1 : w.drew.alloc o = w1 at hcv HB HB0
  clear hby hw1
  go_enter Tryd.func19, Tryd.ntmps19
  go_wp2
  go_loopw [4] (fun vi wr => ∃ i f : Nat, vi = .int .i64 i ∧ i ≤ l.length ∧ l.length ≤ i + f ∧ Hid (Lib.validD l = Lib.validGoD f (l.drop i)) ∧ Hid (wr = w1)) (fun vi _ => l.length - (intOf vi).toNat)
  case atStart => exact ⟨0, l.length, rfl, Nat.zero_le _, by omega, rfl, rfl⟩
  case round =>
    obtain ⟨i, f, rfl, hi, hf, HI, HW⟩ := hrel
    have hw := HW.out
    subst hw
    clear HW
    by_cases hil : i < l.length
    · have i1 : (i : Int) < (l.length : Int) := by omega
      have s1 : (i : Int) ≤ (l.length : Int) := by omega
      have s2 : (l.length : Int) ≤ (cap : Int) := by omega
      have s3 : ¬ cap = i := by omega
      have s4 : ¬ i = cap := by omega
      obtain ⟨f2, rfl⟩ : ∃ f2, f = f2 + 1 := ⟨f - 1, by omega⟩
      have HST := hide (valid_step l f2 i hil)
      have HRU := hide (rune_in HB.out i (cap - i) hil hl)
      have hrl := runeM_le (l.length - i) (fun j => byteAt l (i + j)) (by omega)
      rw [runeM_at] at hrl
      by_cases hbad : (decAt l i).1 = 65533 ∧ (decAt l i).2 = 1
      · rw [if_pos hbad] at HST HRU
        have HF := hide (HI.out.trans HST.out)
        clear hrl hbad
        go_wp2_with (go_at_call 31; refine HRU.out.mono ?_; rintro e w2 ⟨rfl, hw⟩; rw [hw]; clear hw)
        go_ret
        exact ⟨by rw [HF.out]; rfl, HB0.out⟩
      · rw [if_neg hbad] at HST HRU hrl
        have hpos : 1 ≤ (decAt l i).2 := by rw [decAt_L]; exact Lib.decodeL_width _
        have HF := hide (HI.out.trans HST.out)
        clear hbad HST
        generalize (decAt l i).2 = n at HRU hrl hpos HF
        obtain ⟨h1, h2⟩ := hrl
        have z1 : ((n : Int) == 0) = false := by simp; omega
        have z2 : ¬ (n : Int) = 0 := by omega
        go_wp2_with (go_at_call 31; refine HRU.out.mono ?_; rintro e w2 ⟨rfl, hw⟩; rw [hw]; clear hw)
        go_roundw
        case rel => exact ⟨i + n, f2, by go_num, by omega, by omega, HF.out, hide trivial⟩
        case measure => simp [intOf]; omega
    · have i1 : ¬ (i : Int) < (l.length : Int) := by omega
      have HF := hide (HI.out.trans (valid_end l f i (by omega)))
      go_wp2
      go_ret
      exact ⟨by rw [HF.out]; rfl, HB0.out⟩
end Go.Proofs.YtpffhckimilppaaDoor
