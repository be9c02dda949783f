/-
  What show.letter, comma and Quote do.
-/
import Derived.Test.YtpffhckimilppaaDoorBrow
import Derived.Test.YtpffhckimilppaaDoorShelfA
import Derived.Lib.OthersKept
import Derived.Lib.RuneBytes
import Derived.Laws.RangeAny
import Derived.Laws.IdiomStrings
namespace Go.Proofs.YtpffhckimilppaaDoor
open Go.RowKit

def hexM (k : Nat) : UInt8 := (⟨#[48, 49, 50, 51, 52, 53, 54, 55, 56, 57, 97, 98, 99, 100, 101, 102]⟩ : ByteArray).get! k
/-- A rune as it stands between quotes. -/
def letterM (r : Nat) : List UInt8 := if r = 34 ∨ r = 92 then [92, r.toUInt8] else if r < 32 then [92, 117, 48, 48, hexM (r / 16), hexM (r % 16)] else Lib.encodeRune r
/-- What a step of writing leaves, wherever the row has gone. -/
structure Step0 (base : Nat) (w : World) (v : Value) (bs : List UInt8) (w' : World) (v' : Value) (new : List UInt8) : Prop where
  row : BRow w' base v' (bs ++ new)
  grow : w.grownBy w' v.ownBlock
theorem Step.zero {base : Nat} {w w' : World} {v v' : Value} {bs new : List UInt8} (h : Step base w v bs w' v' new) : Step0 base w v bs w' v' new := ⟨h.row, h.grow⟩
theorem grown_alloc {w w' : World} {o : Obj} {g : Option Nat} (h : (w.alloc o).grownBy w' g) : w.grownBy w' g :=
  ⟨h.os, h.tape, h.output, Nat.le_trans (by simp) h.size, fun k hk hne => (h.block k (by simp; omega) hne).trans (heap_alloc_old w o hk)⟩
theorem rune_step {base : Nat} {w w' : World} {v v' : Value} {bs : List UInt8} {r : Nat} (h1 : w'.ownsRow base 5 1 v' (bs.length + (Lib.runeCells r).length) (bytesV bs ++ Lib.runeCells r)) {o : Obj} (h2 : (w.alloc o).grownBy w' v.ownBlock) : Step0 base w v bs w' v' (Lib.encodeRune r) := by
  refine ⟨?_, grown_alloc h2⟩
  unfold BRow
  rw [List.length_append, bytesV_app]
  have e : bytesV (Lib.encodeRune r) = Lib.runeCells r := Lib.byteCells_encodeRune r
  rw [e]
  have e2 : (Lib.encodeRune (r : Int)).length = (Lib.runeCells r).length := by rw [← e, bytesV_len]
  rw [e2]
  exact h1
theorem hex_at : ∀ k, k < 16 → ((⟨#[48, 49, 50, 51, 52, 53, 54, 55, 56, 57, 97, 98, 99, 100, 101, 102]⟩ : ByteArray).get! k) = hexM k := fun _ _ => rfl
theorem and15 (r : Nat) (hr : r < 256) : bits .and .i32 (r : Int) 15 = ((r % 16 : Nat) : Int) := by
  have hof : ∀ y : Nat, y < 256 → (BitVec.ofInt 32 (y : Int)).toNat = y := fun y hy => by rw [BitVec.toNat_ofInt]; omega
  show IntKind.i32.wrap ((BitVec.ofInt 32 (r : Int) &&& BitVec.ofInt 32 (15 : Int)).toNat : Int) = _
  rw [BitVec.toNat_and, hof r hr, show (15 : Int) = ((15 : Nat) : Int) from rfl, hof 15 (by decide), show r &&& 15 = r % 16 from Nat.and_two_pow_sub_one_eq_mod r 4]
  unfold IntKind.wrap; simp [IntKind.signed, IntKind.bits]; omega
theorem hex_run (p : Nat) (hp : p < 16) (w : World) : (Instr.index 9 (.string ⟨#[48, 49, 50, 51, 52, 53, 54, 55, 56, 57, 97, 98, 99, 100, 101, 102]⟩) (.int .i32 (p : Int))).run Tryd.prog w = .ok (.int .u8 (hexM p).toNat) w := by
  have hs : (⟨#[48, 49, 50, 51, 52, 53, 54, 55, 56, 57, 97, 98, 99, 100, 101, 102]⟩ : ByteArray).size = 16 := rfl
  have hg : (⟨#[48, 49, 50, 51, 52, 53, 54, 55, 56, 57, 97, 98, 99, 100, 101, 102]⟩ : ByteArray)[p]'(by rw [hs]; exact hp) = hexM p := by
    unfold hexM
    rw [ByteArray.get!, getElem!_pos _ p (show p < 16 from hp)]
    rfl
  simp [Instr.index, go_sem, run_underlying Tryd.underlying9, hs, hp, hg]
set_option maxRecDepth 100000 in
set_option maxHeartbeats 1600000 in
theorem letter_any {base : Nat} {w : World} {v : Value} {bs : List UInt8} (r : Nat) (hr : r ≤ 2147483647) (hrow : BRow w base v bs) (hbs : base ≤ w.heap.size) (hl : bs.length + 8 ≤ 140737488355328) :
    Calls Tryd.prog 28 #[v, .int .i32 r] w fun e w' => ∃ v', e = .returned v' ∧ Step0 base w v bs w' v' (letterM r) := by
  have HR := hide hrow
  have HBS := hide hbs
  unfold letterM
  by_cases h34 : r = 34
  · subst h34
    go_enter Tryd.func28, Tryd.ntmps28
    go_wp2_with (at_builtin; refine app_built (.tmp 12) (.tmp 15) [92, 34] rfl rfl rfl rfl HR.out HBS.out rfl rfl (by omega) ?_; intro v' w' h1; have H1 := hide h1; clear h1)
    go_ret
    exact ⟨_, rfl, H1.out.zero⟩
  · by_cases h92 : r = 92
    · subst h92
      go_enter Tryd.func28, Tryd.ntmps28
      go_wp2_with (at_builtin; refine app_built (.tmp 12) (.tmp 15) [92, 92] rfl rfl rfl rfl HR.out HBS.out rfl rfl (by omega) ?_; intro v' w' h1; have H1 := hide h1; clear h1)
      go_ret
      exact ⟨_, rfl, H1.out.zero⟩
    · rw [if_neg (by omega)]
      have z1 : ((r : Int) == 34) = false := by simp; omega
      have z2 : ((r : Int) == 92) = false := by simp; omega
      by_cases h32 : r < 32
      · rw [if_pos h32]
        have z3 : (r : Int) < 32 := by omega
        have d1 : (r : Int) / 16 = ((r / 16 : Nat) : Int) := by omega
        have d2 : bits .and .i32 (r : Int) 15 = ((r % 16 : Nat) : Int) := and15 r (by omega)
        have d3 : r / 16 < 16 := by omega
        have d4 : r % 16 < 16 := by omega
        have HH : Hid (hexM (r / 16) = hexM (r / 16)) := rfl
        obtain ⟨p, hp⟩ : ∃ p, r / 16 = p := ⟨_, rfl⟩
        obtain ⟨q, hq⟩ : ∃ q, r % 16 = q := ⟨_, rfl⟩
        rw [hp] at d1 d3 ⊢
        rw [hq] at d2 d4 ⊢
        have x1 : (p : Int) < 16 := by omega
        have x2 : (q : Int) < 16 := by omega
        clear hp hq HH
        have c1 := hex_run p d3
        have c2 := hex_run q d4
        go_enter Tryd.func28, Tryd.ntmps28
        go_wp2
        go_region_law (first | (refine step_builtD (.tmp 20) (.tmp 27) [92, 117, 48, 48, hexM p, hexM q] rfl rfl rfl rfl HR.out HBS.out rfl rfl (by omega) ?_; intro v' w' h1; have H1 := hide h1; clear h1))
        all_goals
          go_wp2
          go_ret
          exact ⟨_, rfl, H1.out.zero⟩
      · rw [if_neg h32]
        have z3 : ¬ (r : Int) < 32 := by omega
        have HA := hide (append_rune v bs.length (bytesV bs) (r : Int) (by omega) (by omega) w base hrow (by omega) hbs)
        go_enter Tryd.func28, Tryd.ntmps28
        go_wp2_with (go_at_call 39; refine HA.out.mono ?_; rintro e w' ⟨v', rfl, h1, o, h2⟩; have H1 := hide (rune_step h1 h2); clear h1 h2)
        go_ret
        exact ⟨_, rfl, H1.out⟩
set_option maxHeartbeats 400000 in
theorem comma_zero {w : World} {v : Value} : Calls Tryd.prog 37 #[v, .int .i64 0] w fun e w' => e = .returned v ∧ w' = w := by
  go_enter Tryd.func37, Tryd.ntmps37
  go_wp2
  go_ret
  exact ⟨rfl, rfl⟩
set_option maxHeartbeats 400000 in
theorem comma_more {base : Nat} {w : World} {v : Value} {bs : List UInt8} (i : Nat) (hi : i ≠ 0) (hrow : BRow w base v bs) (hbs : base ≤ w.heap.size) (hl : bs.length + 8 ≤ 140737488355328) :
    Calls Tryd.prog 37 #[v, .int .i64 i] w fun e w' => ∃ v', e = .returned v' ∧ Step base w v bs w' v' [44] := by
  have HR := hide hrow
  have HBS := hide hbs
  have z1 : ((i : Int) == 0) = false := by simp; omega
  have z2 : ¬ (i : Int) = 0 := by omega
  go_enter Tryd.func37, Tryd.ntmps37
  go_wp2_with (at_builtin; refine app_built (.tmp 8) (.tmp 9) [44] rfl rfl rfl rfl HR.out HBS.out rfl rfl (by omega) ?_; intro v' w' h1; have H1 := hide h1; clear h1)
  go_ret
  exact ⟨_, rfl, H1.out⟩
theorem letterM_le (r : Nat) : (letterM r).length ≤ 6 := by
  unfold letterM
  split
  · simp
  · split
    · simp
    · have h := Lib.runeCells_le (r : Int)
      rw [← Lib.byteCells_encodeRune] at h
      have e : (Lib.byteCells (Lib.encodeRune (r : Int))).length = (Lib.encodeRune (r : Int)).length := by simp [Lib.byteCells]
      omega
/-- What stands between the quotes, from place pos on. -/
def quoteFrom (s : ByteArray) : Nat → Nat → List UInt8
  | 0, _ => []
  | fuel + 1, pos => if pos < s.size then letterM (Utf8.decode s pos).1 ++ quoteFrom s fuel (pos + (Utf8.decode s pos).2) else []
def quoteM (l : List UInt8) : List UInt8 := [34] ++ quoteFrom ⟨l.toArray⟩ l.length 0 ++ [34]
theorem width_pos (s : ByteArray) (pos : Nat) (h : pos < s.size) : 1 ≤ (Utf8.decode s pos).2 := by
  by_cases ha : (s[pos]'h).toNat < 128
  · rw [decode_ascii s pos h ha]
    exact Nat.le_refl _
  · exact (decode_high s pos h (by omega)).2
theorem quoteFrom_end (s : ByteArray) (fuel pos : Nat) (h : ¬ pos < s.size) : quoteFrom s fuel pos = [] := by
  cases fuel with
  | zero => rfl
  | succ f => simp [quoteFrom, h]
theorem conv_own {w : World} {base : Nat} {v : Value} {l : List UInt8} (hown : BRow w base v l) : (convert 30 9 v).run Tryd.prog w = .ok (.string ⟨l.toArray⟩) w := by
  rcases hown.2 with ⟨rfl, e2⟩ | ⟨g, cp, cur, rfl, hbg, hgg, hnc, hcm, hcs, htake⟩
  · have hx : l = [] := List.eq_nil_of_length_eq_zero e2
    subst hx
    rw [run_convert_bytes_string w 30 9 5 none 0 0 Tryd.underlying30 Tryd.underlying5 Tryd.underlying9]
    rfl
  · refine run_convert_bytes_back (P := Tryd.prog) w 30 9 5 ⟨g, 0, none⟩ cp l Tryd.underlying30 Tryd.underlying5 Tryd.underlying9 ?_
    intro j hj
    exact World.ownsRow.cells (g := g) hown rfl j _ (bytesV_get l j hj)
theorem BRow.iterAt {w : World} {base k : Nat} {v : Value} {bs : List UInt8} {s : ByteArray} {pos : Nat} (h : BRow w base v bs) (hk : w.heap[k]? = some (.stringIter s pos)) (pos' : Nat) : BRow (w.iterAt k s pos') base v bs := own_of_block h fun g hg => by
  refine Lib.iterAt_other w k g s pos' ?_
  rintro rfl
  rcases h.2 with ⟨rfl, _⟩ | ⟨g2, cap, cur, e, _, hb, _⟩
  · cases hg
  · rw [e] at hg
    cases hg
    rw [hk] at hb
    cases hb
theorem row_not_iter {w : World} {base k : Nat} {v : Value} {bs : List UInt8} {s : ByteArray} {pos : Nat} (h : BRow w base v bs) (hk : w.heap[k]? = some (.stringIter s pos)) : some k ≠ v.ownBlock := by
  intro hg
  rcases h.2 with ⟨rfl, _⟩ | ⟨g2, cap, cur, e, _, hb, _⟩
  · cases hg
  · rw [e] at hg
    cases hg
    rw [hk] at hb
    cases hb
theorem built_row (w : World) (b : UInt8) (arr : Array Value) (h : arr.toList = bytesV [b]) : BRow (w.alloc (.cells arr 5)) w.heap.size (.slice (some ⟨w.heap.size, 0, none⟩) 1 1) [b] :=
  ⟨rfl, .inr ⟨w.heap.size, 1, arr, rfl, Nat.le_refl _, heap_alloc_new _ _, by simp, by unfold maxLen; omega, by rw [← Array.length_toList, h]; rfl, by rw [h]; rfl⟩⟩
set_option maxRecDepth 100000 in
set_option maxHeartbeats 1600000 in
theorem quote_any (l : List UInt8) (hl : l.length ≤ 17592186044416) (w : World) :
    Calls Tryd.prog 16 #[.string ⟨l.toArray⟩] w fun e w' => e = .returned (.string ⟨(quoteM l).toArray⟩) ∧ Below w.heap.size w w' := by
  have hsz0 : (⟨l.toArray⟩ : ByteArray).size = l.length := by simp [ByteArray.size]
  obtain ⟨s, hs⟩ : ∃ s : ByteArray, (⟨l.toArray⟩ : ByteArray) = s := ⟨_, rfl⟩
  have HQ : Hid (quoteM l = [34] ++ quoteFrom s s.size 0 ++ [34]) := by show _ = _; rw [← hs, hsz0]; rfl
  rw [hs] at hsz0 ⊢
  have hs' : s.size ≤ 17592186044416 := by omega
  clear hs hsz0 hl
  go_enter Tryd.func16, Tryd.ntmps16
  go_wp2
  go_loopw [3] (fun vo wr => ∃ (pos fuel : Nat) (acc : List UInt8), BRow wr w.heap.size vo acc ∧ wr.heap[w.heap.size + 1]? = some (.stringIter s pos) ∧ Below w.heap.size w wr ∧ Hid (acc ++ quoteFrom s fuel pos = [34] ++ quoteFrom s s.size 0) ∧ s.size ≤ pos + fuel ∧ acc.length + 6 * fuel ≤ 6 * s.size + 1) (fun _ wr => s.size - wr.iterPos (w.heap.size + 1))
  case atStart =>
    refine ⟨0, s.size, [34], ?_, ?_, ((Below.refl _ w).alloc (Nat.le_refl _) _).alloc (by simp) _, rfl, by omega, by simp; omega⟩
    · exact (built_row w 34 #[.int .u8 34] rfl).later (Nat.le_refl _) ((Below.refl _ _).alloc (Nat.le_refl _) _)
    · have := World.iter_heap (w.alloc (.cells #[.int .u8 34] 5)) s 0
      simpa using this
  case round =>
    obtain ⟨pos, fuel, acc, hI, hit, hbw, HACC, hfu, hal⟩ := hrel
    have hsz : w.heap.size + 1 < wr.heap.size := (Array.getElem?_eq_some_iff.1 hit).1
    by_cases hp : pos < s.size
    · have hnx : ∀ ty, (Instr.next (.pointer (some ⟨w.heap.size + 1, 0, none⟩)) true ty).run Tryd.prog wr = _ := fun ty => Lib.run_next_any_at wr (w.heap.size + 1) s pos ty hit hp
      have hwd := width_pos s pos hp
      have hd1 := decode_le s pos
      have HI2 := hide (hI.iterAt hit (pos + (Utf8.decode s pos).2))
      have HIT2 := hide (Lib.iterAt_heap wr (w.heap.size + 1) s pos (pos + (Utf8.decode s pos).2) hit)
      have HBW2 := hide (Lib.below_iterAt hbw (k := w.heap.size + 1) (by omega) s (pos + (Utf8.decode s pos).2))
      have HSZ2 : Hid (w.heap.size ≤ (wr.iterAt (w.heap.size + 1) s (pos + (Utf8.decode s pos).2)).heap.size) := by show _ ≤ _; rw [Lib.iterAt_size]; omega
      obtain ⟨f, rfl⟩ : ∃ f, fuel = f + 1 := ⟨fuel - 1, by omega⟩
      have HST : Hid (quoteFrom s (f + 1) pos = letterM (Utf8.decode s pos).1 ++ quoteFrom s f (pos + (Utf8.decode s pos).2)) := by show _ = _; simp [quoteFrom, hp]
      have HIT := hide hit
      have hl6 := letterM_le (Utf8.decode s pos).1
      clear hI hbw
      go_wp2_with (go_at_call 28; refine (letter_any (base := w.heap.size) _ (by omega) HI2.out HSZ2.out (by omega)).mono ?_; rintro e w1 ⟨v1, rfl, h1⟩; have H1 := hide h1; clear h1)
      go_roundw
      case rel =>
        refine ⟨pos + (Utf8.decode s pos).2, f, acc ++ letterM (Utf8.decode s pos).1, H1.out.row, ?_, ?_, ?_, by omega, by simp; omega⟩
        · exact (H1.out.grow.block _ (by rw [Lib.iterAt_size]; omega) (row_not_iter HI2.out HIT2.out)).trans HIT2.out
        · exact HBW2.out.grown H1.out.grow HSZ2.out fun k hk => (HI2.out.lt k hk).1
        · show _ = _
          rw [← HACC.out, HST.out]; simp
      case measure =>
        have h2 := (H1.out.grow.block _ (by rw [Lib.iterAt_size]; omega) (row_not_iter HI2.out HIT2.out)).trans HIT2.out
        simp only [World.iterPos, h2, HIT.out]
        omega
    · have hnx : ∀ ty, (Instr.next (.pointer (some ⟨w.heap.size + 1, 0, none⟩)) true ty).run Tryd.prog wr = _ := fun ty => Lib.run_next_end_at wr (w.heap.size + 1) s pos ty hit hp
      have HE : Hid (quoteM l = acc ++ [34]) := by
        show _ = _
        rw [HQ.out, ← HACC.out, quoteFrom_end s fuel pos hp, List.append_nil]
      have hlen : acc.length + 1 ≤ 140737488355328 := by omega
      have HI := hide hI
      have HBW := hide hbw
      clear hI hbw
      go_wp2_with (at_builtin; refine app_built (base := w.heap.size) (.tmp 15) (.tmp 16) [34] rfl rfl rfl rfl HI.out (by omega) rfl rfl (by simp; omega) ?_; intro v' w' h1; have HC := conv_own h1.row; have H1 := hide (h1.below HI.out HBW.out (by omega)); clear h1)
      go_ret
      exact ⟨by rw [HE.out]; rfl, H1.out⟩
end Go.Proofs.YtpffhckimilppaaDoor
