/-
  The notions that the contracts of json's reader go by: the reader's block, what a call may have turned, and what stays.
-/
import Derived.Test.YtpffhckimilppaaDoorProg
import Derived.WalkKit
import Derived.WalkSpells
import Derived.WalkLawsBesides
import Derived.Deep.QuietTactic
import Derived.BigQuiet
import Derived.Deep.RegionWith
import Derived.Shelf.Unicode.DecodeSlow
namespace Go.Proofs.YtpffhckimilppaaDoor.Js
open Go.RowKit

/-- From w to w' nothing that was there has turned but the reader's block and one row. -/
structure Fr (R : Nat) (o : Option Nat) (w w' : World) : Prop where
  os : w'.os = w.os
  tape : w'.tape = w.tape
  output : w'.output = w.output
  size : w.heap.size ≤ w'.heap.size
  block : ∀ k, k < w.heap.size → k ≠ R → o ≠ some k → w'.heap[k]? = w.heap[k]?

theorem Fr.refl (R : Nat) (o : Option Nat) (w : World) : Fr R o w w := ⟨rfl, rfl, rfl, Nat.le_refl _, fun _ _ _ _ => rfl⟩
theorem Fr.weak {R : Nat} {o : Option Nat} {w w' : World} (h : Fr R none w w') : Fr R o w w' := ⟨h.os, h.tape, h.output, h.size, fun k hk hR _ => h.block k hk hR (by simp)⟩

/-- The row is the one that it was, or a new one. -/
def Moved (n : Nat) (o o' : Option Nat) : Prop := o' = o ∨ ∃ g, o' = some g ∧ n ≤ g
theorem Moved.refl (n : Nat) (o : Option Nat) : Moved n o o := .inl rfl
theorem Moved.trans {n m : Nat} {a b c : Option Nat} (h : Moved n a b) (k : Moved m b c) (hn : n ≤ m) : Moved n a c := by
  rcases k with rfl | ⟨g, rfl, hg⟩
  · exact h
  · exact .inr ⟨g, rfl, by omega⟩

theorem Fr.trans {R : Nat} {o o1 : Option Nat} {w w1 w2 : World} (h : Fr R o w w1) (k : Fr R o1 w1 w2) (m : Moved w.heap.size o o1) : Fr R o w w2 :=
  ⟨k.os.trans h.os, k.tape.trans h.tape, k.output.trans h.output, Nat.le_trans h.size k.size, fun i hi hR ho => by
    rw [k.block i (Nat.lt_of_lt_of_le hi h.size) hR ?_, h.block i hi hR ho]
    rcases m with rfl | ⟨g, rfl, hg⟩
    · exact ho
    · simp; omega⟩
theorem Fr.trans0 {R : Nat} {o : Option Nat} {w w1 w2 : World} (h : Fr R o w w1) (k : Fr R o w1 w2) : Fr R o w w2 := h.trans k (.inl rfl)

theorem drewN_heap (w : World) (n : Nat) : (w.drewN n).heap = w.heap := by
  induction n with
  | zero => rfl
  | succ n ih => exact ih
theorem Fr.drewN {R : Nat} {o : Option Nat} {a w : World} (h : Fr R o a w) (n : Nat) : Fr R o a (w.drewN n) :=
  h.trans0 ⟨rfl, rfl, rfl, Nat.le_refl _, fun _ _ _ _ => by rw [drewN_heap]⟩
theorem Fr.drew {R : Nat} {o : Option Nat} {a w : World} (h : Fr R o a w) : Fr R o a w.drew := h.drewN 1
theorem Fr.alloc {R : Nat} {o : Option Nat} {a w : World} (h : Fr R o a w) (b : Obj) : Fr R o a (w.alloc b) :=
  h.trans0 ⟨rfl, rfl, rfl, by simp, fun k hk _ _ => Below.heap_alloc w b k hk⟩
theorem Fr.setR {R : Nat} {o : Option Nat} {a w : World} (h : Fr R o a w) (i : Nat) (v : Value) : Fr R o a (w.setCell ⟨R, i, none⟩ v) :=
  h.trans0 ⟨rfl, rfl, rfl, by simp [World.setCell], fun k _ hR _ => heap_setCell_other w _ k v hR⟩
/-- A store into a block that is new since a. -/
theorem Fr.setNew {R : Nat} {o : Option Nat} {a w : World} (h : Fr R o a w) (p : Addr) (v : Value) (hp : a.heap.size ≤ p.block) : Fr R o a (w.setCell p v) :=
  ⟨h.os, h.tape, h.output, by simpa [World.setCell] using h.size, fun k hk hR ho => by rw [heap_setCell_other w p k v (by omega)]; exact h.block k hk hR ho⟩
theorem Fr.below {R : Nat} {o : Option Nat} {w w' : World} (h : Fr R o w w') (hR : R ≤ w.heap.size) (ho : ∀ g, o = some g → R < g) : Below R w w' :=
  ⟨h.os, h.tape, h.output, h.size, fun k hk => h.block k (by omega) (by omega) (fun e => by have := ho k e; omega)⟩
theorem Fr.of_below {R : Nat} {o : Option Nat} {w w' : World} (h : Below w.heap.size w w') : Fr R o w w' :=
  ⟨h.os, h.tape, h.output, h.size, fun k hk _ _ => h.block k hk⟩

/-- The reader's block. -/
def Rd (w : World) (R : Nat) (t : Value) (a d : Nat) (v : Value) : Prop :=
  w.heap[R]? = some (.cells #[t, .int .i64 a, .int .i64 d, v] 62 (0, 0))
section
variable {w : World} {R : Nat} {t : Value} {a d : Nat} {v : Value}
theorem Rd.c0 (h : Rd w R t a d v) : w.cell? ⟨R, 0, none⟩ = some t := by rw [cell_of_row w R 0 _ _ _ h]; rfl
theorem Rd.c1 (h : Rd w R t a d v) : w.cell? ⟨R, 1, none⟩ = some (.int .i64 a) := by rw [cell_of_row w R 1 _ _ _ h]; rfl
theorem Rd.c2 (h : Rd w R t a d v) : w.cell? ⟨R, 2, none⟩ = some (.int .i64 d) := by rw [cell_of_row w R 2 _ _ _ h]; rfl
theorem Rd.c3 (h : Rd w R t a d v) : w.cell? ⟨R, 3, none⟩ = some v := by rw [cell_of_row w R 3 _ _ _ h]; rfl
theorem Rd.f (h : Rd w R t a d v) (i : Nat) : w.frozen? ⟨R, i, none⟩ = false := frozen_of_row w R i _ _ h
theorem Rd.lt (h : Rd w R t a d v) : R < w.heap.size := lt_of_block h
theorem Rd.set1 (h : Rd w R t a d v) (a' : Nat) : Rd (w.setCell ⟨R, 1, none⟩ (.int .i64 a')) R t a' d v := by
  have := heap_setCell_same w R 1 _ _ (.int .i64 a') h
  unfold Rd; rw [this]; rfl
theorem Rd.set2 (h : Rd w R t a d v) (d' : Nat) : Rd (w.setCell ⟨R, 2, none⟩ (.int .i64 d')) R t a d' v := by
  have := heap_setCell_same w R 2 _ _ (.int .i64 d') h
  unfold Rd; rw [this]; rfl
theorem Rd.set3 (h : Rd w R t a d v) (v' : Value) : Rd (w.setCell ⟨R, 3, none⟩ v') R t a d v' := by
  have := heap_setCell_same w R 3 _ _ v' h
  unfold Rd; rw [this]; rfl
theorem Rd.drewN (h : Rd w R t a d v) (n : Nat) : Rd (w.drewN n) R t a d v := by unfold Rd; rw [drewN_heap]; exact h
theorem Rd.alloc (h : Rd w R t a d v) (o : Obj) : Rd (w.alloc o) R t a d v := by unfold Rd; rw [Below.heap_alloc w o R h.lt]; exact h
theorem Rd.setOther (h : Rd w R t a d v) (p : Addr) (u : Value) (hp : R ≠ p.block) : Rd (w.setCell p u) R t a d v := by unfold Rd; rw [heap_setCell_other w p R u hp]; exact h
end

/-- The byte at a place. -/
def byteAt (B : List UInt8) (i : Nat) : Nat := (B.getD i 0).toNat
theorem byteAt_lt (B : List UInt8) (i : Nat) : byteAt B i < 256 := UInt8.toNat_lt _

/-- What stays for the whole of a reading: the text, in the world in which it began. -/
structure Env (B : List UInt8) (R tb toff cap : Nat) (w0 : World) : Prop where
  txt : ∀ j, j < B.length → w0.cell? ⟨tb, toff + j, none⟩ = some (.int .u8 (byteAt B j))
  tbR : tb < R
  len : B.length ≤ 65536
  cap_ge : B.length ≤ cap
  cap_le : cap ≤ 9223372036854775807
  tabs : Lib.Utf8Tabs 0 1 w0
  two : 2 ≤ R

/-- A reader at a place. -/
structure Sc (B : List UInt8) (R tb toff cap : Nat) (w0 w : World) (a d : Nat) (v : Value) : Prop where
  below : Below R w0 w
  rd : Rd w R (.slice (some ⟨tb, toff, none⟩) B.length cap) a d v
  at_le : a ≤ B.length
section
variable {B : List UInt8} {R tb toff cap : Nat} {w0 w w' : World} {a d : Nat} {v : Value}
theorem Sc.byte (h : Sc B R tb toff cap w0 w a d v) (E : Env B R tb toff cap w0) (j : Nat) (hj : j < B.length) : w.cell? ⟨tb, toff + j, none⟩ = some (.int .u8 (byteAt B j)) :=
  (h.below.cell E.tbR).trans (E.txt j hj)
theorem tabs_below {R : Nat} {w w' : World} (h : Below R w w') (hR : 2 ≤ R) (ht : Lib.Utf8Tabs 0 1 w) : Lib.Utf8Tabs 0 1 w' :=
  ⟨fun c hc => (h.cell (show 0 < R by omega)).trans (ht.1 c hc), fun i hi => ⟨(h.cell (show 1 < R by omega)).trans (ht.2 i hi).1, (h.cell (show 1 < R by omega)).trans (ht.2 i hi).2⟩⟩
theorem Sc.drewN (h : Sc B R tb toff cap w0 w a d v) (n : Nat) : Sc B R tb toff cap w0 (w.drewN n) a d v :=
  ⟨h.below.trans ⟨rfl, rfl, rfl, Nat.le_refl _, fun _ _ => by rw [drewN_heap]⟩, h.rd.drewN n, h.at_le⟩
theorem Sc.step (h : Sc B R tb toff cap w0 w a d v) (a' : Nat) (ha : a' ≤ B.length) : Sc B R tb toff cap w0 (w.setCell ⟨R, 1, none⟩ (.int .i64 a')) a' d v :=
  ⟨h.below.setCell (Nat.le_refl _) _, h.rd.set1 a', ha⟩
theorem Sc.stepZ (h : Sc B R tb toff cap w0 w a d v) {a' : Nat} {z : Int} (hz : z = (a' : Int)) (ha : a' ≤ B.length) : Sc B R tb toff cap w0 (w.setCell ⟨R, 1, none⟩ (.int .i64 z)) a' d v := by
  subst hz; exact h.step a' ha
theorem Sc.go (h : Sc B R tb toff cap w0 w a d v) {o : Option Nat} (f : Fr R o w w') (ho : ∀ g, o = some g → R < g) {a' d' : Nat} {v' : Value} (hr : Rd w' R (.slice (some ⟨tb, toff, none⟩) B.length cap) a' d' v') (ha : a' ≤ B.length) : Sc B R tb toff cap w0 w' a' d' v' :=
  ⟨h.below.trans (f.below (Nat.le_of_lt h.rd.lt) ho), hr, ha⟩
end

/-- What is thrown. -/
def flt (a c : Int) : List PanicEntry := [{ v := .iface 59 (.agg #[.int .i64 a, .int .i64 c]), recovered := false }]
end Go.Proofs.YtpffhckimilppaaDoor.Js