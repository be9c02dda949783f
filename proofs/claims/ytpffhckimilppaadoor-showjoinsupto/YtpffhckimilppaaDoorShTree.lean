/-
  Trees of values that are read alone, and rows of truths and of whole numbers that a call owns.
-/
import Derived.Test.YtpffhckimilppaaDoorProg
import Derived.WalkKit
import Derived.WalkSpells
import Derived.WalkLawsBesides
import Derived.Deep.QuietTactic
import Derived.BigQuiet
import Derived.Deep.RegionWith
import Derived.Deep.RegionHeld3
import Derived.Laws.MakeOwn
import Derived.Laws.OwnMore
namespace Go.Proofs.YtpffhckimilppaaDoor
open Go.RowKit

theorem hide {p : Prop} (h : p) : Hid p := h
/-- A value of any tree. -/
structure VI where
  kind : Int := 0
  truth : Bool := false
  num : Int := 0
  text : List UInt8 := []
  names : List (List UInt8) := []
  kids : List Int := []
def strv (s : List UInt8) : Value := .string ⟨s.toArray⟩
def intv (k : Int) : Value := .int .i64 k
/-- A slice of elements of one cell that reads so. -/
def SlAt (w : World) (v : Value) (xs : List Value) : Prop := ∃ a cap, v = .slice a xs.length cap ∧ xs.length ≤ 9223372036854775807 ∧ ∀ j u, xs[j]? = some u → ∃ g, a = some g ∧ w.cell? (g.add j) = some u
def aggI (x : VI) (nv kv : Value) : List Value := [.int .i64 x.kind, .bool x.truth, .int .i64 x.num, .string ⟨x.text.toArray⟩, nv, kv]
structure VAt (w : World) (x : VI) (nv kv : Value) : Prop where
  names : SlAt w nv (x.names.map strv)
  kids : SlAt w kv (x.kids.map intv)
def TreeAt (w : World) (v : Value) (T : List VI) : Prop := ∃ a cap, v = .slice a T.length cap ∧ T.length ≤ 9223372036854775807 ∧ ∀ i x, T[i]? = some x → ∃ g o nv kv, a = some ⟨g, o, none⟩ ∧ VAt w x nv kv ∧ ∀ j u, (aggI x nv kv)[j]? = some u → w.cell? ⟨g, o + i * 6 + j, none⟩ = some u
theorem SlAt.later {w w' : World} {v : Value} {xs : List Value} (h : SlAt w v xs) (hb : Below w.heap.size w w') : SlAt w' v xs := by
  obtain ⟨a, cap, hv, hl, hc⟩ := h
  refine ⟨a, cap, hv, hl, fun j u hj => ?_⟩
  obtain ⟨g, hg, hu⟩ := hc j u hj
  exact ⟨g, hg, (hb.cell (block_lt_of_cell hu)).trans hu⟩
theorem VAt.later {w w' : World} {x : VI} {nv kv : Value} (h : VAt w x nv kv) (hb : Below w.heap.size w w') : VAt w' x nv kv := ⟨h.names.later hb, h.kids.later hb⟩
theorem TreeAt.later {w w' : World} {v : Value} {T : List VI} (h : TreeAt w v T) (hb : Below w.heap.size w w') : TreeAt w' v T := by
  obtain ⟨a, cap, hv, hl, hc⟩ := h
  refine ⟨a, cap, hv, hl, fun i x hi => ?_⟩
  obtain ⟨g, o, nv, kv, hg, hx, hu⟩ := hc i x hi
  exact ⟨g, o, nv, kv, hg, hx.later hb, fun j u hj => (hb.cell (block_lt_of_cell (hu j u hj))).trans (hu j u hj)⟩
theorem six_cells {w : World} {g o : Nat} {x : VI} {nv kv : Value} (h : ∀ j u, (aggI x nv kv)[j]? = some u → w.cell? ⟨g, o + j, none⟩ = some u) :
    w.cell? ⟨g, o, none⟩ = some (.int .i64 x.kind) ∧ w.cell? ⟨g, o + 1, none⟩ = some (.bool x.truth) ∧ w.cell? ⟨g, o + 2, none⟩ = some (.int .i64 x.num) ∧ w.cell? ⟨g, o + 3, none⟩ = some (.string ⟨x.text.toArray⟩) ∧ w.cell? ⟨g, o + 4, none⟩ = some nv ∧ w.cell? ⟨g, o + 5, none⟩ = some kv :=
  ⟨h 0 _ rfl, h 1 _ rfl, h 2 _ rfl, h 3 _ rfl, h 4 _ rfl, h 5 _ rfl⟩
theorem add0 (g j : Nat) : (⟨g, 0, none⟩ : Addr).add j = ⟨g, j, none⟩ := by
  unfold Addr.add
  split
  · rename_i h; subst h; rfl
  · simp
theorem drewN_heap (w : World) (n : Nat) : (w.drewN n).heap = w.heap := by
  induction n with
  | zero => rfl
  | succ n ih => exact ih
theorem below_drewN {B : Nat} {a w : World} (h : Below B a w) (n : Nat) : Below B a (w.drewN n) := ⟨h.os, h.tape, h.output, by rw [drewN_heap]; exact h.size, fun k hk => by rw [drewN_heap]; exact h.block k hk⟩
/-- A row of truths or of numbers in a block of its own: block g, of n cells of one type, that read as f says. -/
structure Cells (w : World) (g n : Nat) (e : TypeId) (f : Nat → Value) : Prop where
  row : ∃ cs : Array Value, w.heap[g]? = some (.cells cs e (0, 0)) ∧ n ≤ cs.size ∧ ∀ j, j < n → cs[j]? = some (f j)
section
variable {w w' : World} {g n : Nat} {e : TypeId} {f : Nat → Value}
theorem Cells.cell (h : Cells w g n e f) (j : Nat) (hj : j < n) : w.cell? ⟨g, j, none⟩ = some (f j) := by
  obtain ⟨cs, h1, _, h3⟩ := h.row
  rw [cell_of_row _ g j _ _ _ h1]; exact h3 j hj
theorem Cells.frozen (h : Cells w g n e f) (j : Nat) : w.frozen? ⟨g, j, none⟩ = false := by
  obtain ⟨cs, h1, _⟩ := h.row
  exact frozen_of_row w g j _ _ h1
theorem Cells.lt (h : Cells w g n e f) : g < w.heap.size := by
  obtain ⟨cs, h1, _⟩ := h.row
  exact (Array.getElem?_eq_some_iff.1 h1).1
theorem Cells.set (h : Cells w g n e f) (k : Nat) (v : Value) : Cells (w.setCell ⟨g, k, none⟩ v) g n e (fun j => if j = k then v else f j) := by
  obtain ⟨cs, h1, h2, h3⟩ := h.row
  refine ⟨cs.setIfInBounds k v, heap_setCell_same w g k _ _ _ h1, by simpa using h2, fun j hj => ?_⟩
  have := h3 j hj
  by_cases hk : j = k
  · subst hk; simp [show j < cs.size by omega]
  · rw [if_neg hk, Array.getElem?_setIfInBounds_ne (by omega)]; exact this
theorem Cells.eq {f' : Nat → Value} (h : Cells w g n e f) (hf : ∀ j, j < n → f j = f' j) : Cells w g n e f' := by
  obtain ⟨cs, h1, h2, h3⟩ := h.row
  exact ⟨cs, h1, h2, fun j hj => by rw [h3 j hj, hf j hj]⟩
theorem Cells.later {B : Nat} (h : Cells w g n e f) (b : Below B w w') (hg : g < B) : Cells w' g n e f := by
  obtain ⟨cs, h1, h2, h3⟩ := h.row
  exact ⟨cs, by rw [b.block g hg]; exact h1, h2, h3⟩
end
end Go.Proofs.YtpffhckimilppaaDoor
