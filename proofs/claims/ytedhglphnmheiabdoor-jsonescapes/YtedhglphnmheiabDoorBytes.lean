/-
  Rows of bytes: of the call's own, parsed; of others', read.
-/
import Derived.Test.YtedhglphnmheiabDoorValues
namespace Go.Proofs.YtedhglphnmheiabDoor
open Go.RowKit

/-- A row of bytes of the call's own that is not nil, parsed. -/
theorem parse_own2 (l : List UInt8) {w : World} {base n : Nat} {v : Value} (ho : w.ownsRow base 5 1 v n (Lib.byteCells l)) (hl : v ≠ .slice none 0 0) (ht : Lib.Utf8Tabs 0 1 w) (hw : 2 ≤ w.heap.size) : Calls Tryd.prog 11 #[v] w (DoneR w (parseM l)) := by
  have hn : n = l.length := by have := ho.1; rw [Lib.byteCells_length] at this; omega
  subst hn
  rcases ho.2 with ⟨h1, _⟩ | ⟨g, cap, cur, rfl, _, hg, hc1, hc2, _⟩
  · exact absurd h1 hl
  · unfold maxLen at hc2
    refine parse_json (B := l) (tb := g) (toff := 0) ?_ (lt_of_block hg) hc1 (by omega) ht hw
    intro j hj
    have hadd : (⟨g, 0, none⟩ : Addr).add j = ⟨g, 0 + j, none⟩ := by unfold Addr.add; split <;> simp_all
    have := ho.cells (g := g) rfl j (.int .u8 (byteAt l j)) (by simp [Lib.byteCells, byteAt, List.getD_eq_getElem?_getD, List.getElem?_eq_getElem hj])
    rwa [hadd] at this
theorem byteCells_at {l : List UInt8} {j : Nat} {u : Value} (h : (Lib.byteCells l)[j]? = some u) : j < l.length ∧ u = .int .u8 (byteAt l j) := by
  have hj : j < l.length := by have := (List.getElem?_eq_some_iff.1 h).1; rwa [Lib.byteCells_length] at this
  refine ⟨hj, ?_⟩
  simp [Lib.byteCells, List.getElem?_eq_getElem hj] at h
  rw [← h]; simp [byteAt, List.getD_eq_getElem?_getD, List.getElem?_eq_getElem hj]
theorem byteCells_one (l : List UInt8) : ∀ u ∈ Lib.byteCells l, u.oneCell' = true := by
  intro u hu
  simp only [Lib.byteCells, List.mem_map] at hu
  obtain ⟨c, _, rfl⟩ := hu
  rfl
/-- A slice of bytes that came in. -/
def BytesAt (w : World) (y : Addr) (B : List UInt8) : Prop := ∀ j, j < B.length → w.cell? (y.add j) = some (.int .u8 (byteAt B j))
theorem BytesAt.later {w w' : World} {y : Addr} {B : List UInt8} (h : BytesAt w y B) (hb : Below w.heap.size w w') : BytesAt w' y B := fun j hj => (hb.cell (block_lt_of_cell (h j hj))).trans (h j hj)
theorem BytesAt.head {w : World} {y : Addr} {B : List UInt8} (h : BytesAt w y B) (hl : 0 < B.length) : w.cell? y = some (.int .u8 (byteAt B 0)) := by
  have := h 0 hl
  rwa [show y.add 0 = y by unfold Addr.add; split <;> simp_all] at this
theorem BytesAt.news {w : World} {y : Addr} {B : List UInt8} (h : BytesAt w y B) : ∀ j u, (Lib.byteCells B)[j]? = some u → w.cell? (y.add j) = some u := by
  intro j u hj
  obtain ⟨h1, rfl⟩ := byteCells_at hj
  exact h j h1
theorem BytesAt.take {w : World} {y : Addr} {B : List UInt8} (h : BytesAt w y B) (n : Nat) : BytesAt w y (B.take n) := by
  intro j hj
  rw [List.length_take] at hj
  rw [h j (by omega)]
  simp only [byteAt, List.getD_eq_getElem?_getD]
  rw [List.getElem?_take_of_lt (by omega)]

theorem after_app {w w1 w2 : World} {fz : Nat × Nat} (hb : Below w.heap.size w w1) (hg : (w1.alloc (.cells #[] 5 fz)).grownBy w2 (Value.slice (some ⟨w1.heap.size, 0, none⟩) 0 0).ownBlock) : Below w.heap.size w w2 := by
  refine (hb.alloc hb.size _).grown hg (by have := hb.size; simp; omega) (fun k hk => ?_)
  have hs := hb.size
  simp only [Value.ownBlock, Option.some.injEq] at hk
  omega
end Go.Proofs.YtedhglphnmheiabDoor
