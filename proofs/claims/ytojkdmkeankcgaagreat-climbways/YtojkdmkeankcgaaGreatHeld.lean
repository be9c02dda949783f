/-
  The legs' row in memory: what it holds, behind draws, new blocks, stores and the sort.
-/
import Derived.Test.YtojkdmkeankcgaaGreatPlain
import Derived.Shelf.SlSortCmp.QuietGrown
namespace Go.Proofs.YtojkdmkeankcgaaGreat
open Go.RowKit Go.Sort Go.Lib Go.Shelf

/-- From w to w' nothing that was there has turned but the block b. -/
structure Fr (b : Nat) (w w' : World) : Prop where
  os : w'.os = w.os
  tape : w'.tape = w.tape
  output : w'.output = w.output
  size : w.heap.size ≤ w'.heap.size
  block : ∀ k, k < w.heap.size → k ≠ b → w'.heap[k]? = w.heap[k]?
theorem Fr.refl (b : Nat) (w : World) : Fr b w w := ⟨rfl, rfl, rfl, Nat.le_refl _, fun _ _ _ => rfl⟩
theorem Fr.trans {b : Nat} {u v w : World} (h : Fr b u v) (k : Fr b v w) : Fr b u w :=
  ⟨k.os.trans h.os, k.tape.trans h.tape, k.output.trans h.output, Nat.le_trans h.size k.size, fun i hi hb => (k.block i (Nat.lt_of_lt_of_le hi h.size) hb).trans (h.block i hi hb)⟩
theorem Fr.below {b B : Nat} {u w : World} (h : Fr b u w) (hb : B ≤ b) (hB : B ≤ u.heap.size) : Below B u w := ⟨h.os, h.tape, h.output, h.size, fun k hk => h.block k (by omega) (by omega)⟩
theorem Fr.drew {b : Nat} {a w : World} (h : Fr b a w) : Fr b a w.drew := ⟨h.os, h.tape, h.output, h.size, h.block⟩
theorem Fr.drewN {b : Nat} {a w : World} (h : Fr b a w) (n : Nat) : Fr b a (w.drewN n) := by
  induction n with
  | zero => exact h
  | succ n ih => exact ih.drew
theorem Fr.grow {b : Nat} {a w : World} (h : Fr b a w) (os : Array Obj) : Fr b a (grow w os) :=
  ⟨h.os, h.tape, h.output, by rw [size_grow]; exact Nat.le_trans h.size (Nat.le_add_right _ _), fun k hk hb => by rw [heap_grow_old w os (Nat.lt_of_lt_of_le hk h.size)]; exact h.block k hk hb⟩
theorem Fr.map {b : Nat} {a w : World} (h : Fr b a w) (f : Array Value → Array Value) : Fr b a (mapBlock w b f) :=
  ⟨h.os, h.tape, h.output, by simpa [mapBlock] using h.size, fun k hk hb => by
    rw [← h.block k hk hb]
    simp only [mapBlock]
    rw [Array.getElem?_modify]
    rw [if_neg (fun e => hb e.symm)]⟩
theorem Fr.setCell {b : Nat} {a w : World} (h : Fr b a w) (o : Nat) (v : Value) : Fr b a (w.setCell ⟨b, o, none⟩ v) :=
  ⟨h.os, h.tape, h.output, by simpa [World.setCell] using h.size, fun k hk hb => by rw [heap_setCell_other w _ k v (fun e => hb e)]; exact h.block k hk hb⟩
theorem Fr.setCells {b : Nat} {a : World} : ∀ (vs : List Value) (o : Nat) {w : World}, Fr b a w → Fr b a (w.setCells b o vs)
  | [], _, _, h => h
  | v :: r, o, _, h => Fr.setCells r (o + 1) (h.setCell o v)
/-- The row at blk holds the legs of d. -/
structure Rw (blk : Nat) (w0 w : World) (d : Array Leg) : Prop where
  has : HoldsK encL 3 w blk 0 d
  lt : blk < w.heap.size
  fr : Fr blk w0 w
section
variable {blk : Nat} {w0 w : World} {d : Array Leg}
theorem Rw.grown (h : Rw blk w0 w d) (n : Nat) (os : Array Obj) : Rw blk w0 (grow (w.drewN n) os) d :=
  ⟨holdsK_grow encL 3 _ os blk 0 d h.lt h.has, by rw [size_grow]; exact Nat.lt_of_lt_of_le h.lt (Nat.le_add_right _ _), (h.fr.drewN n).grow os⟩
theorem Rw.drewN (h : Rw blk w0 w d) (n : Nat) : Rw blk w0 (w.drewN n) d := by have := h.grown n #[]; rwa [grow_empty] at this
theorem Rw.alloc (h : Rw blk w0 w d) (o : Obj) : Rw blk w0 (w.alloc o) d := by have := h.grown 0 #[o]; rwa [← alloc_eq_grow] at this
theorem Rw.cell (h : Rw blk w0 w d) {i c : Nat} (hi : i < d.size) (hc : c < 3) : w.cell? ⟨blk, i * 3 + c, none⟩ = some ((encL d[i]!)[c]!) ∧ w.frozen? ⟨blk, i * 3 + c, none⟩ = false := by
  have hlt : i * 3 + c < (flatK encL 3 d).size := by rw [size_flatK]; omega
  have := h.has (i * 3 + c) hlt
  rw [get_flatK encL 3 d _ (by rw [size_flatK] at hlt; exact hlt), show (i * 3 + c) / 3 = i by omega, show (i * 3 + c) % 3 = c by omega, Nat.zero_add] at this
  exact this
theorem Rw.c0 (h : Rw blk w0 w d) {i : Nat} (hi : i < d.size) : w.cell? ⟨blk, i * 3, none⟩ = some (.int .i64 (d[i]!).1) := (h.cell hi (c := 0) (by omega)).1
theorem Rw.c1 (h : Rw blk w0 w d) {i : Nat} (hi : i < d.size) : w.cell? ⟨blk, i * 3 + 1, none⟩ = some (.int .i64 (d[i]!).2.1) := (h.cell hi (c := 1) (by omega)).1
theorem Rw.c2 (h : Rw blk w0 w d) {i : Nat} (hi : i < d.size) : w.cell? ⟨blk, i * 3 + 2, none⟩ = some (.int .i64 (d[i]!).2.2) := (h.cell hi (c := 2) (by omega)).1
theorem Rw.fz (h : Rw blk w0 w d) {i c : Nat} (hi : i < d.size) (hc : c < 3) : w.frozen? ⟨blk, i * 3 + c, none⟩ = false := (h.cell hi hc).2
/-- A leg is laid in at i. -/
theorem Rw.put (h : Rw blk w0 w d) {i : Nat} (hi : i < d.size) (x : Leg) : Rw blk w0 (((w.setCell ⟨blk, i * 3, none⟩ (.int .i64 x.1)).setCell ⟨blk, i * 3 + 1, none⟩ (.int .i64 x.2.1)).setCell ⟨blk, i * 3 + 2, none⟩ (.int .i64 x.2.2)) (d.setIfInBounds i x) := by
  refine ⟨fun j hj => ?_, by simpa [World.setCell] using h.lt, ?_⟩
  · have hj2 : j < d.size * 3 := by rw [size_flatK] at hj; simpa using hj
    have hi2 : j / 3 < d.size := by omega
    have hc2 : j % 3 < 3 := by omega
    have hb := h.cell hi2 hc2
    rw [show j / 3 * 3 + j % 3 = j by omega] at hb
    rw [get_flatK encL 3 _ j (by simpa using hj2), Nat.zero_add]
    refine ⟨?_, by rw [World.frozen?_setCell, World.frozen?_setCell, World.frozen?_setCell]; exact hb.2⟩
    have hs : ∀ c, c < 3 → (w.cell? ⟨blk, i * 3 + c, none⟩).isSome = true := fun c hc => by rw [(h.cell hi hc).1]; rfl
    have hs0 := hs 0 (by omega); have hs1 := hs 1 (by omega); have hs2 := hs 2 (by omega)
    by_cases hji : j / 3 = i
    · have e : (d.setIfInBounds i x)[j / 3]! = x := by rw [hji, getElem!_set_same d i x hi]
      rw [e]
      have h3 : j = i * 3 ∨ j = i * 3 + 1 ∨ j = i * 3 + 2 := by omega
      rcases h3 with rfl | rfl | rfl
      · rw [show i * 3 % 3 = 0 by omega, World.cell?_setCell_other _ _ _ _ (by simp), World.cell?_setCell_other _ _ _ _ (by simp)]
        exact World.cell?_setCell_same' _ _ _ hs0
      · rw [show (i * 3 + 1) % 3 = 1 by omega, World.cell?_setCell_other _ _ _ _ (by simp)]
        exact World.cell?_setCell_same' _ _ _ (by rw [World.cell?_setCell_other _ _ _ _ (by simp)]; exact hs1)
      · rw [show (i * 3 + 2) % 3 = 2 by omega]
        exact World.cell?_setCell_same' _ _ _ (by rw [World.cell?_setCell_other _ _ _ _ (by simp), World.cell?_setCell_other _ _ _ _ (by simp)]; exact hs2)
    · have e : (d.setIfInBounds i x)[j / 3]! = d[j / 3]! := by
        rw [getElem!_pos (d.setIfInBounds i x) (j / 3) (by simpa using hi2), getElem!_pos d (j / 3) hi2, Array.getElem_setIfInBounds, if_neg (fun e => hji e.symm)]
      rw [e, World.cell?_setCell_other _ _ _ _ (fun e => by cases e; omega), World.cell?_setCell_other _ _ _ _ (fun e => by cases e; omega), World.cell?_setCell_other _ _ _ _ (fun e => by cases e; omega)]
      exact hb.1
  · exact ((h.fr.setCell _ _).setCell _ _).setCell _ _
end
theorem rw_sorted {blk : Nat} {w0 w : World} {d : Array Leg} (h : Rw blk w0 w d) (n : Nat) (d' : Array Leg) (hs : d'.size = d.size) (os : Array Obj) : Rw blk w0 (sortWorldK encL 3 w blk 0 n d' os) d' := by
  have hsz : (putRowK encL 3 (Sort.ahead w n) blk 0 d').heap.size = w.heap.size := by simp [putRowK, putRow, mapBlock, Sort.ahead]
  refine ⟨holdsK_sortWorldK_c encL 3 w blk 0 d d' n os h.has h.lt hs, ?_, ?_⟩
  · unfold sortWorldK
    rw [size_grow, hsz]
    exact Nat.lt_of_lt_of_le h.lt (Nat.le_add_right _ _)
  · unfold sortWorldK
    refine Fr.grow ?_ os
    exact Fr.map (w := Sort.ahead w n) (h.fr.drewN n) _
end Go.Proofs.YtojkdmkeankcgaaGreat
