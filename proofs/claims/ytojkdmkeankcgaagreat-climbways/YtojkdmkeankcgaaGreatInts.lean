/-
  Rows of whole numbers in memory, and matrices.
-/
import Derived.Test.YtojkdmkeankcgaaGreatOwn
namespace Go.Proofs.YtojkdmkeankcgaaGreat
open Go.RowKit Go.Sort

def intsV (xs : List Int) : List Value := xs.map (Value.int .i64 ·)
theorem intsV_len (xs : List Int) : (intsV xs).length = xs.length := by simp [intsV]
theorem intsV_app (xs ys : List Int) : intsV (xs ++ ys) = intsV xs ++ intsV ys := by simp [intsV]
theorem intsV_get (xs : List Int) (k : Nat) (h : k < xs.length) : (intsV xs)[k]? = some (.int .i64 xs[k]!) := by
  simp [intsV, h]
theorem intsV_set (xs : List Int) (k : Nat) (x : Int) : intsV (xs.set k x) = (intsV xs).set k (.int .i64 x) := by simp [intsV, List.map_set]
theorem intsV_one (xs : List Int) : ∀ u ∈ intsV xs, u.oneCell' = true := by
  intro u hu
  obtain ⟨x, _, rfl⟩ := List.mem_map.1 hu
  rfl
/-- A row of whole numbers that lies at base or above. -/
def IRow (w : World) (base : Nat) (v : Value) (xs : List Int) : Prop := w.ownsRow base 3 1 v xs.length (intsV xs)
theorem info3 : (Tryz.prog.info? 3).map (fun i => (i.zero, i.size, i.bytes)) = some (some (.int .i64 0), 1, 8) := by kernel_rfl
section
variable {w w' : World} {base g cap m : Nat} {v : Value} {xs : List Int}
theorem IRow.shape (h : IRow w base v xs) : ∃ a c, v = .slice a xs.length c := by
  rcases h.2 with ⟨e, e2⟩ | ⟨g, cap, cur, e, _⟩
  · exact ⟨none, 0, by rw [e, e2]⟩
  · exact ⟨_, cap, e⟩
theorem IRow.form (h : IRow w base v xs) (hn : 0 < xs.length) : ∃ g cap, v = .slice (some ⟨g, 0, none⟩) xs.length cap ∧ base ≤ g ∧ g < w.heap.size ∧ xs.length ≤ cap ∧ cap ≤ 9223372036854775807 := by
  rcases h.2 with ⟨_, h0⟩ | ⟨g, cap, cur, hv, hb, hg, h1, h2, _⟩
  · omega
  · exact ⟨g, cap, hv, hb, (h.lt g (by rw [hv]; rfl)).2, h1, by unfold maxLen at h2; omega⟩
theorem IRow.cell (h : IRow w base (.slice (some ⟨g, 0, none⟩) m cap) xs) (k : Nat) (hk : k < xs.length) : w.cell? ⟨g, k, none⟩ = some (.int .i64 xs[k]!) := by
  have := World.ownsRow.cells (g := g) h rfl k _ (intsV_get xs k hk)
  rw [add0] at this
  exact this
theorem IRow.frozen (h : IRow w base (.slice (some ⟨g, 0, none⟩) m cap) xs) (k : Nat) : w.frozen? ⟨g, k, none⟩ = false := by
  rcases h.2 with ⟨h2, _⟩ | ⟨g2, cap2, cur, e, _, hb, _⟩
  · cases h2
  · cases e; exact frozen_of_row w g k _ _ hb
theorem IRow.set (h : IRow w base (.slice (some ⟨g, 0, none⟩) m cap) xs) (k : Nat) (x : Int) : IRow (w.setCell ⟨g, k, none⟩ (.int .i64 x)) base (.slice (some ⟨g, 0, none⟩) m cap) (xs.set k x) := by
  obtain ⟨h1, h2⟩ := h
  unfold IRow
  rw [List.length_set, intsV_set]
  refine ⟨by simpa using h1, ?_⟩
  rcases h2 with ⟨h2, _⟩ | ⟨g2, cap2, cur, e, a, hb, r1, r2, r3, r4⟩
  · cases h2
  · cases e
    refine .inr ⟨g, cap, cur.setIfInBounds k (.int .i64 x), rfl, a, heap_setCell_same w g k _ _ _ hb, r1, r2, by simpa using r3, ?_⟩
    rw [← r4, Array.toList_setIfInBounds, List.take_set]
theorem IRow.later {B : Nat} (h : IRow w base v xs) (hB : w.heap.size ≤ B) (f : Below B w w') : IRow w' base v xs := own_of_block h (fun k hk => f.block k (Nat.lt_of_lt_of_le (h.lt k hk).2 hB))
theorem IRow.alloc (h : IRow w base v xs) (o : Obj) : IRow (w.alloc o) base v xs := World.ownsRow.alloc h o
theorem IRow.setOther (h : IRow w base v xs) {b j : Nat} (hb : b < base) (u : Value) : IRow (w.setCell ⟨b, j, none⟩ u) base v xs := ownsRow_setCell_below h (a := ⟨b, j, none⟩) hb u
theorem IRow.mono {base' : Nat} (h : IRow w base v xs) (hb : base' ≤ base) : IRow w base' v xs := by
  obtain ⟨h1, h2⟩ := h
  refine ⟨h1, ?_⟩
  rcases h2 with h2 | ⟨g, cap, cur, e, a, r⟩
  · exact .inl h2
  · exact .inr ⟨g, cap, cur, e, Nat.le_trans hb a, r⟩
theorem irow_nil (w : World) (base : Nat) : IRow w base (.slice none 0 0) [] := World.ownsRow_nil _ _ _ _
end
end Go.Proofs.YtojkdmkeankcgaaGreat
