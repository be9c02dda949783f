/-
  Rows of whole numbers in memory: what a slice that came in reads as, and rows that a call owns.
-/
import Derived.Test.YtkemjofjmpjiiaaDoorOnes
import Derived.Deep.QuietTactic
import Derived.BigQuiet
import Derived.BigRegion
import Derived.Deep.RegionWith
import Derived.Deep.RegionHeld
import Derived.Laws.AppendOwnNone
import Derived.Laws.OwnMore
import Derived.Shelf.Abstract
namespace Go.Proofs.YtkemjofjmpjiiaaDoor
open Go.RowKit

theorem add0 (g j : Nat) : (⟨g, 0, none⟩ : Addr).add j = ⟨g, j, none⟩ := by
  unfold Addr.add
  split
  · rename_i h; subst h; rfl
  · simp
theorem addAt (b off j : Nat) : (⟨b, off, none⟩ : Addr).add j = ⟨b, off + j, none⟩ := by
  unfold Addr.add
  split
  · rename_i h; subst h; rfl
  · rfl
theorem drewN_heap (w : World) (n : Nat) : (w.drewN n).heap = w.heap := by
  induction n with
  | zero => rfl
  | succ n ih => exact ih
theorem below_drewN {B : Nat} {a w : World} (h : Below B a w) (n : Nat) : Below B a (w.drewN n) := ⟨h.os, h.tape, h.output, by rw [drewN_heap]; exact h.size, fun k hk => by rw [drewN_heap]; exact h.block k hk⟩
/-- What a slice of numbers reads as. -/
def IntsAt (w : World) (a : Option Addr) (zs : List Int) : Prop := ∀ k, k < zs.length → ∃ b off, a = some ⟨b, off, none⟩ ∧ w.cell? ⟨b, off + k, none⟩ = some (.int .i64 zs[k]!)
theorem IntsAt.later {w w' : World} {a : Option Addr} {zs : List Int} (h : IntsAt w a zs) (f : Below w.heap.size w w') : IntsAt w' a zs := fun k hk => by
  obtain ⟨b, off, e, h1⟩ := h k hk
  exact ⟨b, off, e, (f.cell (p := ⟨b, _, none⟩) (block_lt_of_cell h1)).trans h1⟩
theorem IntsAt.drewN {w : World} {a : Option Addr} {zs : List Int} (h : IntsAt w a zs) (q : Nat) : IntsAt (w.drewN q) a zs := h.later (below_drewN (Below.refl _ _) q)
theorem IntsAt.drew {w : World} {a : Option Addr} {zs : List Int} (h : IntsAt w a zs) : IntsAt w.drew a zs := h.later (Below.refl _ _).drew
theorem IntsAt.alloc {w : World} {a : Option Addr} {zs : List Int} (h : IntsAt w a zs) (o : Obj) : IntsAt (w.alloc o) a zs := h.later ((Below.refl _ _).alloc (Nat.le_refl _) o)
theorem intsAt_nil (w : World) (a : Option Addr) : IntsAt w a [] := fun k hk => by simp at hk
def intsV (xs : List Int) : List Value := xs.map (Value.int .i64 ·)
theorem intsV_len (xs : List Int) : (intsV xs).length = xs.length := by simp [intsV]
theorem intsV_app (xs ys : List Int) : intsV (xs ++ ys) = intsV xs ++ intsV ys := by simp [intsV]
theorem intsV_get (xs : List Int) (k : Nat) (h : k < xs.length) : (intsV xs)[k]? = some (.int .i64 xs[k]!) := by
  simp [intsV, h]
theorem intsV_set (xs : List Int) (k : Nat) (x : Int) : intsV (xs.set k x) = (intsV xs).set k (.int .i64 x) := by simp [intsV, List.map_set]
theorem intsV_one (xs : List Int) : ∀ u ∈ intsV xs, u.oneCell' = true := by
  intro u hu
  obtain ⟨x, _, rfl⟩ := List.mem_map.1 hu
  rfl
/-- A row of whole numbers that lies at base or above. -/
def IRow (w : World) (base : Nat) (v : Value) (xs : List Int) : Prop := w.ownsRow base 3 1 v xs.length (intsV xs)
theorem info3 : (Tryd.prog.info? 3).map (fun i => (i.zero, i.size, i.bytes)) = some (some (.int .i64 0), 1, 8) := by kernel_rfl
section
variable {w w' : World} {base g cap m : Nat} {v : Value} {xs : List Int}
theorem own_of_block {base e size m : Nat} {v : Value} {xs : List Value} (h : w.ownsRow base e size v m xs) (hb : ∀ g, v.ownBlock = some g → w'.heap[g]? = w.heap[g]?) : w'.ownsRow base e size v m xs := by
  obtain ⟨h1, h2⟩ := h
  refine ⟨h1, ?_⟩
  rcases h2 with h2 | ⟨g, cap, cur, rfl, a, b, r⟩
  · exact .inl h2
  · exact .inr ⟨g, cap, cur, rfl, a, (hb g rfl).trans b, r⟩
theorem IRow.shape (h : IRow w base v xs) : ∃ a c, v = .slice a xs.length c := by
  rcases h.2 with ⟨e, e2⟩ | ⟨g, cap, cur, e, _⟩
  · exact ⟨none, 0, by rw [e, e2]⟩
  · exact ⟨_, cap, e⟩
theorem IRow.cell (h : IRow w base (.slice (some ⟨g, 0, none⟩) m cap) xs) (k : Nat) (hk : k < xs.length) : w.cell? ⟨g, k, none⟩ = some (.int .i64 xs[k]!) := by
  have := World.ownsRow.cells (g := g) h rfl k _ (intsV_get xs k hk)
  rw [add0] at this
  exact this
theorem IRow.frozen (h : IRow w base (.slice (some ⟨g, 0, none⟩) m cap) xs) (k : Nat) : w.frozen? ⟨g, k, none⟩ = false := by
  rcases h.2 with ⟨h2, _⟩ | ⟨g2, cap2, cur, e, _, hb, _⟩
  · cases h2
  · cases e; exact frozen_of_row w g k _ _ hb
theorem IRow.set (h : IRow w base (.slice (some ⟨g, 0, none⟩) m cap) xs) (k : Nat) (x : Int) : IRow (w.setCell ⟨g, k, none⟩ (.int .i64 x)) base (.slice (some ⟨g, 0, none⟩) m cap) (xs.set k x) := by
  obtain ⟨h1, h2⟩ := h
  unfold IRow
  rw [List.length_set, intsV_set]
  refine ⟨by simpa using h1, ?_⟩
  rcases h2 with ⟨h2, _⟩ | ⟨g2, cap2, cur, e, a, hb, r1, r2, r3, r4⟩
  · cases h2
  · cases e
    refine .inr ⟨g, cap, cur.setIfInBounds k (.int .i64 x), rfl, a, heap_setCell_same w g k _ _ _ hb, r1, r2, by simpa using r3, ?_⟩
    rw [← r4, Array.toList_setIfInBounds, List.take_set]
theorem IRow.later {B : Nat} (h : IRow w base v xs) (hB : w.heap.size ≤ B) (f : Below B w w') : IRow w' base v xs := own_of_block h (fun k hk => f.block k (Nat.lt_of_lt_of_le (h.lt k hk).2 hB))
theorem IRow.drewN (h : IRow w base v xs) (q : Nat) : IRow (w.drewN q) base v xs := h.later (Nat.le_refl _) (below_drewN (Below.refl _ _) q)
theorem IRow.alloc (h : IRow w base v xs) (o : Obj) : IRow (w.alloc o) base v xs := World.ownsRow.alloc h o
theorem IRow.mono {base' : Nat} (h : IRow w base v xs) (hb : base' ≤ base) : IRow w base' v xs := by
  obtain ⟨h1, h2⟩ := h
  refine ⟨h1, ?_⟩
  rcases h2 with h2 | ⟨g, cap, cur, e, a, r⟩
  · exact .inl h2
  · exact .inr ⟨g, cap, cur, e, Nat.le_trans hb a, r⟩
theorem irow_nil (w : World) (base : Nat) : IRow w base (.slice none 0 0) [] := World.ownsRow_nil _ _ _ _
theorem IRow.ints {va : Option Addr} {vm vc : Nat} (h : IRow w base (.slice va vm vc) xs) : IntsAt w va xs := fun k hk => by
  rcases h.2 with ⟨_, e2⟩ | ⟨g, cap, cur, e, _⟩
  · omega
  · cases e
    exact ⟨g, 0, rfl, by rw [Nat.zero_add]; exact h.cell k hk⟩
end
/-- A slice of n zeros, just made. -/
theorem made_ints (n : Nat) (hn : n ≤ 1000) (w : World) : (Instr.makeSlice 22 (.int .i64 n) (.int .i64 n)).run Tryd.prog w = .ok (.slice (some ⟨w.heap.size, 0, none⟩) n n) (w.alloc (.cells (Array.replicate n (.int .i64 0)) 3)) := by
  obtain ⟨i0, hi0, hz0, hz1, hz2⟩ := info_parts info3
  have := run_makeSlice (P := Tryd.prog) w 22 3 i0 _ Tryd.underlying22 hi0 hz0 .i64 .i64 n n (by omega) (by omega) (by rw [hz1]; omega) (by rw [hz2]; omega) (by omega)
  rw [hz1] at this
  simp only [Int.toNat_natCast, Nat.mul_one] at this
  have e : madeCells (Value.int .i64 0).cells n = Array.replicate n (Value.int .i64 0) := by
    apply Array.ext
    · simp [madeCells]
    · intro i h1 h2
      simp [madeCells, Value.cells, Nat.mod_one]
  rw [e] at this
  exact this
theorem irow_made (w : World) {base n : Nat} (hb : base ≤ w.heap.size) (hn : n ≤ 1000) : IRow (w.alloc (.cells (Array.replicate n (.int .i64 0)) 3)) base (.slice (some ⟨w.heap.size, 0, none⟩) n n) (List.replicate n 0) := by
  have e : intsV (List.replicate n 0) = List.replicate n (.int .i64 0) := by simp [intsV]
  refine ⟨by rw [intsV_len]; omega, .inr ⟨w.heap.size, n, (Array.replicate n (.int .i64 0)), by simp, hb, heap_alloc_new _ _, by simp, by unfold maxLen; omega, by simp, by rw [e]; simp⟩⟩
/-- An append of numbers onto the empty slice, just made: a copy. -/
theorem app_ints {w w0 : World} {ops : Array Oper} {rest : List Oper} {o : Oper} {a : Act} {Q : Exit → Act → World → Prop} (s x : Operand)
    (hgd : o.guard = none) (ho : o.op = .call { callee := .builtin .append, args := #[s, x], argTypes := #[22, 22] }) {n : Nat} {ad : Option Addr} {c : Nat} {zs : List Int}
    (hs : a.eval s = .slice (some ⟨w.heap.size, 0, none⟩) 0 0) (hx : a.eval x = .slice ad n c) (hn : zs.length = n) (hr : IntsAt w ad zs) (hc : ad = none → c = 0) (hbytes : n * 8 ≤ 140737488351232) (hb : Below w0.heap.size w0 w)
    (h : ∀ a' c' w', IRow w' w.heap.size (.slice a' n c') zs → Below w.heap.size w w' → Below w0.heap.size w0 w' → wpList Tryd.prog ops Q rest (a.put o.dst (.slice a' n c')) w') : wpList Tryd.prog ops Q (o :: rest) a (w.alloc (.cells #[] 3)) := by
  obtain ⟨i0, hi0, hy0, hy1, hy2⟩ := info_parts info3
  have hown : (w.alloc (.cells #[] 3)).ownsRow w.heap.size 3 1 (.slice (some ⟨w.heap.size, 0, none⟩) 0 0) 0 [] := World.ownsRow_made w #[] 0 (Nat.le_refl _) (by decide) rfl
  have fA : Below w.heap.size w (w.alloc (.cells #[] 3)) := (Below.refl _ _).alloc (Nat.le_refl _) _
  cases ad with
  | none =>
    have hz0 : zs = [] := by
      rcases zs with _ | ⟨z, r⟩
      · rfl
      · obtain ⟨_, _, e, _⟩ := hr 0 (by simp); cases e
    subst hz0
    simp only [List.length_nil] at hn
    subst hn
    rw [hc rfl] at hx
    refine wpList_append_own_none hgd s x 22 ho w.heap.size 3 i0 1 Tryd.underlying22 hi0 _ 0 [] hs hown hx ?_
    exact h _ _ _ hown fA (hb.trans (fA.mono hb.size))
  | some y =>
    refine wpList_append_own _ hgd s x 22 ho w.heap.size 3 i0 (.int .i64 0) 1 8 Tryd.underlying22 hi0 hy0 hy1 hy2 rfl (by decide) _ 0 [] hs hown y n c (intsV zs) hx (by rw [intsV_len]; omega) ?_ (intsV_one _) (by unfold maxLen; omega) (by omega) (by simp) ?_
    · intro j u hu
      have hj : j < zs.length := by
        rcases Nat.lt_or_ge j zs.length with h | h
        · exact h
        · rw [List.getElem?_eq_none (by rw [intsV_len]; omega)] at hu; cases hu
      rw [intsV_get zs j hj] at hu
      cases hu
      obtain ⟨b, off, e, h1⟩ := (hr.later fA) j hj
      cases e
      rw [addAt]
      exact h1
    · intro v' w' h1 h2 _
      rw [Nat.zero_add, List.nil_append, ← hn] at h1
      have hr' : IRow w' w.heap.size v' zs := h1
      have hbb : Below w.heap.size w w' := fA.grown h2 fA.size fun k hk => (hown.lt k hk).1
      obtain ⟨a', c', rfl⟩ := hr'.shape
      rw [hn] at hr' ⊢
      exact h a' c' w' hr' hbb (hb.trans (hbb.mono hb.size))
end Go.Proofs.YtkemjofjmpjiiaaDoor
