/-
  Several texts in one.
-/
import Derived.Test.YtojkdmkeankcgaaGreatZLk
import Derived.Test.YtojkdmkeankcgaaGreatZLeastQ
/-  A matrix in the making, and the least weights of links by their ends. -/
namespace Go.Proofs.YtojkdmkeankcgaaGreat
open Go.RowKit Go.Sort

/-- A matrix's box, and its cells, made since w1. -/
structure Mk7 (w1 : World) (bx n : Nat) (v : Value) (xs : List Int) (wr : World) : Prop where
  wb : w1.heap.size = bx
  below : Below bx w1 wr
  box : wr.heap[bx]? = some (.cells #[.int .i64 n, v] 29 (0, 0))
  own : IRow wr (bx + 1) v xs
section
variable {w1 wr w' : World} {bx n : Nat} {v : Value} {xs : List Int}
theorem Mk7.lt (h : Mk7 w1 bx n v xs wr) : bx < wr.heap.size := (Array.getElem?_eq_some_iff.1 h.box).1
theorem Mk7.f (h : Mk7 w1 bx n v xs wr) : Below w1.heap.size w1 wr := by rw [h.wb]; exact h.below
theorem Mk7.more (h : Mk7 w1 bx n v xs wr) {w2 w3 : World} {g cap : Nat} (o : Obj) (hw2 : w2 = wr.alloc o) (x : Int)
    (hown : w3.ownsRow (bx + 1) 3 1 (.slice (some ⟨g, 0, none⟩) (xs.length + 1) cap) (xs.length + 1) (intsV xs ++ [.int .i64 x])) (hg : w2.grownBy w3 v.ownBlock) :
    Mk7 w1 bx n (.slice (some ⟨g, 0, none⟩) (xs.length + 1) cap) (xs ++ [x]) (w3.setCell ⟨bx, 1, none⟩ (.slice (some ⟨g, 0, none⟩) (xs.length + 1) cap)) := by
  subst hw2
  have hlt := h.lt
  have hne : v.ownBlock ≠ some bx := fun e => by have := (h.own.lt bx e).1; omega
  have keep : w3.heap[bx]? = wr.heap[bx]? := by
    rw [hg.block bx (by simp; omega) (fun e => hne e.symm), Below.heap_alloc _ _ _ (by omega)]
  have hb3 : Below bx w1 w3 := (h.below.alloc (by omega) o).grown hg (by simp; omega) fun k hk => by have := (h.own.lt k hk).1; omega
  refine ⟨h.wb, hb3.setCell (Nat.le_refl _) _, ?_, ?_⟩
  · rw [heap_setCell_same w3 bx 1 _ _ _ (keep.trans h.box)]; rfl
  · have : IRow w3 (bx + 1) (.slice (some ⟨g, 0, none⟩) (xs.length + 1) cap) (xs ++ [x]) := by
      unfold IRow
      rw [List.length_append, intsV_app]
      exact hown
    exact this.setOther (by omega) _
theorem Mk7.later (h : Mk7 w1 bx n v xs wr) (f : Below wr.heap.size wr w') : Mk7 w1 bx n v xs w' :=
  ⟨h.wb, h.below.trans (f.mono (Nat.le_of_lt h.lt)), (f.block _ h.lt).trans h.box, h.own.later (Nat.le_refl _) f⟩
theorem Mk7.put {g m cap : Nat} (h : Mk7 w1 bx n (.slice (some ⟨g, 0, none⟩) m cap) xs wr) (k : Nat) (x : Int) : Mk7 w1 bx n (.slice (some ⟨g, 0, none⟩) m cap) (xs.set k x) (wr.setCell ⟨g, k, none⟩ (.int .i64 x)) := by
  have hg := (h.own.lt g rfl).1
  exact ⟨h.wb, h.below.setCell (show bx ≤ g by omega) _, by rw [heap_setCell_other _ _ _ _ (show bx ≠ g by omega)]; exact h.box, h.own.set k x⟩
end
theorem mk7_start (w1 : World) (n : Nat) : Mk7 w1 w1.heap.size n (.slice none 0 0) [] (w1.alloc (.cells #[.int .i64 n, .slice none 0 0] 29)) :=
  ⟨rfl, (Below.refl _ _).alloc (Nat.le_refl _) _, heap_alloc_new _ _, irow_nil _ _⟩
/-! ### links as legs -/
def lgs (L : List Lnk) : List Leg := L.map fun k => ((k.1 : Int), (k.2.1 : Int), k.2.2.1)
theorem tab_end (L : List Leg) (l : Leg) (p q : Nat) : tab (L ++ [l]) p q = if l.1 = p ∧ l.2.1 = q then some (match tab L p q with | none => l.2.2 | some v => min v l.2.2) else tab L p q := by
  rw [tab_snoc]
  split
  · cases tab L p q <;> rfl
  · rfl
/-- One link more: its cell gets its weight, if that is less. -/
theorem lgs_cells {n : Nat} {P : List Lnk} {a c : Nat} {x y : Int} (hc : c < n) :
    ((cv (tab (lgs P) a c) < 0 ∨ x < cv (tab (lgs P) a c)) → (∀ v, tab (lgs P) a c = some v → 0 ≤ v) → cellsM n (tab (lgs (P ++ [(a, c, (x, y))]))) = (cellsM n (tab (lgs P))).set (a * n + c) x) ∧
    (¬ (cv (tab (lgs P) a c) < 0 ∨ x < cv (tab (lgs P) a c)) → cellsM n (tab (lgs (P ++ [(a, c, (x, y))]))) = cellsM n (tab (lgs P))) := by
  have e : lgs (P ++ [(a, c, (x, y))]) = lgs P ++ [((a : Int), (c : Int), x)] := by simp [lgs]
  have key : ∀ p q, tab (lgs (P ++ [(a, c, (x, y))])) p q = if a = p ∧ c = q then some (match tab (lgs P) p q with | none => x | some v => min v x) else tab (lgs P) p q := fun p q => by
    rw [e, tab_end]
    by_cases h : a = p ∧ c = q
    · rw [if_pos (by simp only; omega), if_pos h]
    · rw [if_neg (by simp only; omega), if_neg h]
  refine ⟨fun h hp => ?_, fun h => ?_⟩
  · refine cellsM_set _ _ hc _ ?_ (fun p q _ _ hne => by rw [key, if_neg (fun e => hne ⟨e.1.symm, e.2.symm⟩)])
    rw [key, if_pos ⟨rfl, rfl⟩]
    cases eT : tab (lgs P) a c with
    | none => rfl
    | some v =>
      rw [eT] at h
      have := hp v eT
      simp only [cv, Option.getD_some] at h
      simp only
      congr 1
      omega
  · refine cellsM_same _ _ fun p q _ _ => ?_
    rw [key]
    by_cases hpq : a = p ∧ c = q
    · obtain ⟨rfl, rfl⟩ := hpq
      rw [if_pos ⟨rfl, rfl⟩]
      cases eT : tab (lgs P) a c with
      | none => rw [eT] at h; simp [cv] at h
      | some v =>
        rw [eT] at h
        simp only [cv, Option.getD_some] at h
        simp only
        congr 1
        omega
    · rw [if_neg hpq]
/-- All links with ends a, c weigh the same: so it is that. -/
theorem lgs_all {L : List Lnk} {K : Mx} (h : ∀ k, k ∈ L ↔ K k.1 k.2.1 = some k.2.2) (a c : Nat) : tab (lgs L) a c = wtM K a c := by
  cases e : wtM K a c with
  | none =>
    refine tab_none.2 fun l hl e2 => ?_
    unfold lgs at hl
    obtain ⟨k, hk, rfl⟩ := List.mem_map.1 hl
    simp only at e2
    have h1 := (h k).1 hk
    have e3 : k.1 = a ∧ k.2.1 = c := by omega
    rw [e3.1, e3.2] at h1
    unfold wtM at e
    rw [h1] at e
    cases e
  | some x =>
    obtain ⟨m, e2⟩ := wtM_some.1 e
    refine tab_some.2 ⟨⟨((a : Int), (c : Int), x), ?_, rfl, rfl, rfl⟩, fun l hl h1 h2 => ?_⟩
    · unfold lgs
      exact List.mem_map.2 ⟨(a, c, (x, m)), (h _).2 e2, rfl⟩
    · unfold lgs at hl
      obtain ⟨k, hk, rfl⟩ := List.mem_map.1 hl
      simp only at h1 h2
      have h3 := (h k).1 hk
      have e3 : k.1 = a ∧ k.2.1 = c := by omega
      rw [e3.1, e3.2, e2] at h3
      cases h3e : k.2.2 with
      | mk y1 y2 =>
        rw [h3e] at h3
        cases h3
        exact Int.le_refl _
theorem lgs_pos {P : List Lnk} (h : ∀ k ∈ P, 0 ≤ k.2.2.1) (a c : Nat) (v : Int) (e : tab (lgs P) a c = some v) : 0 ≤ v := by
  obtain ⟨⟨l, hl, _, _, h3⟩, _⟩ := tab_some.1 e
  unfold lgs at hl
  obtain ⟨k, hk, rfl⟩ := List.mem_map.1 hl
  rw [← h3]
  exact h k hk
theorem take_snoc {L : List Lnk} {i : Nat} (hi : i < L.length) : L.take (i + 1) = L.take i ++ [L[i]!] := by
  rw [List.take_add_one, List.getElem?_eq_getElem hi, getElem!_pos L i hi]
  rfl
theorem cv_lgs {P : List Lnk} (h : ∀ k ∈ P, 0 ≤ k.2.2.1 ∧ k.2.2.1 ≤ 4294967296000000) (a c : Nat) : -1 ≤ cv (tab (lgs P) a c) ∧ cv (tab (lgs P) a c) ≤ 4294967296000000 := by
  cases e : tab (lgs P) a c with
  | none => simp [cv]
  | some v =>
    obtain ⟨⟨l, hl, _, _, h3⟩, _⟩ := tab_some.1 e
    unfold lgs at hl
    obtain ⟨k, hk, rfl⟩ := List.mem_map.1 hl
    have := h k hk
    simp only at h3
    simp only [cv, Option.getD_some]
    omega
end Go.Proofs.YtojkdmkeankcgaaGreat
/-  What the call of the statements' climbed does: the least weights by links that lead up, or down. -/
namespace Go.Proofs.YtojkdmkeankcgaaGreat
open Go.RowKit Go.Sort

def clL (G : Nat → List Lnk) (p : Nat) : List Lnk := (List.range p).flatMap G
theorem clL_succ (G : Nat → List Lnk) (p : Nat) : clL G (p + 1) = clL G p ++ G p := by
  unfold clL
  rw [List.range_succ, List.flatMap_append]
  simp
theorem mem_clL {G : Nat → List Lnk} {p : Nat} {k : Lnk} : k ∈ clL G p ↔ ∃ r, r < p ∧ k ∈ G r := by
  unfold clL
  rw [List.mem_flatMap]
  simp [List.mem_range]
section
variable {n : Nat} {W : Nat → Nat → Option Int} {K : Mx} {rk : Nat → Nat} {Q : Nat → Option Int} {rv : Nat → Int}
theorem cl_up (h : Bd n W n K rk Q rv) : cellsM n (tab (lgs (clL (upL n (upM K rk)) n))) = cellsM n (upW K rk) := by
  refine cellsM_same _ _ fun a c ha hc => ?_
  rw [lgs_all (K := fun a c => if rk a < rk c then K a c else none) fun k => ?_]
  · unfold upW wtM
    dsimp only
    split <;> rfl
  · rw [mem_clL]
    constructor
    · rintro ⟨r, hr, hk⟩
      obtain ⟨e1, e2, e3, e4⟩ := up_mem h hk
      subst e1
      rw [if_pos e3]
      exact e4
    · intro e
      split at e
      · rename_i hlt
        obtain ⟨r1, r2, _⟩ := h.lft.rk'.lk _ _ _ e
        exact ⟨k.1, r1, mem_upL.2 ⟨rfl, r2, by unfold upM; rw [if_pos (by omega)]; exact e⟩⟩
      · cases e
theorem cl_dn (h : Bd n W n K rk Q rv) : cellsM n (tab (lgs (clL (dnL n (dnM K rk)) n))) = cellsM n (dnW K rk) := by
  refine cellsM_same _ _ fun a c ha hc => ?_
  rw [lgs_all (K := fun a c => if rk c < rk a then K a c else none) fun k => ?_]
  · unfold dnW wtM
    dsimp only
    split <;> rfl
  · rw [mem_clL]
    constructor
    · rintro ⟨r, hr, hk⟩
      obtain ⟨e1, e2, e3, e4⟩ := dn_mem h hk
      subst e1
      rw [if_pos e3]
      exact e4
    · intro e
      split at e
      · rename_i hlt
        obtain ⟨r1, r2, _⟩ := h.lft.rk'.lk _ _ _ e
        exact ⟨k.2.1, r2, mem_dnL.2 ⟨rfl, r1, by unfold dnM; rw [if_pos (by omega)]; exact e⟩⟩
      · cases e
theorem two_le {a b : Nat} (h : a < b) : (1000000 : Int) * 2 ^ a + 1000000 * 2 ^ a ≤ 1000000 * 2 ^ b := by
  have := pow_mono (show a + 1 ≤ b by omega)
  rw [two_pow] at this
  exact this
theorem pow_lid {a : Nat} (h : a ≤ 32) : 0 ≤ (1000000 : Int) * 2 ^ a ∧ (1000000 : Int) * 2 ^ a ≤ 4294967296000000 := by
  have h1 := pow_mono h
  have h2 := pow_pos' a
  have h4 : (1000000 : Int) * 2 ^ 32 = 4294967296000000 := by decide
  omega
theorem pot_up (h : Bd n W n K rk Q rv) (hn : n ≤ 32) : Pt.WPot (fun a => 1000000 * 2 ^ (rk a)) n (upW K rk) ∧ ∀ a, a < n → 0 ≤ (1000000 : Int) * 2 ^ (rk a) ∧ (1000000 : Int) * 2 ^ (rk a) ≤ 4294967296000000 := by
  refine ⟨fun a c v ha hc e => ?_, fun a ha => pow_lid (by have := bd_all h a ha; omega)⟩
  obtain ⟨h1, h2⟩ := upW_some.1 e
  obtain ⟨m, e⟩ := wtM_some.1 h2
  have h3 := (h.lft.ubnd a c v m e).1 (bd_all h a ha) (by omega)
  have h4 := two_le h1
  have h5 := (h.lft.lk a c v m e).2.2.2.1
  exact ⟨h5, by simp only; omega⟩
theorem pot_dn (h : Bd n W n K rk Q rv) (hn : n ≤ 32) : Pt.WPot (fun a => 4294967296000000 - 1000000 * 2 ^ (rk a)) n (dnW K rk) ∧ ∀ a, a < n → 0 ≤ (4294967296000000 : Int) - 1000000 * 2 ^ (rk a) ∧ (4294967296000000 : Int) - 1000000 * 2 ^ (rk a) ≤ 4294967296000000 := by
  refine ⟨fun a c v ha hc e => ?_, fun a ha => by have := pow_lid (a := rk a) (by have := bd_all h a ha; omega); omega⟩
  obtain ⟨h1, h2⟩ := dnW_some.1 e
  obtain ⟨m, e⟩ := wtM_some.1 h2
  have h3 := (h.lft.ubnd a c v m e).2 (bd_all h c hc) (by omega)
  have h4 := two_le h1
  have h5 := (h.lft.lk a c v m e).2.2.2.1
  exact ⟨h5, by simp only; omega⟩
end
end Go.Proofs.YtojkdmkeankcgaaGreat
