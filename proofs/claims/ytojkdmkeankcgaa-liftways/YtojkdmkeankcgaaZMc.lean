/-
  Several texts in one.
-/
import Derived.Test.YtojkdmkeankcgaaZLk
import Derived.Test.YtojkdmkeankcgaaLeastQ
/-  A matrix in the making, and the least weights of links by their ends. -/
namespace Go.Proofs.Ytojkdmkeankcgaa
open Go.RowKit Go.Sort

/-- A matrix's box, and its cells, made since w1. -/
structure Mk7 (w1 : World) (bx n : Nat) (v : Value) (xs : List Int) (wr : World) : Prop where
  wb : w1.heap.size = bx
  below : Below bx w1 wr
  box : wr.heap[bx]? = some (.cells #[.int .i64 n, v] 39 (0, 0))
  own : IRow wr (bx + 1) v xs
section
variable {w1 wr w' : World} {bx n : Nat} {v : Value} {xs : List Int}
theorem Mk7.lt (h : Mk7 w1 bx n v xs wr) : bx < wr.heap.size := (Array.getElem?_eq_some_iff.1 h.box).1
theorem Mk7.f (h : Mk7 w1 bx n v xs wr) : Below w1.heap.size w1 wr := by rw [h.wb]; exact h.below
theorem Mk7.more (h : Mk7 w1 bx n v xs wr) {w2 w3 : World} {g cap : Nat} (o : Obj) (hw2 : w2 = wr.alloc o) (x : Int)
    (hown : w3.ownsRow (bx + 1) 3 1 (.slice (some ⟨g, 0, none⟩) (xs.length + 1) cap) (xs.length + 1) (intsV xs ++ [.int .i64 x])) (hg : w2.grownBy w3 v.ownBlock) :
    Mk7 w1 bx n (.slice (some ⟨g, 0, none⟩) (xs.length + 1) cap) (xs ++ [x]) (w3.setCell ⟨bx, 1, none⟩ (.slice (some ⟨g, 0, none⟩) (xs.length + 1) cap)) := by
  subst hw2
  have hlt := h.lt
  have hne : v.ownBlock ≠ some bx := fun e => by have := (h.own.lt bx e).1; omega
  have keep : w3.heap[bx]? = wr.heap[bx]? := by
    rw [hg.block bx (by simp; omega) (fun e => hne e.symm), Below.heap_alloc _ _ _ (by omega)]
  have hb3 : Below bx w1 w3 := (h.below.alloc (by omega) o).grown hg (by simp; omega) fun k hk => by have := (h.own.lt k hk).1; omega
  refine ⟨h.wb, hb3.setCell (Nat.le_refl _) _, ?_, ?_⟩
  · rw [heap_setCell_same w3 bx 1 _ _ _ (keep.trans h.box)]; rfl
  · have : IRow w3 (bx + 1) (.slice (some ⟨g, 0, none⟩) (xs.length + 1) cap) (xs ++ [x]) := by
      unfold IRow
      rw [List.length_append, intsV_app]
      exact hown
    exact this.setOther (by omega) _
theorem Mk7.later (h : Mk7 w1 bx n v xs wr) (f : Below wr.heap.size wr w') : Mk7 w1 bx n v xs w' :=
  ⟨h.wb, h.below.trans (f.mono (Nat.le_of_lt h.lt)), (f.block _ h.lt).trans h.box, h.own.later (Nat.le_refl _) f⟩
theorem Mk7.put {g m cap : Nat} (h : Mk7 w1 bx n (.slice (some ⟨g, 0, none⟩) m cap) xs wr) (k : Nat) (x : Int) : Mk7 w1 bx n (.slice (some ⟨g, 0, none⟩) m cap) (xs.set k x) (wr.setCell ⟨g, k, none⟩ (.int .i64 x)) := by
  have hg := (h.own.lt g rfl).1
  exact ⟨h.wb, h.below.setCell (show bx ≤ g by omega) _, by rw [heap_setCell_other _ _ _ _ (show bx ≠ g by omega)]; exact h.box, h.own.set k x⟩
end
theorem mk7_start (w1 : World) (n : Nat) : Mk7 w1 w1.heap.size n (.slice none 0 0) [] (w1.alloc (.cells #[.int .i64 n, .slice none 0 0] 39)) :=
  ⟨rfl, (Below.refl _ _).alloc (Nat.le_refl _) _, heap_alloc_new _ _, irow_nil _ _⟩
/-! ### links as legs -/
def lgs (L : List Lnk) : List Leg := L.map fun k => ((k.1 : Int), (k.2.1 : Int), k.2.2.1)
theorem tab_end (L : List Leg) (l : Leg) (p q : Nat) : tab (L ++ [l]) p q = if l.1 = p ∧ l.2.1 = q then some (match tab L p q with | none => l.2.2 | some v => min v l.2.2) else tab L p q := by
  rw [tab_snoc]
  split
  · cases tab L p q <;> rfl
  · rfl
/-- One link more: its cell gets its weight, if that is less. -/
theorem lgs_cells {n : Nat} {P : List Lnk} {a c : Nat} {x y : Int} (hc : c < n) :
    ((cv (tab (lgs P) a c) < 0 ∨ x < cv (tab (lgs P) a c)) → (∀ v, tab (lgs P) a c = some v → 0 ≤ v) → cellsM n (tab (lgs (P ++ [(a, c, (x, y))]))) = (cellsM n (tab (lgs P))).set (a * n + c) x) ∧
    (¬ (cv (tab (lgs P) a c) < 0 ∨ x < cv (tab (lgs P) a c)) → cellsM n (tab (lgs (P ++ [(a, c, (x, y))]))) = cellsM n (tab (lgs P))) := by
  have e : lgs (P ++ [(a, c, (x, y))]) = lgs P ++ [((a : Int), (c : Int), x)] := by simp [lgs]
  have key : ∀ p q, tab (lgs (P ++ [(a, c, (x, y))])) p q = if a = p ∧ c = q then some (match tab (lgs P) p q with | none => x | some v => min v x) else tab (lgs P) p q := fun p q => by
    rw [e, tab_end]
    by_cases h : a = p ∧ c = q
    · rw [if_pos (by simp only; omega), if_pos h]
    · rw [if_neg (by simp only; omega), if_neg h]
  refine ⟨fun h hp => ?_, fun h => ?_⟩
  · refine cellsM_set _ _ hc _ ?_ (fun p q _ _ hne => by rw [key, if_neg (fun e => hne ⟨e.1.symm, e.2.symm⟩)])
    rw [key, if_pos ⟨rfl, rfl⟩]
    cases eT : tab (lgs P) a c with
    | none => rfl
    | some v =>
      rw [eT] at h
      have := hp v eT
      simp only [cv, Option.getD_some] at h
      simp only
      congr 1
      omega
  · refine cellsM_same _ _ fun p q _ _ => ?_
    rw [key]
    by_cases hpq : a = p ∧ c = q
    · obtain ⟨rfl, rfl⟩ := hpq
      rw [if_pos ⟨rfl, rfl⟩]
      cases eT : tab (lgs P) a c with
      | none => rw [eT] at h; simp [cv] at h
      | some v =>
        rw [eT] at h
        simp only [cv, Option.getD_some] at h
        simp only
        congr 1
        omega
    · rw [if_neg hpq]
/-- All links with ends a, c weigh the same: so it is that. -/
theorem lgs_all {L : List Lnk} {K : Mx} (h : ∀ k, k ∈ L ↔ K k.1 k.2.1 = some k.2.2) (a c : Nat) : tab (lgs L) a c = wtM K a c := by
  cases e : wtM K a c with
  | none =>
    refine tab_none.2 fun l hl e2 => ?_
    unfold lgs at hl
    obtain ⟨k, hk, rfl⟩ := List.mem_map.1 hl
    simp only at e2
    have h1 := (h k).1 hk
    have e3 : k.1 = a ∧ k.2.1 = c := by omega
    rw [e3.1, e3.2] at h1
    unfold wtM at e
    rw [h1] at e
    cases e
  | some x =>
    obtain ⟨m, e2⟩ := wtM_some.1 e
    refine tab_some.2 ⟨⟨((a : Int), (c : Int), x), ?_, rfl, rfl, rfl⟩, fun l hl h1 h2 => ?_⟩
    · unfold lgs
      exact List.mem_map.2 ⟨(a, c, (x, m)), (h _).2 e2, rfl⟩
    · unfold lgs at hl
      obtain ⟨k, hk, rfl⟩ := List.mem_map.1 hl
      simp only at h1 h2
      have h3 := (h k).1 hk
      have e3 : k.1 = a ∧ k.2.1 = c := by omega
      rw [e3.1, e3.2, e2] at h3
      cases h3e : k.2.2 with
      | mk y1 y2 =>
        rw [h3e] at h3
        cases h3
        exact Int.le_refl _
theorem lgs_pos {P : List Lnk} (h : ∀ k ∈ P, 0 ≤ k.2.2.1) (a c : Nat) (v : Int) (e : tab (lgs P) a c = some v) : 0 ≤ v := by
  obtain ⟨⟨l, hl, _, _, h3⟩, _⟩ := tab_some.1 e
  unfold lgs at hl
  obtain ⟨k, hk, rfl⟩ := List.mem_map.1 hl
  rw [← h3]
  exact h k hk
theorem take_snoc {L : List Lnk} {i : Nat} (hi : i < L.length) : L.take (i + 1) = L.take i ++ [L[i]!] := by
  rw [List.take_add_one, List.getElem?_eq_getElem hi, getElem!_pos L i hi]
  rfl
theorem cv_lgs {P : List Lnk} (h : ∀ k ∈ P, 0 ≤ k.2.2.1 ∧ k.2.2.1 ≤ 4294967296000000) (a c : Nat) : -1 ≤ cv (tab (lgs P) a c) ∧ cv (tab (lgs P) a c) ≤ 4294967296000000 := by
  cases e : tab (lgs P) a c with
  | none => simp [cv]
  | some v =>
    obtain ⟨⟨l, hl, _, _, h3⟩, _⟩ := tab_some.1 e
    unfold lgs at hl
    obtain ⟨k, hk, rfl⟩ := List.mem_map.1 hl
    have := h k hk
    simp only at h3
    simp only [cv, Option.getD_some]
    omega
end Go.Proofs.Ytojkdmkeankcgaa
/-  What the call of the statements' climbed does: the least weights by links that lead up, or down. -/
namespace Go.Proofs.Ytojkdmkeankcgaa
open Go.RowKit Go.Sort

def clL (G : Nat → List Lnk) (p : Nat) : List Lnk := (List.range p).flatMap G
theorem clL_succ (G : Nat → List Lnk) (p : Nat) : clL G (p + 1) = clL G p ++ G p := by
  unfold clL
  rw [List.range_succ, List.flatMap_append]
  simp
theorem mem_clL {G : Nat → List Lnk} {p : Nat} {k : Lnk} : k ∈ clL G p ↔ ∃ r, r < p ∧ k ∈ G r := by
  unfold clL
  rw [List.mem_flatMap]
  simp [List.mem_range]
section
variable {n : Nat} {W : Nat → Nat → Option Int} {K : Mx} {rk : Nat → Nat} {Q : Nat → Option Int} {rv : Nat → Int}
theorem cl_up (h : Bd n W n K rk Q rv) : cellsM n (tab (lgs (clL (upL n (upM K rk)) n))) = cellsM n (upW K rk) := by
  refine cellsM_same _ _ fun a c ha hc => ?_
  rw [lgs_all (K := fun a c => if rk a < rk c then K a c else none) fun k => ?_]
  · unfold upW wtM
    dsimp only
    split <;> rfl
  · rw [mem_clL]
    constructor
    · rintro ⟨r, hr, hk⟩
      obtain ⟨e1, e2, e3, e4⟩ := up_mem h hk
      subst e1
      rw [if_pos e3]
      exact e4
    · intro e
      split at e
      · rename_i hlt
        obtain ⟨r1, r2, _⟩ := h.lft.rk'.lk _ _ _ e
        exact ⟨k.1, r1, mem_upL.2 ⟨rfl, r2, by unfold upM; rw [if_pos (by omega)]; exact e⟩⟩
      · cases e
theorem cl_dn (h : Bd n W n K rk Q rv) : cellsM n (tab (lgs (clL (dnL n (dnM K rk)) n))) = cellsM n (dnW K rk) := by
  refine cellsM_same _ _ fun a c ha hc => ?_
  rw [lgs_all (K := fun a c => if rk c < rk a then K a c else none) fun k => ?_]
  · unfold dnW wtM
    dsimp only
    split <;> rfl
  · rw [mem_clL]
    constructor
    · rintro ⟨r, hr, hk⟩
      obtain ⟨e1, e2, e3, e4⟩ := dn_mem h hk
      subst e1
      rw [if_pos e3]
      exact e4
    · intro e
      split at e
      · rename_i hlt
        obtain ⟨r1, r2, _⟩ := h.lft.rk'.lk _ _ _ e
        exact ⟨k.2.1, r2, mem_dnL.2 ⟨rfl, r1, by unfold dnM; rw [if_pos (by omega)]; exact e⟩⟩
      · cases e
theorem two_le {a b : Nat} (h : a < b) : (1000000 : Int) * 2 ^ a + 1000000 * 2 ^ a ≤ 1000000 * 2 ^ b := by
  have := pow_mono (show a + 1 ≤ b by omega)
  rw [two_pow] at this
  exact this
theorem pow_lid {a : Nat} (h : a ≤ 32) : 0 ≤ (1000000 : Int) * 2 ^ a ∧ (1000000 : Int) * 2 ^ a ≤ 4294967296000000 := by
  have h1 := pow_mono h
  have h2 := pow_pos' a
  have h4 : (1000000 : Int) * 2 ^ 32 = 4294967296000000 := by decide
  omega
theorem pot_up (h : Bd n W n K rk Q rv) (hn : n ≤ 32) : Pt.WPot (fun a => 1000000 * 2 ^ (rk a)) n (upW K rk) ∧ ∀ a, a < n → 0 ≤ (1000000 : Int) * 2 ^ (rk a) ∧ (1000000 : Int) * 2 ^ (rk a) ≤ 4294967296000000 := by
  refine ⟨fun a c v ha hc e => ?_, fun a ha => pow_lid (by have := bd_all h a ha; omega)⟩
  obtain ⟨h1, h2⟩ := upW_some.1 e
  obtain ⟨m, e⟩ := wtM_some.1 h2
  have h3 := (h.lft.ubnd a c v m e).1 (bd_all h a ha) (by omega)
  have h4 := two_le h1
  have h5 := (h.lft.lk a c v m e).2.2.2.1
  exact ⟨h5, by simp only; omega⟩
theorem pot_dn (h : Bd n W n K rk Q rv) (hn : n ≤ 32) : Pt.WPot (fun a => 4294967296000000 - 1000000 * 2 ^ (rk a)) n (dnW K rk) ∧ ∀ a, a < n → 0 ≤ (4294967296000000 : Int) - 1000000 * 2 ^ (rk a) ∧ (4294967296000000 : Int) - 1000000 * 2 ^ (rk a) ≤ 4294967296000000 := by
  refine ⟨fun a c v ha hc e => ?_, fun a ha => by have := pow_lid (a := rk a) (by have := bd_all h a ha; omega); omega⟩
  obtain ⟨h1, h2⟩ := dnW_some.1 e
  obtain ⟨m, e⟩ := wtM_some.1 h2
  have h3 := (h.lft.ubnd a c v m e).2 (bd_all h c hc) (by omega)
  have h4 := two_le h1
  have h5 := (h.lft.lk a c v m e).2.2.2.1
  exact ⟨h5, by simp only; omega⟩
end
set_option maxRecDepth 100000 in
set_option maxHeartbeats 12800000 in
theorem climb_up {n : Nat} {w : World} {b : LfB} {rv : Nat → Int} {W : Nat → Nat → Option Int} {K : Mx} {rk : Nat → Nat} {Q9 : Nat → Option Int} (h : LfA n w b rv (upM K rk) (dnM K rk)) (hn : 1 ≤ n ∧ n ≤ 32) (hBd : Bd n W n K rk Q9 rv) :
    Calls Try.prog 22 #[.pointer (some ⟨b.l, 0, none⟩), .int .i64 n, .bool true] w fun e w' => ∃ v, e = .returned (.agg #[.int .i64 n, v]) ∧ IRow w' w.heap.size v (cellsM n (least n (upW K rk))) ∧ Below w.heap.size w w' := by
  have HN := hide hn
  have HBD := hide hBd
  have HPOT := hide (pot_up hBd hn.2)
  have HEND := hide (cl_up hBd)
  have HALL : Hid (∀ k p, p ≤ n → k ∈ clL (upL n (upM K rk)) p → 0 ≤ k.2.2.1 ∧ k.2.2.1 ≤ 4294967296000000) := fun k p hp hk => by
    obtain ⟨r, hr, hk⟩ := mem_clL.1 hk
    exact hBd.lft.bound hn.2 _ _ _ _ (up_mem hBd hk).2.2.2
  obtain ⟨i0, hi0, hy0, hy1, hy2⟩ := info_parts info3
  have HI := hide (And.intro hi0 (And.intro hy0 (And.intro hy1 hy2)))
  obtain ⟨hmulQ, hQb⟩ := mul_wrap hn.2 hn.2
  obtain ⟨Q, hQ⟩ : ∃ Q, n * n = Q := ⟨_, rfl⟩
  rw [hQ] at hmulQ hQb
  have HQ := hide hQ
  obtain ⟨B, hB⟩ : ∃ B, w.heap.size = B := ⟨_, rfl⟩
  obtain ⟨w1, hw1⟩ : ∃ w1, w.alloc (.cells #[.int .i64 0, .slice none 0 0] 39) = w1 := ⟨_, rfl⟩
  have hbx : w1.heap.size = B + 1 := by rw [← hw1, ← hB]; simp
  have HS0 := hide (mk7_start w1 n)
  have HL : Hid (LfA n w1 b rv (upM K rk) (dnM K rk)) := by rw [← hw1]; exact h.later ((Below.refl _ _).alloc (Nat.le_refl _) _)
  have HBW : Hid (Below B w w1) := by rw [← hw1, ← hB]; exact (Below.refl _ _).alloc (Nat.le_refl _) _
  have hb0 : w1.heap[B]? = some (.cells #[.int .i64 0, .slice none 0 0] 39 (0, 0)) := by rw [← hw1, ← hB]; exact heap_alloc_new _ _
  rw [hbx] at HS0
  obtain ⟨bx, hbxx⟩ : ∃ bx, B + 1 = bx := ⟨_, rfl⟩
  have HBX : Hid (w1.heap[B]? = some (.cells #[.int .i64 0, .slice none 0 0] 39 (0, 0)) ∧ B < bx) := ⟨hb0, by omega⟩
  rw [hbxx] at HS0
  rw [hB]
  clear h hBd hi0 hy0 hy1 hy2 hQ hb0 hn
  go_enter Try.func22, Try.ntmps22
  go_wp2
  try rw [hw1]
  try rw [hB]
  try rw [hbxx]
  clear hB hw1 hbx hbxx
  generalize w1.alloc (.cells #[.int .i64 n, .slice none 0 0] 39) = W0 at HS0 ⊢
  go_loopw [8] (fun vi wr => ∃ (i : Nat) (v : Value), vi = .int .i64 i ∧ i ≤ Q ∧ Hid (Mk7 w1 bx n v (List.replicate i (-1)) wr)) (fun vi _ => Q - (intOf vi).toNat)
  case atStart => exact ⟨0, _, rfl, Nat.zero_le _, HS0.out⟩
  case round =>
    clear HS0
    obtain ⟨i, v, rfl, hi, HR⟩ := hrel
    have r2 := cell_of_row wr bx 1 _ _ _ HR.out.box
    have f2 := frozen_of_row wr bx 1 _ _ HR.out.box
    simp only [List.getElem?_toArray, List.getElem?_cons_succ, List.getElem?_cons_zero] at r2
    skip
    by_cases hlt : i < Q
    · have i1 : (i : Int) < (Q : Int) := by omega
      have hBz := HR.out.lt
      have HOW : Hid ((wr.alloc (.cells #[.int .i64 (-1)] 3)).ownsRow (bx + 1) 3 1 v (List.replicate i (-1)).length (intsV (List.replicate i (-1)))) := HR.out.own.alloc _
      rw [List.length_replicate] at HOW
      have HNW : Hid (∀ j u, [Value.int .i64 (-1)][j]? = some u → (wr.alloc (.cells #[.int .i64 (-1)] 3)).cell? ((⟨wr.heap.size, 0, none⟩ : Addr).add j) = some u) := World.news_of_block (cs := #[.int .i64 (-1)]) (t := 3) (fr := (0, 0)) (heap_alloc_new _ _)
      go_wp2_with (at_builtin; refine wpList_append_lies _ rfl (.tmp 24) (.tmp 25) 37 rfl (bx + 1) 3 i0 (.int .i64 0) 1 8 Try.underlying37 HI.out.1 HI.out.2.1 HI.out.2.2.1 HI.out.2.2.2 rfl (by decide) v i (intsV (List.replicate i (-1))) rfl HOW.out ⟨wr.heap.size, 0, none⟩ 1 1 [.int .i64 (-1)] rfl rfl HNW.out (by simp [Value.oneCell']) (by decide) (by unfold maxLen; omega) (by omega) (by simp; omega) (wr.heap.size + 1) (by simp) ?_)
      intro gg cap w3 hown1 hgrow hat hlt3
      have HST : Hid (Mk7 w1 bx n (.slice (some ⟨gg, 0, none⟩) (i + 1) cap) (List.replicate (i + 1) (-1)) (w3.setCell ⟨bx, 1, none⟩ (.slice (some ⟨gg, 0, none⟩) (i + 1) cap))) := by
        have := HR.out.more (.cells #[.int .i64 (-1)] 3) rfl (-1) (g := gg) (cap := cap) (w3 := w3) (by rw [List.length_replicate]; exact hown1) hgrow
        rw [rep_snoc, List.length_replicate] at this
        exact this
      have f3 : w3.frozen? ⟨bx, 1, none⟩ = false := by
        have := frozen_of_row _ bx 1 _ _ HST.out.box
        rw [World.frozen?_setCell] at this
        exact this
      have c3 : ∃ u, w3.cell? ⟨bx, 1, none⟩ = some u := by
        rw [hgrow.cell_far ⟨bx, 1, none⟩ (by show bx < _; simp; omega) (fun e => by have : bx + 1 ≤ bx := (HOW.out.lt _ e.symm).1; omega), World.cell?_alloc_lt _ _ _ (by show bx < _; omega)]
        exact ⟨_, r2⟩
      obtain ⟨u3, c3⟩ := c3
      clear hown1 hgrow hat HR
      go_wp2
      go_roundw
      case rel => exact ⟨i + 1, _, by go_num, by omega, HST.out⟩
      case measure => simp [intOf]; omega
    · have hiQ : i = Q := by omega
      have i1 : ¬ (i : Int) < (Q : Int) := by omega
      have HS1 : Hid (Mk7 w1 bx n v (cellsM n (tab (lgs []))) wr) := by
        show Mk7 _ _ _ _ _ _
        rw [show lgs [] = [] from rfl, cellsM_none, HQ.out, ← hiQ]
        exact HR.out
      replace hiQ := hide hiQ
      clear HR r2 f2
      go_wp2
      go_loopw [9] (fun vi wr => ∃ (p : Nat) (v : Value), vi = .int .i64 p ∧ p ≤ n ∧ Hid (Mk7 w1 bx n v (cellsM n (tab (lgs (clL (upL n (upM K rk)) p)))) wr)) (fun vi _ => n - (intOf vi).toNat)
      case atStart => exact ⟨0, _, rfl, Nat.zero_le _, HS1.out⟩
      case round =>
        clear HS1
        obtain ⟨p, v, rfl, hp, HR⟩ := hrel
        by_cases hpn : p < n
        · have i2 : (p : Int) < (n : Int) := by omega
          have HPN := hide hpn
          have hp32 : p < 32 := by have := HN.out.2; omega
          have HMEM : Hid (∀ i, i < (upL n (upM K rk) p).length → ∃ (q : Nat) (x y : Int), q < n ∧ (upL n (upM K rk) p)[i]! = (p, q, (x, y)) ∧ 0 ≤ x ∧ x ≤ 4294967296000000) := fun i hi => by
            have hm : (upL n (upM K rk) p)[i]! ∈ upL n (upM K rk) p := by rw [getElem!_pos _ i hi]; exact List.getElem_mem hi
            obtain ⟨e1, e2, _, e4⟩ := up_mem HBD.out hm
            refine ⟨(upL n (upM K rk) p)[i]!.2.1, (upL n (upM K rk) p)[i]!.2.2.1, (upL n (upM K rk) p)[i]!.2.2.2, e2, ?_, ?_⟩
            · generalize (upL n (upM K rk) p)[i]! = k at e1
              obtain ⟨k1, k2, k3, k4⟩ := k
              simp only at e1 ⊢
              rw [e1]
            · exact HBD.out.lft.bound HN.out.2 _ _ _ _ e4
          have HLE := hide (upL_len n _ p : (upL n (upM K rk) p).length ≤ n)
          have HSU := hide (clL_succ (upL n (upM K rk)) p)
          have HCL : Hid (∀ k ∈ clL (upL n (upM K rk)) p, 0 ≤ k.2.2.1 ∧ k.2.2.1 ≤ 4294967296000000) := fun k hk => HALL.out k p (Nat.le_of_lt HPN.out) hk
          go_wp2_with (first
            | (go_at_call 42; refine (ldown_any (HL.out.later HR.out.f) HN.out.2 HPN.out).mono ?_; rintro e w5 ⟨v5, rfl, h1, h2⟩; have HD5 := hide (And.intro h1 h2); obtain ⟨va5, vc5, rfl⟩ := h1.shape; clear h1 h2)
            | (go_at_call 41; refine (lup_any (HL.out.later (HR.out.later HD5.out.2).f) HN.out.2 HPN.out).mono ?_; rintro e w6 ⟨v6, rfl, h1, h2⟩; have HD6 := hide (And.intro h1 h2); obtain ⟨va6, vc6, rfl⟩ := h1.shape; clear h1 h2))
          have HS2 : Hid (Mk7 w1 bx n v (cellsM n (tab (lgs (clL (upL n (upM K rk)) p ++ (upL n (upM K rk) p).take 0)))) w6 ∧ LRow w6 w5.heap.size (.slice va6 (upL n (upM K rk) p).length vc6) (upL n (upM K rk) p)) := ⟨by rw [List.take_zero, List.append_nil]; exact (HR.out.later HD5.out.2).later HD6.out.2, HD6.out.1⟩
          generalize hLP : clL (upL n (upM K rk)) p = LP at HS2 HSU HCL
          generalize hLG : upL n (upM K rk) p = LG at HS2 HSU HMEM HLE ⊢
          obtain ⟨B5, hB5⟩ : ∃ B, w5.heap.size = B := ⟨_, rfl⟩
          rw [hB5] at HS2
          clear HR HD5 HD6 hB5 hLP hLG
          go_wp2
          go_loopw [42] (fun vi wr => ∃ i : Nat, vi = .int .i64 i ∧ i ≤ LG.length ∧ Hid (∃ v, Mk7 w1 bx n v (cellsM n (tab (lgs (LP ++ LG.take i)))) wr ∧ LRow wr B5 (.slice va6 LG.length vc6) LG)) (fun vi _ => LG.length - (intOf vi).toNat)
          case atStart => exact ⟨0, rfl, Nat.zero_le _, _, HS2.out⟩
          case round =>
            clear HS2
            obtain ⟨i, rfl, hi, HR⟩ := hrel
            obtain ⟨v, hR⟩ := HR.out
            have HR2 := hide hR
            clear hR HR
            by_cases hil : i < LG.length
            · obtain ⟨q, x, y, hq, hLi, hx0, hxM⟩ := HMEM.out i hil
              obtain ⟨g1, c1, hv, _, _, _, _⟩ := HR2.out.2.form (by omega)
              injection hv with j1 j2 j3
              subst j1 j3
              clear j2
              obtain ⟨y0, y1, y2, y3⟩ := HR2.out.2.cells i hil
              rw [hLi] at y0 y1 y2 y3
              simp only at y0 y1 y2 y3
              have HTK : Hid (LP ++ LG.take (i + 1) = (LP ++ LG.take i) ++ [(p, q, (x, y))]) := by show _ = _; rw [take_snoc hil, hLi, List.append_assoc]
              have HPB : Hid (∀ k ∈ LP ++ LG.take i, 0 ≤ k.2.2.1 ∧ k.2.2.1 ≤ 4294967296000000) := fun k hk => by
                rcases List.mem_append.1 hk with hk | hk
                · exact HCL.out k hk
                · obtain ⟨j, hj, e⟩ := List.mem_iff_getElem.1 (List.mem_of_mem_take hk)
                  obtain ⟨q', x', y', _, e2, e3⟩ := HMEM.out j hj
                  rw [← e, ← getElem!_pos LG j hj, e2]
                  exact e3
              generalize hPP : LP ++ LG.take i = PP at HR2 HTK HPB
              have hcb := cv_lgs HPB.out p q
              have HC := hide (lgs_cells (n := n) (P := PP) (a := p) (c := q) (x := x) (y := y) hq)
              obtain ⟨hmul, hmb⟩ := mul_wrap (show p ≤ 32 by have := HN.out.2; omega) HN.out.2
              obtain ⟨A0, hA0⟩ : ∃ A0, p * n = A0 := ⟨_, rfl⟩
              have l1 := cell_lt (show p < n by exact HPN.out) (show q < n by exact hq)
              rw [hA0] at hmul hmb l1 HC
              rw [HQ.out] at l1
              obtain ⟨g2, c2, hv2, hgb, hgl, _, _⟩ := HR2.out.1.own.form (by rw [cellsM_len, HQ.out]; omega)
              rw [cellsM_len, HQ.out] at hv2
              subst hv2
              have ec : (cellsM n (tab (lgs PP)))[A0 + q]! = cv (tab (lgs PP) p q) := by rw [← hA0]; exact cellsM_at _ (show p < n by exact HPN.out) (show q < n by exact hq)
              have xc := HR2.out.1.own.cell (A0 + q) (by rw [cellsM_len, HQ.out]; exact l1)
              rw [ec] at xc
              have xb := cell_of_row wr bx 1 _ _ _ HR2.out.1.box
              simp only [List.getElem?_toArray, List.getElem?_cons_succ, List.getElem?_cons_zero] at xb
              have HNN : Hid (∀ v, tab (lgs PP) p q = some v → 0 ≤ v) := lgs_pos (fun k hk => (HPB.out k hk).1) _ _
              generalize hz : cv (tab (lgs PP) p q) = z at xc hcb HC
              have i3 : (i : Int) < (LG.length : Int) := by omega
              have k1 : (A0 : Int) + (q : Int) < (Q : Int) := by omega
              have w1' : IntKind.i64.wrap ((A0 : Int) + (q : Int)) = ((A0 + q : Nat) : Int) := by rw [IntKind.wrap_i64]; omega
              have hf : Below wr.heap.size wr (wr.alloc (.cells #[.int .i64 p, .int .i64 q, .int .i64 x, .int .i64 y] 52)) := (Below.refl _ _).alloc (Nat.le_refl _) _
              have HR3 : Hid (Mk7 w1 bx n (.slice (some ⟨g2, 0, none⟩) Q c2) (cellsM n (tab (lgs PP))) (wr.alloc (.cells #[.int .i64 p, .int .i64 q, .int .i64 x, .int .i64 y] 52)) ∧ LRow (wr.alloc (.cells #[.int .i64 p, .int .i64 q, .int .i64 x, .int .i64 y] 52)) B5 (.slice (some ⟨g1, 0, none⟩) LG.length vc6) LG) := ⟨HR2.out.1.later hf, HR2.out.2.later (Nat.le_refl _) hf⟩
              have hnew := heap_alloc_new wr (.cells #[.int .i64 p, .int .i64 q, .int .i64 x, .int .i64 y] 52)
              have xc' := (hf.cell (p := ⟨g2, A0 + q, none⟩) hgl).trans xc
              have xb' := (hf.cell (p := ⟨bx, 1, none⟩) HR2.out.1.lt).trans xb
              have e0 := cell_of_row _ wr.heap.size 0 _ _ _ hnew
              have e1 := cell_of_row _ wr.heap.size 1 _ _ _ hnew
              have ex2 : (wr.alloc (.cells #[.int .i64 p, .int .i64 q, .int .i64 x, .int .i64 y] 52)).cell? ⟨wr.heap.size, 2, none⟩ = some (.int .i64 x) := cell_of_row _ wr.heap.size 2 _ _ _ hnew
              simp only [List.getElem?_toArray, List.getElem?_cons_succ, List.getElem?_cons_zero] at e0 e1
              obtain ⟨e6, he6⟩ : ∃ e6, wr.heap.size = e6 := ⟨_, rfl⟩
              have HE6 := hide he6
              have nge : ¬ g2 = e6 := by rw [← he6]; omega
              rw [he6] at e0 e1 ex2
              have HGB : Hid (bx + 1 ≤ g2 ∧ g1 ≠ g2) := ⟨hgb, fun e => by
                have h1 := own_tag HR2.out.2 (g := g1) rfl
                have h2 := own_tag HR2.out.1.own (g := g2) rfl
                obtain ⟨_, h1⟩ := h1
                obtain ⟨_, h2⟩ := h2
                rw [e, h2] at h1
                simp at h1⟩
              have zf := HR3.out.1.own.frozen (A0 + q)
              clear hf hnew HR2 hPP hA0 ec hz hLi xc xb he6 hgb
              go_wp2
              try rw [HE6.out]
              generalize wr.alloc (.cells #[.int .i64 p, .int .i64 q, .int .i64 x, .int .i64 y] 52) = W7 at HR3 xc' xb' e0 e1 ex2 zf ⊢
              by_cases hz0 : z < 0
              · have HC1 := hide (HC.out.1 (.inl hz0) HNN.out)
                go_quiet (fail)
                go_wp2
                have HST : Hid (Mk7 w1 bx n (.slice (some ⟨g2, 0, none⟩) Q c2) (cellsM n (tab (lgs (LP ++ LG.take (i + 1))))) ((W7.drewN nq).setCell ⟨g2, A0 + q, none⟩ (.int .i64 x)) ∧ LRow ((W7.drewN nq).setCell ⟨g2, A0 + q, none⟩ (.int .i64 x)) B5 (.slice (some ⟨g1, 0, none⟩) LG.length vc6) LG) := by
                  have h1 := (HR3.out.1.later (Qu.below_drewN (Below.refl _ _) nq)).put (A0 + q) x
                  rw [HTK.out, HC1.out]
                  exact ⟨h1, own_of_block (HR3.out.2.later (Nat.le_refl _) (Qu.below_drewN (Below.refl _ _) nq)) fun k hk => heap_setCell_other _ _ _ _ (fun e => by cases hk; exact HGB.out.2 e)⟩
                go_roundw
                case rel => exact ⟨i + 1, by go_num, by omega, _, HST.out⟩
                case measure => simp [intOf]; omega
              · by_cases hxz : x < z
                · have HC1 := hide (HC.out.1 (.inr hxz) HNN.out)
                  have hz2 : decide (z < 0) = false := decide_eq_false hz0
                  go_quiet (fail)
                  go_wp2
                  have HST : Hid (Mk7 w1 bx n (.slice (some ⟨g2, 0, none⟩) Q c2) (cellsM n (tab (lgs (LP ++ LG.take (i + 1))))) ((W7.drewN nq).setCell ⟨g2, A0 + q, none⟩ (.int .i64 x)) ∧ LRow ((W7.drewN nq).setCell ⟨g2, A0 + q, none⟩ (.int .i64 x)) B5 (.slice (some ⟨g1, 0, none⟩) LG.length vc6) LG) := by
                    have h1 := (HR3.out.1.later (Qu.below_drewN (Below.refl _ _) nq)).put (A0 + q) x
                    rw [HTK.out, HC1.out]
                    exact ⟨h1, own_of_block (HR3.out.2.later (Nat.le_refl _) (Qu.below_drewN (Below.refl _ _) nq)) fun k hk => heap_setCell_other _ _ _ _ (fun e => by cases hk; exact HGB.out.2 e)⟩
                  go_roundw
                  case rel => exact ⟨i + 1, by go_num, by omega, _, HST.out⟩
                  case measure => simp [intOf]; omega
                · have HC1 := hide (HC.out.2 (fun e => e.elim hz0 hxz))
                  have hz2 : decide (z < 0) = false := decide_eq_false hz0
                  have hz3 : decide (x < z) = false := decide_eq_false hxz
                  go_quiet (fail)
                  go_wp2
                  have HST : Hid (Mk7 w1 bx n (.slice (some ⟨g2, 0, none⟩) Q c2) (cellsM n (tab (lgs (LP ++ LG.take (i + 1))))) (W7.drewN nq) ∧ LRow (W7.drewN nq) B5 (.slice (some ⟨g1, 0, none⟩) LG.length vc6) LG) := by
                    rw [HTK.out, HC1.out]
                    exact ⟨HR3.out.1.later (Qu.below_drewN (Below.refl _ _) nq), HR3.out.2.later (Nat.le_refl _) (Qu.below_drewN (Below.refl _ _) nq)⟩
                  go_roundw
                  case rel => exact ⟨i + 1, by go_num, by omega, _, HST.out⟩
                  case measure => simp [intOf]; omega
            · have e : i = LG.length := by omega
              have i3 : ¬ (i : Int) < (LG.length : Int) := by omega
              have HE : Hid (Mk7 w1 bx n v (cellsM n (tab (lgs (clL (upL n (upM K rk)) (p + 1))))) wr) := by
                have := HR2.out.1
                rw [e, List.take_of_length_le (Nat.le_refl _), ← HSU.out] at this
                exact this
              replace e := hide e
              clear HR2
              go_wp2
              go_roundw
              case rel => exact ⟨p + 1, v, by go_num, by omega, HE.out⟩
              case measure => simp [intOf]; omega
        · have e : p = n := by omega
          have i2 : ¬ (p : Int) < (n : Int) := by omega
          subst e
          have HE : Hid (Mk7 w1 bx p v (cellsM p (upW K rk)) wr) := by
            have := HR.out
            rw [HEND.out] at this
            exact this
          obtain ⟨va, vc, rfl⟩ := HE.out.own.shape
          rw [cellsM_len] at HE
          have m0 := cell_of_row wr bx 0 _ _ _ HE.out.box
          have m1 := cell_of_row wr bx 1 _ _ _ HE.out.box
          simp only [List.getElem?_toArray, List.getElem?_cons_succ, List.getElem?_cons_zero] at m0 m1
          have HLS := hide (Pt.least_any HN.out HPOT.out.1 HPOT.out.2 HE.out.own)
          clear HR HEND
          go_wp2_with (go_at_call 31; refine HLS.out.mono ?_; rintro e w9 ⟨v9, rfl, h1, h2⟩; have HF := hide (And.intro h1 (And.intro (HE.out.below.trans (h2.mono (Nat.le_of_lt HE.out.lt))) h2)); obtain ⟨va9, vc9, rfl⟩ := h1.shape; have hb9 : w9.heap[B]? = some (.cells #[.int .i64 0, .slice none 0 0] 39 (0, 0)) := (HF.out.2.1.block B HBX.out.2).trans HBX.out.1; have q0 := cell_of_row w9 B 0 _ _ _ hb9; have q1 := cell_of_row w9 B 1 _ _ _ hb9; have f0 := frozen_of_row w9 B 0 _ _ hb9; have f1 := frozen_of_row w9 B 1 _ _ hb9; simp only [List.getElem?_toArray, List.getElem?_cons_succ, List.getElem?_cons_zero] at q0 q1; have HB9 := hide hb9; clear h1 h2 hb9)
          (try simp only [Exit.inBlock, Exit.then])
          have HX : ((w9.setCell ⟨B, 0, none⟩ (.int .i64 p)).setCell ⟨B, 1, none⟩ (.slice va9 (cellsM p (least p (upW K rk))).length vc9)).heap[B]? = some (.cells #[.int .i64 p, .slice va9 (cellsM p (least p (upW K rk))).length vc9] 39 (0, 0)) := by
            rw [heap_setCell_same _ _ 1 _ _ _ (heap_setCell_same _ _ 0 _ _ _ HB9.out)]
            rfl
          refine bodyPost_ret (results_cell_row rfl _ _ B 39 _ (0, 0) _ rfl HX Try.underlying39 rfl (by kernel_rfl)) rfl ?_
          refine ⟨_, rfl, ?_, ?_⟩
          · have hlt : B < wr.heap.size := by have := HE.out.lt; have := HBX.out.2; omega
            exact ((HF.out.1.setOther (b := B) (j := 0) hlt _).setOther (b := B) (j := 1) hlt _).mono (by have := HE.out.lt; have := HBX.out.2; omega)
          · have hb := HBW.out.trans (HF.out.2.1.mono (Nat.le_of_lt HBX.out.2))
            exact (hb.setCell (Nat.le_refl _) _).setCell (Nat.le_refl _) _

set_option maxRecDepth 100000 in
set_option maxHeartbeats 12800000 in
theorem climb_dn {n : Nat} {w : World} {b : LfB} {rv : Nat → Int} {W : Nat → Nat → Option Int} {K : Mx} {rk : Nat → Nat} {Q9 : Nat → Option Int} (h : LfA n w b rv (upM K rk) (dnM K rk)) (hn : 1 ≤ n ∧ n ≤ 32) (hBd : Bd n W n K rk Q9 rv) :
    Calls Try.prog 22 #[.pointer (some ⟨b.l, 0, none⟩), .int .i64 n, .bool false] w fun e w' => ∃ v, e = .returned (.agg #[.int .i64 n, v]) ∧ IRow w' w.heap.size v (cellsM n (least n (dnW K rk))) ∧ Below w.heap.size w w' := by
  have HN := hide hn
  have HBD := hide hBd
  have HPOT := hide (pot_dn hBd hn.2)
  have HEND := hide (cl_dn hBd)
  have HALL : Hid (∀ k p, p ≤ n → k ∈ clL (dnL n (dnM K rk)) p → 0 ≤ k.2.2.1 ∧ k.2.2.1 ≤ 4294967296000000) := fun k p hp hk => by
    obtain ⟨r, hr, hk⟩ := mem_clL.1 hk
    exact hBd.lft.bound hn.2 _ _ _ _ (dn_mem hBd hk).2.2.2
  obtain ⟨i0, hi0, hy0, hy1, hy2⟩ := info_parts info3
  have HI := hide (And.intro hi0 (And.intro hy0 (And.intro hy1 hy2)))
  obtain ⟨hmulQ, hQb⟩ := mul_wrap hn.2 hn.2
  obtain ⟨Q, hQ⟩ : ∃ Q, n * n = Q := ⟨_, rfl⟩
  rw [hQ] at hmulQ hQb
  have HQ := hide hQ
  obtain ⟨B, hB⟩ : ∃ B, w.heap.size = B := ⟨_, rfl⟩
  obtain ⟨w1, hw1⟩ : ∃ w1, w.alloc (.cells #[.int .i64 0, .slice none 0 0] 39) = w1 := ⟨_, rfl⟩
  have hbx : w1.heap.size = B + 1 := by rw [← hw1, ← hB]; simp
  have HS0 := hide (mk7_start w1 n)
  have HL : Hid (LfA n w1 b rv (upM K rk) (dnM K rk)) := by rw [← hw1]; exact h.later ((Below.refl _ _).alloc (Nat.le_refl _) _)
  have HBW : Hid (Below B w w1) := by rw [← hw1, ← hB]; exact (Below.refl _ _).alloc (Nat.le_refl _) _
  have hb0 : w1.heap[B]? = some (.cells #[.int .i64 0, .slice none 0 0] 39 (0, 0)) := by rw [← hw1, ← hB]; exact heap_alloc_new _ _
  rw [hbx] at HS0
  obtain ⟨bx, hbxx⟩ : ∃ bx, B + 1 = bx := ⟨_, rfl⟩
  have HBX : Hid (w1.heap[B]? = some (.cells #[.int .i64 0, .slice none 0 0] 39 (0, 0)) ∧ B < bx) := ⟨hb0, by omega⟩
  rw [hbxx] at HS0
  rw [hB]
  clear h hBd hi0 hy0 hy1 hy2 hQ hb0 hn
  go_enter Try.func22, Try.ntmps22
  go_wp2
  try rw [hw1]
  try rw [hB]
  try rw [hbxx]
  clear hB hw1 hbx hbxx
  generalize w1.alloc (.cells #[.int .i64 n, .slice none 0 0] 39) = W0 at HS0 ⊢
  go_loopw [8] (fun vi wr => ∃ (i : Nat) (v : Value), vi = .int .i64 i ∧ i ≤ Q ∧ Hid (Mk7 w1 bx n v (List.replicate i (-1)) wr)) (fun vi _ => Q - (intOf vi).toNat)
  case atStart => exact ⟨0, _, rfl, Nat.zero_le _, HS0.out⟩
  case round =>
    clear HS0
    obtain ⟨i, v, rfl, hi, HR⟩ := hrel
    have r2 := cell_of_row wr bx 1 _ _ _ HR.out.box
    have f2 := frozen_of_row wr bx 1 _ _ HR.out.box
    simp only [List.getElem?_toArray, List.getElem?_cons_succ, List.getElem?_cons_zero] at r2
    skip
    by_cases hlt : i < Q
    · have i1 : (i : Int) < (Q : Int) := by omega
      have hBz := HR.out.lt
      have HOW : Hid ((wr.alloc (.cells #[.int .i64 (-1)] 3)).ownsRow (bx + 1) 3 1 v (List.replicate i (-1)).length (intsV (List.replicate i (-1)))) := HR.out.own.alloc _
      rw [List.length_replicate] at HOW
      have HNW : Hid (∀ j u, [Value.int .i64 (-1)][j]? = some u → (wr.alloc (.cells #[.int .i64 (-1)] 3)).cell? ((⟨wr.heap.size, 0, none⟩ : Addr).add j) = some u) := World.news_of_block (cs := #[.int .i64 (-1)]) (t := 3) (fr := (0, 0)) (heap_alloc_new _ _)
      go_wp2_with (at_builtin; refine wpList_append_lies _ rfl (.tmp 24) (.tmp 25) 37 rfl (bx + 1) 3 i0 (.int .i64 0) 1 8 Try.underlying37 HI.out.1 HI.out.2.1 HI.out.2.2.1 HI.out.2.2.2 rfl (by decide) v i (intsV (List.replicate i (-1))) rfl HOW.out ⟨wr.heap.size, 0, none⟩ 1 1 [.int .i64 (-1)] rfl rfl HNW.out (by simp [Value.oneCell']) (by decide) (by unfold maxLen; omega) (by omega) (by simp; omega) (wr.heap.size + 1) (by simp) ?_)
      intro gg cap w3 hown1 hgrow hat hlt3
      have HST : Hid (Mk7 w1 bx n (.slice (some ⟨gg, 0, none⟩) (i + 1) cap) (List.replicate (i + 1) (-1)) (w3.setCell ⟨bx, 1, none⟩ (.slice (some ⟨gg, 0, none⟩) (i + 1) cap))) := by
        have := HR.out.more (.cells #[.int .i64 (-1)] 3) rfl (-1) (g := gg) (cap := cap) (w3 := w3) (by rw [List.length_replicate]; exact hown1) hgrow
        rw [rep_snoc, List.length_replicate] at this
        exact this
      have f3 : w3.frozen? ⟨bx, 1, none⟩ = false := by
        have := frozen_of_row _ bx 1 _ _ HST.out.box
        rw [World.frozen?_setCell] at this
        exact this
      have c3 : ∃ u, w3.cell? ⟨bx, 1, none⟩ = some u := by
        rw [hgrow.cell_far ⟨bx, 1, none⟩ (by show bx < _; simp; omega) (fun e => by have : bx + 1 ≤ bx := (HOW.out.lt _ e.symm).1; omega), World.cell?_alloc_lt _ _ _ (by show bx < _; omega)]
        exact ⟨_, r2⟩
      obtain ⟨u3, c3⟩ := c3
      clear hown1 hgrow hat HR
      go_wp2
      go_roundw
      case rel => exact ⟨i + 1, _, by go_num, by omega, HST.out⟩
      case measure => simp [intOf]; omega
    · have hiQ : i = Q := by omega
      have i1 : ¬ (i : Int) < (Q : Int) := by omega
      have HS1 : Hid (Mk7 w1 bx n v (cellsM n (tab (lgs []))) wr) := by
        show Mk7 _ _ _ _ _ _
        rw [show lgs [] = [] from rfl, cellsM_none, HQ.out, ← hiQ]
        exact HR.out
      replace hiQ := hide hiQ
      clear HR r2 f2
      go_wp2
      go_loopw [9] (fun vi wr => ∃ (p : Nat) (v : Value), vi = .int .i64 p ∧ p ≤ n ∧ Hid (Mk7 w1 bx n v (cellsM n (tab (lgs (clL (dnL n (dnM K rk)) p)))) wr)) (fun vi _ => n - (intOf vi).toNat)
      case atStart => exact ⟨0, _, rfl, Nat.zero_le _, HS1.out⟩
      case round =>
        clear HS1
        obtain ⟨p, v, rfl, hp, HR⟩ := hrel
        by_cases hpn : p < n
        · have i2 : (p : Int) < (n : Int) := by omega
          have HPN := hide hpn
          have hp32 : p < 32 := by have := HN.out.2; omega
          have HMEM : Hid (∀ i, i < (dnL n (dnM K rk) p).length → ∃ (q : Nat) (x y : Int), q < n ∧ (dnL n (dnM K rk) p)[i]! = (q, p, (x, y)) ∧ 0 ≤ x ∧ x ≤ 4294967296000000) := fun i hi => by
            have hm : (dnL n (dnM K rk) p)[i]! ∈ dnL n (dnM K rk) p := by rw [getElem!_pos _ i hi]; exact List.getElem_mem hi
            obtain ⟨e1, e2, _, e4⟩ := dn_mem HBD.out hm
            refine ⟨(dnL n (dnM K rk) p)[i]!.1, (dnL n (dnM K rk) p)[i]!.2.2.1, (dnL n (dnM K rk) p)[i]!.2.2.2, e2, ?_, ?_⟩
            · generalize (dnL n (dnM K rk) p)[i]! = k at e1
              obtain ⟨k1, k2, k3, k4⟩ := k
              simp only at e1 ⊢
              rw [e1]
            · exact HBD.out.lft.bound HN.out.2 _ _ _ _ e4
          have HLE := hide (dnL_len n _ p : (dnL n (dnM K rk) p).length ≤ n)
          have HSU := hide (clL_succ (dnL n (dnM K rk)) p)
          have HCL : Hid (∀ k ∈ clL (dnL n (dnM K rk)) p, 0 ≤ k.2.2.1 ∧ k.2.2.1 ≤ 4294967296000000) := fun k hk => HALL.out k p (Nat.le_of_lt HPN.out) hk
          go_wp2_with (first
            | (go_at_call 42; refine (ldown_any (HL.out.later HR.out.f) HN.out.2 HPN.out).mono ?_; rintro e w5 ⟨v5, rfl, h1, h2⟩; have HD5 := hide (And.intro h1 h2); obtain ⟨va5, vc5, rfl⟩ := h1.shape; clear h1 h2)
            | (go_at_call 41; refine (lup_any (HL.out.later (HR.out.later HD5.out.2).f) HN.out.2 HPN.out).mono ?_; rintro e w6 ⟨v6, rfl, h1, h2⟩; have HD6 := hide (And.intro h1 h2); obtain ⟨va6, vc6, rfl⟩ := h1.shape; clear h1 h2))
          have HS2 : Hid (Mk7 w1 bx n v (cellsM n (tab (lgs (clL (dnL n (dnM K rk)) p ++ (dnL n (dnM K rk) p).take 0)))) w5 ∧ LRow w5 wr.heap.size (.slice va5 (dnL n (dnM K rk) p).length vc5) (dnL n (dnM K rk) p)) := ⟨by rw [List.take_zero, List.append_nil]; exact HR.out.later HD5.out.2, HD5.out.1⟩
          generalize hLP : clL (dnL n (dnM K rk)) p = LP at HS2 HSU HCL
          generalize hLG : dnL n (dnM K rk) p = LG at HS2 HSU HMEM HLE ⊢
          obtain ⟨B5, hB5⟩ : ∃ B, wr.heap.size = B := ⟨_, rfl⟩
          rw [hB5] at HS2
          clear HR HD5 hB5 hLP hLG
          go_wp2
          go_loopw [42] (fun vi wr => ∃ i : Nat, vi = .int .i64 i ∧ i ≤ LG.length ∧ Hid (∃ v, Mk7 w1 bx n v (cellsM n (tab (lgs (LP ++ LG.take i)))) wr ∧ LRow wr B5 (.slice va5 LG.length vc5) LG)) (fun vi _ => LG.length - (intOf vi).toNat)
          case atStart => exact ⟨0, rfl, Nat.zero_le _, _, HS2.out⟩
          case round =>
            clear HS2
            obtain ⟨i, rfl, hi, HR⟩ := hrel
            obtain ⟨v, hR⟩ := HR.out
            have HR2 := hide hR
            clear hR HR
            by_cases hil : i < LG.length
            · obtain ⟨q, x, y, hq, hLi, hx0, hxM⟩ := HMEM.out i hil
              obtain ⟨g1, c1, hv, _, _, _, _⟩ := HR2.out.2.form (by omega)
              injection hv with j1 j2 j3
              subst j1 j3
              clear j2
              obtain ⟨y0, y1, y2, y3⟩ := HR2.out.2.cells i hil
              rw [hLi] at y0 y1 y2 y3
              simp only at y0 y1 y2 y3
              have HTK : Hid (LP ++ LG.take (i + 1) = (LP ++ LG.take i) ++ [(q, p, (x, y))]) := by show _ = _; rw [take_snoc hil, hLi, List.append_assoc]
              have HPB : Hid (∀ k ∈ LP ++ LG.take i, 0 ≤ k.2.2.1 ∧ k.2.2.1 ≤ 4294967296000000) := fun k hk => by
                rcases List.mem_append.1 hk with hk | hk
                · exact HCL.out k hk
                · obtain ⟨j, hj, e⟩ := List.mem_iff_getElem.1 (List.mem_of_mem_take hk)
                  obtain ⟨q', x', y', _, e2, e3⟩ := HMEM.out j hj
                  rw [← e, ← getElem!_pos LG j hj, e2]
                  exact e3
              generalize hPP : LP ++ LG.take i = PP at HR2 HTK HPB
              have hcb := cv_lgs HPB.out q p
              have HC := hide (lgs_cells (n := n) (P := PP) (a := q) (c := p) (x := x) (y := y) HPN.out)
              obtain ⟨hmul, hmb⟩ := mul_wrap (show q ≤ 32 by have := HN.out.2; omega) HN.out.2
              obtain ⟨A0, hA0⟩ : ∃ A0, q * n = A0 := ⟨_, rfl⟩
              have l1 := cell_lt (show q < n by exact hq) (show p < n by exact HPN.out)
              rw [hA0] at hmul hmb l1 HC
              rw [HQ.out] at l1
              obtain ⟨g2, c2, hv2, hgb, hgl, _, _⟩ := HR2.out.1.own.form (by rw [cellsM_len, HQ.out]; omega)
              rw [cellsM_len, HQ.out] at hv2
              subst hv2
              have ec : (cellsM n (tab (lgs PP)))[A0 + p]! = cv (tab (lgs PP) q p) := by rw [← hA0]; exact cellsM_at _ (show q < n by exact hq) (show p < n by exact HPN.out)
              have xc := HR2.out.1.own.cell (A0 + p) (by rw [cellsM_len, HQ.out]; exact l1)
              rw [ec] at xc
              have xb := cell_of_row wr bx 1 _ _ _ HR2.out.1.box
              simp only [List.getElem?_toArray, List.getElem?_cons_succ, List.getElem?_cons_zero] at xb
              have HNN : Hid (∀ v, tab (lgs PP) q p = some v → 0 ≤ v) := lgs_pos (fun k hk => (HPB.out k hk).1) _ _
              generalize hz : cv (tab (lgs PP) q p) = z at xc hcb HC
              have i3 : (i : Int) < (LG.length : Int) := by omega
              have k1 : (A0 : Int) + (p : Int) < (Q : Int) := by omega
              have w1' : IntKind.i64.wrap ((A0 : Int) + (p : Int)) = ((A0 + p : Nat) : Int) := by rw [IntKind.wrap_i64]; omega
              have hf : Below wr.heap.size wr (wr.alloc (.cells #[.int .i64 q, .int .i64 p, .int .i64 x, .int .i64 y] 52)) := (Below.refl _ _).alloc (Nat.le_refl _) _
              have HR3 : Hid (Mk7 w1 bx n (.slice (some ⟨g2, 0, none⟩) Q c2) (cellsM n (tab (lgs PP))) (wr.alloc (.cells #[.int .i64 q, .int .i64 p, .int .i64 x, .int .i64 y] 52)) ∧ LRow (wr.alloc (.cells #[.int .i64 q, .int .i64 p, .int .i64 x, .int .i64 y] 52)) B5 (.slice (some ⟨g1, 0, none⟩) LG.length vc5) LG) := ⟨HR2.out.1.later hf, HR2.out.2.later (Nat.le_refl _) hf⟩
              have hnew := heap_alloc_new wr (.cells #[.int .i64 q, .int .i64 p, .int .i64 x, .int .i64 y] 52)
              have xc' := (hf.cell (p := ⟨g2, A0 + p, none⟩) hgl).trans xc
              have xb' := (hf.cell (p := ⟨bx, 1, none⟩) HR2.out.1.lt).trans xb
              have e0 := cell_of_row _ wr.heap.size 0 _ _ _ hnew
              have e1 := cell_of_row _ wr.heap.size 1 _ _ _ hnew
              have ex2 : (wr.alloc (.cells #[.int .i64 q, .int .i64 p, .int .i64 x, .int .i64 y] 52)).cell? ⟨wr.heap.size, 2, none⟩ = some (.int .i64 x) := cell_of_row _ wr.heap.size 2 _ _ _ hnew
              simp only [List.getElem?_toArray, List.getElem?_cons_succ, List.getElem?_cons_zero] at e0 e1
              obtain ⟨e6, he6⟩ : ∃ e6, wr.heap.size = e6 := ⟨_, rfl⟩
              have HE6 := hide he6
              have nge : ¬ g2 = e6 := by rw [← he6]; omega
              rw [he6] at e0 e1 ex2
              have HGB : Hid (bx + 1 ≤ g2 ∧ g1 ≠ g2) := ⟨hgb, fun e => by
                have h1 := own_tag HR2.out.2 (g := g1) rfl
                have h2 := own_tag HR2.out.1.own (g := g2) rfl
                obtain ⟨_, h1⟩ := h1
                obtain ⟨_, h2⟩ := h2
                rw [e, h2] at h1
                simp at h1⟩
              have zf := HR3.out.1.own.frozen (A0 + p)
              clear hf hnew HR2 hPP hA0 ec hz hLi xc xb he6 hgb
              go_wp2
              try rw [HE6.out]
              generalize wr.alloc (.cells #[.int .i64 q, .int .i64 p, .int .i64 x, .int .i64 y] 52) = W7 at HR3 xc' xb' e0 e1 ex2 zf ⊢
              by_cases hz0 : z < 0
              · have HC1 := hide (HC.out.1 (.inl hz0) HNN.out)
                go_quiet (fail)
                go_wp2
                have HST : Hid (Mk7 w1 bx n (.slice (some ⟨g2, 0, none⟩) Q c2) (cellsM n (tab (lgs (LP ++ LG.take (i + 1))))) ((W7.drewN nq).setCell ⟨g2, A0 + p, none⟩ (.int .i64 x)) ∧ LRow ((W7.drewN nq).setCell ⟨g2, A0 + p, none⟩ (.int .i64 x)) B5 (.slice (some ⟨g1, 0, none⟩) LG.length vc5) LG) := by
                  have h1 := (HR3.out.1.later (Qu.below_drewN (Below.refl _ _) nq)).put (A0 + p) x
                  rw [HTK.out, HC1.out]
                  exact ⟨h1, own_of_block (HR3.out.2.later (Nat.le_refl _) (Qu.below_drewN (Below.refl _ _) nq)) fun k hk => heap_setCell_other _ _ _ _ (fun e => by cases hk; exact HGB.out.2 e)⟩
                go_roundw
                case rel => exact ⟨i + 1, by go_num, by omega, _, HST.out⟩
                case measure => simp [intOf]; omega
              · by_cases hxz : x < z
                · have HC1 := hide (HC.out.1 (.inr hxz) HNN.out)
                  have hz2 : decide (z < 0) = false := decide_eq_false hz0
                  go_quiet (fail)
                  go_wp2
                  have HST : Hid (Mk7 w1 bx n (.slice (some ⟨g2, 0, none⟩) Q c2) (cellsM n (tab (lgs (LP ++ LG.take (i + 1))))) ((W7.drewN nq).setCell ⟨g2, A0 + p, none⟩ (.int .i64 x)) ∧ LRow ((W7.drewN nq).setCell ⟨g2, A0 + p, none⟩ (.int .i64 x)) B5 (.slice (some ⟨g1, 0, none⟩) LG.length vc5) LG) := by
                    have h1 := (HR3.out.1.later (Qu.below_drewN (Below.refl _ _) nq)).put (A0 + p) x
                    rw [HTK.out, HC1.out]
                    exact ⟨h1, own_of_block (HR3.out.2.later (Nat.le_refl _) (Qu.below_drewN (Below.refl _ _) nq)) fun k hk => heap_setCell_other _ _ _ _ (fun e => by cases hk; exact HGB.out.2 e)⟩
                  go_roundw
                  case rel => exact ⟨i + 1, by go_num, by omega, _, HST.out⟩
                  case measure => simp [intOf]; omega
                · have HC1 := hide (HC.out.2 (fun e => e.elim hz0 hxz))
                  have hz2 : decide (z < 0) = false := decide_eq_false hz0
                  have hz3 : decide (x < z) = false := decide_eq_false hxz
                  go_quiet (fail)
                  go_wp2
                  have HST : Hid (Mk7 w1 bx n (.slice (some ⟨g2, 0, none⟩) Q c2) (cellsM n (tab (lgs (LP ++ LG.take (i + 1))))) (W7.drewN nq) ∧ LRow (W7.drewN nq) B5 (.slice (some ⟨g1, 0, none⟩) LG.length vc5) LG) := by
                    rw [HTK.out, HC1.out]
                    exact ⟨HR3.out.1.later (Qu.below_drewN (Below.refl _ _) nq), HR3.out.2.later (Nat.le_refl _) (Qu.below_drewN (Below.refl _ _) nq)⟩
                  go_roundw
                  case rel => exact ⟨i + 1, by go_num, by omega, _, HST.out⟩
                  case measure => simp [intOf]; omega
            · have e : i = LG.length := by omega
              have i3 : ¬ (i : Int) < (LG.length : Int) := by omega
              have HE : Hid (Mk7 w1 bx n v (cellsM n (tab (lgs (clL (dnL n (dnM K rk)) (p + 1))))) wr) := by
                have := HR2.out.1
                rw [e, List.take_of_length_le (Nat.le_refl _), ← HSU.out] at this
                exact this
              replace e := hide e
              clear HR2
              go_wp2
              go_roundw
              case rel => exact ⟨p + 1, v, by go_num, by omega, HE.out⟩
              case measure => simp [intOf]; omega
        · have e : p = n := by omega
          have i2 : ¬ (p : Int) < (n : Int) := by omega
          subst e
          have HE : Hid (Mk7 w1 bx p v (cellsM p (dnW K rk)) wr) := by
            have := HR.out
            rw [HEND.out] at this
            exact this
          obtain ⟨va, vc, rfl⟩ := HE.out.own.shape
          rw [cellsM_len] at HE
          have m0 := cell_of_row wr bx 0 _ _ _ HE.out.box
          have m1 := cell_of_row wr bx 1 _ _ _ HE.out.box
          simp only [List.getElem?_toArray, List.getElem?_cons_succ, List.getElem?_cons_zero] at m0 m1
          have HLS := hide (Pt.least_any HN.out HPOT.out.1 HPOT.out.2 HE.out.own)
          clear HR HEND
          go_wp2_with (go_at_call 31; refine HLS.out.mono ?_; rintro e w9 ⟨v9, rfl, h1, h2⟩; have HF := hide (And.intro h1 (And.intro (HE.out.below.trans (h2.mono (Nat.le_of_lt HE.out.lt))) h2)); obtain ⟨va9, vc9, rfl⟩ := h1.shape; have hb9 : w9.heap[B]? = some (.cells #[.int .i64 0, .slice none 0 0] 39 (0, 0)) := (HF.out.2.1.block B HBX.out.2).trans HBX.out.1; have q0 := cell_of_row w9 B 0 _ _ _ hb9; have q1 := cell_of_row w9 B 1 _ _ _ hb9; have f0 := frozen_of_row w9 B 0 _ _ hb9; have f1 := frozen_of_row w9 B 1 _ _ hb9; simp only [List.getElem?_toArray, List.getElem?_cons_succ, List.getElem?_cons_zero] at q0 q1; have HB9 := hide hb9; clear h1 h2 hb9)
          (try simp only [Exit.inBlock, Exit.then])
          have HX : ((w9.setCell ⟨B, 0, none⟩ (.int .i64 p)).setCell ⟨B, 1, none⟩ (.slice va9 (cellsM p (least p (dnW K rk))).length vc9)).heap[B]? = some (.cells #[.int .i64 p, .slice va9 (cellsM p (least p (dnW K rk))).length vc9] 39 (0, 0)) := by
            rw [heap_setCell_same _ _ 1 _ _ _ (heap_setCell_same _ _ 0 _ _ _ HB9.out)]
            rfl
          refine bodyPost_ret (results_cell_row rfl _ _ B 39 _ (0, 0) _ rfl HX Try.underlying39 rfl (by kernel_rfl)) rfl ?_
          refine ⟨_, rfl, ?_, ?_⟩
          · have hlt : B < wr.heap.size := by have := HE.out.lt; have := HBX.out.2; omega
            exact ((HF.out.1.setOther (b := B) (j := 0) hlt _).setOther (b := B) (j := 1) hlt _).mono (by have := HE.out.lt; have := HBX.out.2; omega)
          · have hb := HBW.out.trans (HF.out.2.1.mono (Nat.le_of_lt HBX.out.2))
            exact (hb.setCell (Nat.le_refl _) _).setCell (Nat.le_refl _) _

end Go.Proofs.Ytojkdmkeankcgaa
