/-
  What the calls of the document's Drop and Take do.
-/
import Derived.Test.YtbgolkkfpajkdaaRefB
namespace Go.Proofs.Ytbgolkkfpajkdaa
open Go.RowKit Go.Maps

theorem drop_split : ∀ {X : List Pr} {i : Nat}, Dis X → i < X.length → dropM X (at' X i).1 = X.take i ++ X.drop (i + 1)
  | [], _, _, h => by simp at h
  | a :: r, 0, h, _ => by
    unfold Dis items at h
    rw [List.map_cons, List.nodup_cons] at h
    have e : at' (a :: r) 0 = a := rfl
    rw [e]
    have : dropM r a.1 = r := by
      unfold dropM
      rw [List.filter_eq_self]
      intro q hq
      simp
      intro e2
      exact h.1 (List.mem_map.2 ⟨q, hq, e2⟩)
    have h2 : dropM (a :: r) a.1 = dropM r a.1 := by simp [dropM]
    rw [h2, this]
    simp
  | a :: r, i + 1, h, hi => by
    unfold Dis items at h
    rw [List.map_cons, List.nodup_cons] at h
    have e : at' (a :: r) (i + 1) = at' r i := by simp [at']
    have hi' : i < r.length := by simpa using hi
    have hne : a.1 ≠ (at' r i).1 := fun e2 => h.1 (List.mem_map.2 ⟨at' r i, mem_at.2 ⟨i, hi', rfl⟩, e2.symm⟩)
    rw [e]
    have h2 : dropM (a :: r) (at' r i).1 = a :: dropM r (at' r i).1 := by simp [dropM, hne]
    rw [h2, drop_split (X := r) h.2 hi']
    simp
section
variable {w w' : World} {r : Nat} {X : List Pr} {T : Nat → Prop}
theorem flat_one (L : List Pr) : ∀ u ∈ flat L, u.oneCell' = true := by
  intro u hu
  unfold flat at hu
  obtain ⟨p, _, hp⟩ := List.mem_flatMap.1 hu
  simp [cellsOf] at hp
  rcases hp with rfl | rfl <;> rfl
theorem flat_drop (L : List Pr) (n : Nat) : (flat L).drop (n * 2) = flat (L.drop n) := by
  induction n generalizing L with
  | zero => simp
  | succ n ih =>
    cases L with
    | nil => simp [flat]
    | cons p l =>
      rw [show flat (p :: l) = cellsOf p ++ flat l from rfl, show (n + 1) * 2 = n * 2 + 2 by omega, List.drop_succ_cons, ← ih l]
      simp [cellsOf]

set_option maxRecDepth 100000 in
set_option maxHeartbeats 1600000 in
theorem rdrop_any (h : RAt r X w T) (hT : ∀ k, T k → k < w.heap.size) (hl : X.length ≤ 4096) (hd : Dis X) (x : Int) :
    Calls Try.prog 13 #[.pointer (some ⟨r, 0, none⟩), .int .i64 x] w fun e w' => e = .returned (.bool (look X x).isSome) ∧ RE r (dropM X x) T w w' := by
  have HF := find_any h hl x
  have hsame := re_same h hT
  obtain ⟨v, h1, h2, h3⟩ := h.ex
  have c0 := cell_of_row w r 0 _ _ _ h1
  simp only [List.getElem?_toArray, List.getElem?_cons_zero] at c0
  have zf := frozen_of_row w r 0 _ _ h1
  rcases find_look X x with ⟨e1, e2⟩ | ⟨i, hi, e1, e2, e3, _⟩
  · rw [e2] at HF
    replace HF := hide HF
    rw [e1, drop_none e1]
    have HS := hide hsame
    clear h h1 h2 h3 hsame e1 e2
    go_enter Try.func13, Try.ntmps13
    go_wp2_with (go_at_call 21; refine HF.out.mono ?_; rintro e w2 ⟨rfl, rfl⟩)
    go_ret
    exact ⟨rfl, HS.out⟩
  · rw [e3] at HF
    replace HF := hide HF
    rw [e2, ← e1, drop_split hd hi, e1]
    obtain ⟨g, cap, hv, hc1, hc2⟩ := h2.nonempty (by omega)
    subst hv
    obtain ⟨i0, hi0, hy0, hy1, hy2⟩ := info_parts info52
    have hrl : r < w.heap.size := hT r h.tr
    have i1 : (i : Int) < (X.length : Int) := by omega
    have hcells : ∀ j u, (flat X)[j]? = some u → w.cell? ⟨g, j, none⟩ = some u := fun j u hj => by
      have := World.ownsRow.cells (g := g) h2 rfl j u hj
      rwa [add0] at this
    have hgl : g < w.heap.size := hT g (h3 g rfl)
    obtain ⟨B, hB⟩ : ∃ B, w.heap.size = B := ⟨_, rfl⟩
    have hb1 : Below w.heap.size w (w.alloc (.cells #[] 52)).drew := ((Below.refl _ _).alloc (Nat.le_refl _) _).drew
    have c0a : (w.alloc (.cells #[] 52)).cell? ⟨r, 0, none⟩ = some (.slice (some ⟨g, 0, none⟩) X.length cap) := by rw [World.cell?_alloc_lt _ _ _ (by show r < _; exact hrl)]; exact c0
    have HOwn : Hid ((w.alloc (.cells #[] 52)).drew.ownsRow 0 52 2 (.slice (some ⟨B, 0, none⟩) 0 0) 0 []) := by
      rw [← hB]
      exact ⟨rfl, .inr ⟨w.heap.size, 0, #[], rfl, Nat.zero_le _, heap_alloc_new w _, Nat.le_refl _, Nat.zero_le _, rfl, rfl⟩⟩
    have HNew1 : Hid (∀ j u, (flat (X.take i))[j]? = some u → (w.alloc (.cells #[] 52)).drew.cell? ((⟨g, 0, none⟩ : Addr).add j) = some u) := fun j u hj => by
      rw [add0, hb1.cell (p := ⟨g, j, none⟩) hgl]
      refine hcells j u ?_
      rw [← flat_take, List.getElem?_take] at hj
      split at hj
      · exact hj
      · cases hj
    have hlt1 : (X.take i).length = i := by simp; omega
    have HLen1 : Hid ((flat (X.take i)).length = i * 2) := by show _ = _; rw [flat_len, hlt1]
    have hlt2 : (X.drop (i + 1)).length = X.length - (i + 1) := by simp
    have HLen2 : Hid ((flat (X.drop (i + 1))).length = (X.length - (i + 1)) * 2) := by show _ = _; rw [flat_len, hlt2]
    -- behind the first append
    have HA : Hid (∀ (v3 : Value) (w3 : World), (w.alloc (.cells #[] 52)).drew.grownBy w3 (some B) → Moved (w.alloc (.cells #[] 52)).drew.heap.size (some B) v3.ownBlock →
        Below B w w3 ∧ (∀ b, v3.ownBlock = some b → B ≤ b) ∧ w3.cell? ⟨r, 0, none⟩ = some (.slice (some ⟨g, 0, none⟩) X.length cap)) := by
      intro v3 w3 hg hm
      have hbw : Below B w w3 := by
        refine ⟨hg.os, hg.tape, hg.output, Nat.le_trans hb1.size hg.size, fun b hb => ?_⟩
        rw [hg.block b (by have := hb1.size; omega) (by simp; omega)]
        exact hb1.block b (by omega)
      refine ⟨hbw, fun b e => ?_, (hbw.cell (p := ⟨r, 0, none⟩) (by show r < B; omega)).trans c0⟩
      rcases hm with hm | ⟨g2, hm, hm2⟩
      · rw [hm] at e; cases e; exact Nat.le_refl _
      · rw [hm] at e; cases e; have := hb1.size; omega
    have HNew2 : Hid (∀ w3, Below B w w3 → ∀ j u, (flat (X.drop (i + 1)))[j]? = some u → w3.cell? ((⟨g, (i + 1) * 2, none⟩ : Addr).add j) = some u) := fun w3 hb j u hj => by
      have e : (⟨g, (i + 1) * 2, none⟩ : Addr).add j = ⟨g, (i + 1) * 2 + j, none⟩ := by
        unfold Addr.add
        split
        · rename_i h0; subst h0; rfl
        · rfl
      rw [e, hb.cell (p := ⟨g, (i + 1) * 2 + j, none⟩) (by show g < B; omega)]
      refine hcells _ u ?_
      rw [← flat_drop, List.getElem?_drop] at hj
      exact hj
    -- behind the second
    have HZ : Hid (∀ (v3 v4 : Value) (w3 w4 : World), Below B w w3 → (∀ b, v3.ownBlock = some b → B ≤ b) → w4.ownsRow 0 52 2 v4 (i + (X.length - (i + 1))) (flat (X.take i) ++ flat (X.drop (i + 1))) → w3.grownBy w4 v3.ownBlock → Moved w3.heap.size v3.ownBlock v4.ownBlock →
        (w4.cell? ⟨r, 0, none⟩ = some (.slice (some ⟨g, 0, none⟩) X.length cap) ∧ w4.frozen? ⟨r, 0, none⟩ = false) ∧ RE r (X.take i ++ X.drop (i + 1)) T w (w4.setCell ⟨r, 0, none⟩ v4)) := by
      intro v3 v4 w3 w4 hb3 hv3 ho hg hm
      have hb4 : Below B w w4 := by
        refine ⟨hg.os.trans hb3.os, hg.tape.trans hb3.tape, hg.output.trans hb3.output, Nat.le_trans hb3.size hg.size, fun b hb => ?_⟩
        rw [hg.block b (by have := hb3.size; omega) (fun e => by have := hv3 b e.symm; omega)]
        exact hb3.block b hb
      have hr4 : w4.heap[r]? = some (.cells #[.slice (some ⟨g, 0, none⟩) X.length cap] 29 (0, 0)) := (hb4.block r (by omega)).trans h1
      refine ⟨⟨by rw [cell_of_row w4 r 0 _ _ _ hr4]; rfl, frozen_of_row w4 r 0 _ _ hr4⟩, re_store h.tr hT (Fr.of_below (by rw [hB]; exact hb4)) hr4 ?_ (fun b e => .inr ?_)⟩
      · unfold RowE
        rw [flat_app, List.length_append, hlt1, hlt2]
        exact ho
      · rw [hB]
        rcases hm with hm | ⟨g2, hm, hm2⟩
        · exact hv3 b (hm ▸ e)
        · rw [hm] at e; cases e; have := hb3.size; omega
    have f2 : (0 : Int) ≤ (i : Int) + 1 := by omega
    have f3 : (i : Int) + 1 ≤ (X.length : Int) := by omega
    have f4 : ((i : Int) + 1).toNat = i + 1 := by omega
    have f5 : IntKind.i64.wrap ((i : Int) + 1) = (i : Int) + 1 := by rw [IntKind.wrap]; simp [IntKind.signed, IntKind.bits]; omega
    have f6 : (i : Int) ≤ (i : Int) + 1 := by omega
    have f1 : (i : Int) ≤ (cap : Int) := by omega
    have HB := hide (And.intro hB hrl)
    by_cases hcap : cap = i + 1
    · have hX1 : X.length = i + 1 := by omega
      have HZ0 : Hid (∀ (v3 v4 : Value) (w3 w4 : World), Below B w w3 → (∀ b, v3.ownBlock = some b → B ≤ b) → w4.ownsRow 0 52 2 v4 (i + 0) (flat (X.take i) ++ []) → w3.grownBy w4 v3.ownBlock → Moved w3.heap.size v3.ownBlock v4.ownBlock →
          (w4.cell? ⟨r, 0, none⟩ = some (.slice (some ⟨g, 0, none⟩) X.length cap) ∧ w4.frozen? ⟨r, 0, none⟩ = false) ∧ RE r (X.take i ++ X.drop (i + 1)) T w (w4.setCell ⟨r, 0, none⟩ v4)) := by
        intro v3 v4 w3 w4 a1 a2 a3 a4 a5
        refine HZ.out v3 v4 w3 w4 a1 a2 ?_ a4 a5
        have e1 : X.length - (i + 1) = 0 := by omega
        have e2 : X.drop (i + 1) = [] := List.drop_eq_nil_iff.2 (by omega)
        rw [e1, e2]
        exact a3
      clear h h1 h2 h3 hsame e1 e2 e3 hd hcells hb1 hgl hrl hlt1 hlt2 HZ
      go_enter Try.func13, Try.ntmps13
      go_wp2_with (go_at_call 21; refine HF.out.mono ?_; rintro e w2 ⟨rfl, rfl⟩)
      go_region_law (first | (refine step_append rfl (.tmp 19) (.tmp 26) 27 rfl 0 52 i0 (.agg #[.int .i64 0, .int .i64 0]) 2 16 Try.underlying27 hi0 hy0 hy1 hy2 rfl (by decide) _ i (flat (X.take i)) rfl ho3.out _ 0 0 [] rfl rfl (fun j u hj => by simp at hj) (by simp) (by unfold maxLen; omega) (by omega) (by simp) ?_; intro v4 w4 ho hg hm; obtain ⟨a4, c4, rfl⟩ := own_shape ho; obtain ⟨⟨t4, z4⟩, hre⟩ := HZ0.out _ _ _ w4 hb3.out.1 hb3.out.2 ho hg hm; have HRE := hide hre; clear ho hg hm hre) | (refine step_append rfl (.tmp 12) (.tmp 18) 27 rfl 0 52 i0 (.agg #[.int .i64 0, .int .i64 0]) 2 16 Try.underlying27 hi0 hy0 hy1 hy2 rfl (by decide) (.slice (some ⟨B, 0, none⟩) 0 0) 0 [] rfl HOwn.out ⟨g, 0, none⟩ i _ (flat (X.take i)) rfl HLen1.out HNew1.out (flat_one _) (by unfold maxLen; omega) (by omega) (by simp) ?_; intro v3 w3 ho hg hm; obtain ⟨b3, hv3, t3⟩ := HA.out v3 w3 hg hm; rw [Nat.zero_add, List.nil_append] at ho; have ho3 := hide ho; have hb3 := hide (And.intro b3 hv3); clear ho hg hm b3 hv3))
      all_goals
        go_wp2
        go_ret
        exact ⟨rfl, HRE.out⟩
    · have HZ0 := HZ
      have f7 : ¬ cap = i + 1 := hcap
      have f8 : X.length - (i + 1) + (i + 1) = X.length := by omega
      clear h h1 h2 h3 hsame e1 e2 e3 hd hcells hb1 hgl hrl hlt1 hlt2 HZ hcap
      go_enter Try.func13, Try.ntmps13
      go_wp2_with (go_at_call 21; refine HF.out.mono ?_; rintro e w2 ⟨rfl, rfl⟩)
      go_region_law (first | (refine step_append rfl (.tmp 19) (.tmp 26) 27 rfl 0 52 i0 (.agg #[.int .i64 0, .int .i64 0]) 2 16 Try.underlying27 hi0 hy0 hy1 hy2 rfl (by decide) _ i (flat (X.take i)) rfl ho3.out _ (X.length - (i + 1)) (cap - (i + 1)) (flat (X.drop (i + 1))) rfl HLen2.out (HNew2.out _ hb3.out.1) (flat_one _) (by unfold maxLen; omega) (by omega) (by simp) ?_; intro v4 w4 ho hg hm; obtain ⟨a4, c4, rfl⟩ := own_shape ho; obtain ⟨⟨t4, z4⟩, hre⟩ := HZ0.out _ _ _ w4 hb3.out.1 hb3.out.2 ho hg hm; have HRE := hide hre; clear ho hg hm hre) | (refine step_append rfl (.tmp 12) (.tmp 18) 27 rfl 0 52 i0 (.agg #[.int .i64 0, .int .i64 0]) 2 16 Try.underlying27 hi0 hy0 hy1 hy2 rfl (by decide) (.slice (some ⟨B, 0, none⟩) 0 0) 0 [] rfl HOwn.out ⟨g, 0, none⟩ i _ (flat (X.take i)) rfl HLen1.out HNew1.out (flat_one _) (by unfold maxLen; omega) (by omega) (by simp) ?_; intro v3 w3 ho hg hm; obtain ⟨b3, hv3, t3⟩ := HA.out v3 w3 hg hm; rw [Nat.zero_add, List.nil_append] at ho; have ho3 := hide ho; have hb3 := hide (And.intro b3 hv3); clear ho hg hm b3 hv3))
      all_goals
        go_wp2
        go_ret
        exact ⟨rfl, HRE.out⟩
end
end Go.Proofs.Ytbgolkkfpajkdaa
