/-
  Several texts in one.
-/
import Derived.Test.YtojkdmkeankcgaaGreatZSq
import Derived.Test.YtojkdmkeankcgaaGreatZBitsG
import Derived.Test.YtojkdmkeankcgaaGreatOuts
import Derived.Carry
/-  What the call of edges does: a graph's edges as links, none of its places lifted. -/
namespace Go.Proofs.YtojkdmkeankcgaaGreat
open Go.RowKit Go.Sort

theorem info101 : (Tryz.prog.info? 93).map (fun i => (i.zero, i.size, i.bytes)) = some (some (.map none), 1, 8) := by kernel_rfl
theorem made_maps (n : Nat) (hn : n ≤ 32) (w : World) : (Instr.makeSlice 94 (.int .i64 n) (.int .i64 n)).run Tryz.prog w = .ok (.slice (some ⟨w.heap.size, 0, none⟩) n n) (w.alloc (.cells (List.replicate n (.map none)).toArray 93)) := by
  obtain ⟨i0, hi0, hz0, hz1, hz2⟩ := info_parts info101
  have := run_makeSlice (P := Tryz.prog) w 94 93 i0 _ Tryz.underlying94 hi0 hz0 .i64 .i64 n n (by omega) (by omega) (by rw [hz1]; omega) (by rw [hz2]; omega) (by omega)
  rw [hz1] at this
  simp only [Int.toNat_natCast, Nat.mul_one] at this
  have e : madeCells (Value.map none).cells n = (List.replicate n (Value.map none)).toArray := by
    apply Array.ext
    · simp [madeCells]
    · intro i h1 h2
      simp [madeCells, Value.cells, Nat.mod_one]
  rw [e] at this
  exact this
/-- The blocks that are made first. -/
structure EdIn (w : World) (n : Nat) (wx : World) (l gr gu gd : Nat) : Prop where
  below : Below w.heap.size w wx
  box : wx.heap[l]? = some (.cells #[.slice (some ⟨gr, 0, none⟩) n n, .slice (some ⟨gu, 0, none⟩) n n, .slice (some ⟨gd, 0, none⟩) n n] 96 (0, 0))
  rks : wx.heap[gr]? = some (.cells (Array.replicate n (.int .i64 0)) 3 (0, 0))
  ups : wx.heap[gu]? = some (.cells (Array.replicate n (.map none)) 93 (0, 0))
  dns : wx.heap[gd]? = some (.cells (Array.replicate n (.map none)) 93 (0, 0))
  apart : gu ≠ gd
  ge : w.heap.size ≤ l ∧ w.heap.size ≤ gr ∧ w.heap.size ≤ gu ∧ w.heap.size ≤ gd
theorem ed_mk {w X : World} {n l gr gu gd : Nat} (hl : l = X.heap.size) (hb : Below w.heap.size w X) (hr : X.heap[gr]? = some (.cells (Array.replicate n (.int .i64 0)) 3 (0, 0))) (hu : X.heap[gu]? = some (.cells (Array.replicate n (.map none)) 93 (0, 0))) (hd : X.heap[gd]? = some (.cells (Array.replicate n (.map none)) 93 (0, 0))) (ha : gu ≠ gd) (hge : w.heap.size ≤ gr ∧ w.heap.size ≤ gu ∧ w.heap.size ≤ gd) :
    EdIn w n (X.alloc (.cells #[.slice (some ⟨gr, 0, none⟩) n n, .slice (some ⟨gu, 0, none⟩) n n, .slice (some ⟨gd, 0, none⟩) n n] 96)).drew l gr gu gd := by
  have old : ∀ {k t : Nat} {c : Array Value}, X.heap[k]? = some (.cells c t (0, 0)) → (X.alloc (.cells #[.slice (some ⟨gr, 0, none⟩) n n, .slice (some ⟨gu, 0, none⟩) n n, .slice (some ⟨gd, 0, none⟩) n n] 96)).heap[k]? = some (.cells c t (0, 0)) := fun hk => (Below.heap_alloc _ _ _ (Array.getElem?_eq_some_iff.1 hk).1).trans hk
  subst hl
  exact ⟨(hb.alloc hb.size _).drew, heap_alloc_new _ _, old hr, old hu, old hd, ha, hb.size, hge⟩
def halfV (n i : Nat) (m : Nat → Nat) : List Value := (List.range n).map fun q => if q < i then .map (some (m q)) else .map none
theorem halfV_zero (n : Nat) (m : Nat → Nat) : halfV n 0 m = List.replicate n (.map none) := by
  apply List.ext_getElem
  · simp [halfV]
  · intro i h1 h2
    simp [halfV]
theorem halfV_all (n : Nat) (m : Nat → Nat) : halfV n n m = mapsV n m := by
  unfold halfV mapsV
  exact List.map_congr_left fun q hq => by rw [if_pos (List.mem_range.1 hq)]
def updM (f : Nat → Nat) (a x : Nat) : Nat → Nat := fun b => if b = a then x else f b
theorem halfV_set {n i : Nat} (m : Nat → Nat) (N : Nat) : (halfV n i m).set i (.map (some N)) = halfV n (i + 1) (updM m i N) := by
  apply List.ext_getElem
  · simp [halfV]
  · intro j h1 h2
    rw [List.getElem_set]
    simp only [halfV, List.getElem_map, List.getElem_range, updM]
    by_cases e : i = j
    · subst e; simp
    · rw [if_neg e]
      by_cases e3 : j < i
      · rw [if_pos e3, if_pos (by omega), if_neg (fun e2 => e e2.symm)]
      · rw [if_neg e3, if_neg (by omega)]
/-- While the maps are made: those of the first i places are there. -/
structure EdLp (n : Nat) (w : World) (l gr gu gd i : Nat) (mu md : Nat → Nat) (wr : World) : Prop where
  box : wr.heap[l]? = some (.cells #[.slice (some ⟨gr, 0, none⟩) n n, .slice (some ⟨gu, 0, none⟩) n n, .slice (some ⟨gd, 0, none⟩) n n] 96 (0, 0))
  rks : wr.heap[gr]? = some (.cells (Array.replicate n (.int .i64 0)) 3 (0, 0))
  ups : wr.heap[gu]? = some (.cells (halfV n i mu).toArray 93 (0, 0))
  dns : wr.heap[gd]? = some (.cells (halfV n i md).toArray 93 (0, 0))
  hmu : ∀ q, q < i → MapAt n wr (mu q) (fun _ => none) ∧ w.heap.size ≤ mu q
  hmd : ∀ q, q < i → MapAt n wr (md q) (fun _ => none) ∧ w.heap.size ≤ md q
  uu : ∀ p q, p < i → q < i → mu p = mu q → p = q
  dd : ∀ p q, p < i → q < i → md p = md q → p = q
  ud : ∀ p q, p < i → q < i → mu p ≠ md q
  apart : gu ≠ gd
  ge : w.heap.size ≤ l ∧ w.heap.size ≤ gr ∧ w.heap.size ≤ gu ∧ w.heap.size ≤ gd
  below : Below w.heap.size w wr
theorem edlp_zero {n l gr gu gd : Nat} {w wx : World} (h : EdIn w n wx l gr gu gd) : EdLp n w l gr gu gd 0 (fun _ => 0) (fun _ => 0) wx :=
  ⟨h.box, h.rks, by rw [halfV_zero, List.toArray_replicate]; exact h.ups, by rw [halfV_zero, List.toArray_replicate]; exact h.dns, fun q hq => absurd hq (Nat.not_lt_zero _), fun q hq => absurd hq (Nat.not_lt_zero _), fun p q hp => absurd hp (Nat.not_lt_zero _), fun p q hp => absurd hp (Nat.not_lt_zero _), fun p q hp => absurd hp (Nat.not_lt_zero _), h.apart, h.ge, h.below⟩
theorem ed_next {n l gr gu gd i N M : Nat} {mu md : Nat → Nat} {w wr W1 W2 W3 : World} (h : EdLp n w l gr gu gd i mu md wr) (hi : i < n) (hN : wr.heap.size = N) (hW1 : wr.alloc (.map #[] 0) = W1) (hW2 : W1.setCell ⟨gu, i, none⟩ (.map (some N)) = W2) (hM : W2.heap.size = M) (hW3 : W2.alloc (.map #[] 0) = W3) :
    EdLp n w l gr gu gd (i + 1) (updM mu i N) (updM md i M) (W3.setCell ⟨gd, i, none⟩ (.map (some M))) ∧ W1.cell? ⟨gu, i, none⟩ = some (.map none) ∧ W1.frozen? ⟨gu, i, none⟩ = false ∧ W1.cell? ⟨l, 2, none⟩ = some (.slice (some ⟨gd, 0, none⟩) n n) ∧ W3.cell? ⟨gd, i, none⟩ = some (.map none) ∧ W3.frozen? ⟨gd, i, none⟩ = false ∧ W1.cell? ⟨gd, i, none⟩ = some (.map none) := by
  have lt : ∀ {k : Nat} {o : Obj}, wr.heap[k]? = some o → k < wr.heap.size := fun hk => (Array.getElem?_eq_some_iff.1 hk).1
  have a1 : ∀ {k : Nat} {o : Obj}, wr.heap[k]? = some o → W1.heap[k]? = some o := fun hk => by rw [← hW1, Below.heap_alloc _ _ _ (lt hk)]; exact hk
  have a2 : ∀ {k : Nat} {o : Obj}, wr.heap[k]? = some o → k ≠ gu → W2.heap[k]? = some o := fun hk hne => by rw [← hW2, heap_setCell_other _ _ _ _ hne]; exact a1 hk
  have s2 : W2.heap.size = wr.heap.size + 1 := by rw [← hW2, ← hW1]; simp [World.setCell]
  have a3 : ∀ {k : Nat} {o : Obj}, wr.heap[k]? = some o → k ≠ gu → W3.heap[k]? = some o := fun hk hne => by rw [← hW3, Below.heap_alloc _ _ _ (by rw [s2]; have := lt hk; omega)]; exact a2 hk hne
  have a4 : ∀ {k : Nat} {o : Obj}, wr.heap[k]? = some o → k ≠ gu → k ≠ gd → (W3.setCell ⟨gd, i, none⟩ (.map (some M))).heap[k]? = some o := fun hk hne hnd => by rw [heap_setCell_other _ _ _ _ hnd]; exact a3 hk hne
  have gu3 : W3.heap[gu]? = some (.cells (halfV n (i + 1) (updM mu i N)).toArray 93 (0, 0)) := by
    rw [← hW3, Below.heap_alloc _ _ _ (by rw [s2]; have := lt h.ups; omega), ← hW2, heap_setCell_same _ _ i _ _ _ (a1 h.ups), List.setIfInBounds_toArray, halfV_set]
  have gd3 := a3 h.dns (fun e => h.apart e.symm)
  have nl1 : l ≠ gu := fun e => by have h1 := h.box; rw [e, h.ups] at h1; simp at h1
  have nl2 : l ≠ gd := fun e => by have h1 := h.box; rw [e, h.dns] at h1; simp at h1
  have nr1 : gr ≠ gu := fun e => by have h1 := h.rks; rw [e, h.ups] at h1; simp at h1
  have nr2 : gr ≠ gd := fun e => by have h1 := h.rks; rw [e, h.dns] at h1; simp at h1
  have mnu : ∀ {m : Nat} {F : Nat → Option Value}, MapAt n wr m F → m ≠ gu ∧ m ≠ gd := fun hm => ⟨fun e => hm.ne_cells h.ups e.symm, fun e => hm.ne_cells h.dns e.symm⟩
  have keep : ∀ {m : Nat} {F : Nat → Option Value}, MapAt n wr m F → MapAt n (W3.setCell ⟨gd, i, none⟩ (.map (some M))) m F := fun hm => hm.of_block (by
    obtain ⟨es, cl, e⟩ := hm.isMap
    rw [e]; exact a4 e (mnu hm).1 (mnu hm).2)
  have newN : MapAt n (W3.setCell ⟨gd, i, none⟩ (.map (some M))) N fun _ => none := by
    have h0 := MapAt.made n wr
    rw [hN, hW1] at h0
    have hlt1 : gu < N := by rw [← hN]; exact lt h.ups
    have hlt2 : gd < N := by rw [← hN]; exact lt h.dns
    refine h0.of_block ?_
    rw [heap_setCell_other _ _ _ _ (show N ≠ gd by omega), ← hW3, Below.heap_alloc _ _ _ (by rw [s2]; omega), ← hW2, heap_setCell_other _ _ _ _ (show N ≠ gu by omega)]
  have newM : MapAt n (W3.setCell ⟨gd, i, none⟩ (.map (some M))) M fun _ => none := by
    have h0 := MapAt.made n W2
    rw [hM, hW3] at h0
    have hlt2 : gd < wr.heap.size := lt h.dns
    exact h0.of_block (heap_setCell_other _ _ _ _ (show M ≠ gd by omega))
  have oldlt : ∀ q, q < i → mu q < N ∧ md q < N := fun q hq => ⟨by rw [← hN]; exact (h.hmu q hq).1.lt, by rw [← hN]; exact (h.hmd q hq).1.lt⟩
  have us : ∀ (f : Nat → Nat) (x : Nat), updM f i x i = x := fun f x => if_pos rfl
  have uo : ∀ (f : Nat → Nat) (x q : Nat), q ≠ i → updM f i x q = f q := fun f x q hq => if_neg hq
  refine ⟨⟨a4 h.box nl1 nl2, a4 h.rks nr1 nr2, by rw [heap_setCell_other _ _ _ _ h.apart]; exact gu3, by rw [heap_setCell_same _ _ i _ _ _ gd3, List.setIfInBounds_toArray, halfV_set], fun q hq => ?_, fun q hq => ?_, fun p q hp hq e => ?_, fun p q hp hq e => ?_, fun p q hp hq e => ?_, h.apart, h.ge, ?_⟩, ?_, ?_, ?_, ?_, ?_, ?_⟩
  · by_cases e : q = i
    · subst e; rw [us]; exact ⟨newN, by rw [← hN]; exact h.below.size⟩
    · rw [uo _ _ _ e]; exact ⟨keep (h.hmu q (by omega)).1, (h.hmu q (by omega)).2⟩
  · by_cases e : q = i
    · subst e; rw [us]; exact ⟨newM, by have := h.below.size; omega⟩
    · rw [uo _ _ _ e]; exact ⟨keep (h.hmd q (by omega)).1, (h.hmd q (by omega)).2⟩
  · by_cases ep : p = i
    · by_cases eq : q = i
      · omega
      · subst ep; rw [us, uo _ _ _ eq] at e; have := oldlt q (by omega); omega
    · by_cases eq : q = i
      · subst eq; rw [us, uo _ _ _ ep] at e; have := oldlt p (by omega); omega
      · rw [uo _ _ _ ep, uo _ _ _ eq] at e; exact h.uu p q (by omega) (by omega) e
  · by_cases ep : p = i
    · by_cases eq : q = i
      · omega
      · subst ep; rw [us, uo _ _ _ eq] at e; have := oldlt q (by omega); omega
    · by_cases eq : q = i
      · subst eq; rw [us, uo _ _ _ ep] at e; have := oldlt p (by omega); omega
      · rw [uo _ _ _ ep, uo _ _ _ eq] at e; exact h.dd p q (by omega) (by omega) e
  · by_cases ep : p = i
    · by_cases eq : q = i
      · subst ep; subst eq; rw [us, us] at e; omega
      · subst ep; rw [us, uo _ _ _ eq] at e; have := oldlt q (by omega); omega
    · by_cases eq : q = i
      · subst eq; rw [us, uo _ _ _ ep] at e; have := oldlt p (by omega); omega
      · rw [uo _ _ _ ep, uo _ _ _ eq] at e; exact h.ud p q (by omega) (by omega) e
  · have b1 : Below w.heap.size w W1 := hW1 ▸ h.below.alloc h.below.size _
    have b2 : Below w.heap.size w W2 := hW2 ▸ b1.setCell h.ge.2.2.1 _
    have b3 : Below w.heap.size w W3 := hW3 ▸ b2.alloc b2.size _
    exact b3.setCell h.ge.2.2.2 _
  · rw [cell_of_row W1 gu i _ _ _ (a1 h.ups)]; simp [halfV, hi]
  · exact frozen_of_row W1 gu i _ _ (a1 h.ups)
  · rw [cell_of_row W1 l 2 _ _ _ (a1 h.box)]; rfl
  · rw [cell_of_row W3 gd i _ _ _ gd3]; simp [halfV, hi]
  · exact frozen_of_row W3 gd i _ _ gd3
  · rw [cell_of_row W1 gd i _ _ _ (a1 h.dns)]; simp [halfV, hi]
/-- The edges as links. -/
def edM (n : Nat) (W : Nat → Nat → Option Int) : Mx := fun a c => if a < n ∧ c < n then (W a c).map fun x => (x, -1) else none
def lnkE (p : Nat) (R : List (Int × Int)) : List Lnk := R.map fun e => (p, e.1.toNat, (e.2, -1))
def allE (n : Nat) (W : Nat → Nat → Option Int) (i : Nat) : List Lnk := (List.range i).flatMap fun p => lnkE p (rowM n W p)
theorem jn_app (U : Mx) (L M : List Lnk) : jn U (L ++ M) = jn (jn U L) M := by
  induction L generalizing U with
  | nil => rfl
  | cons h r ih => exact ih _
theorem allE_succ (n : Nat) (W : Nat → Nat → Option Int) (i : Nat) : allE n W (i + 1) = allE n W i ++ lnkE i (rowM n W i) := by
  unfold allE
  rw [List.range_succ, List.flatMap_append]
  simp
theorem mem_allE {n : Nat} {W : Nat → Nat → Option Int} {i : Nat} {k : Lnk} : k ∈ allE n W i ↔ ∃ x, k.1 < i ∧ k.2.1 < n ∧ W k.1 k.2.1 = some x ∧ k.2.2 = (x, -1) := by
  unfold allE lnkE
  rw [List.mem_flatMap]
  constructor
  · rintro ⟨p, hp, hk⟩
    obtain ⟨e, he, rfl⟩ := List.mem_map.1 hk
    obtain ⟨q, v, hq, hv, rfl⟩ := mem_rowM.1 he
    exact ⟨v, List.mem_range.1 hp, by simpa using hq, by simpa using hv, rfl⟩
  · rintro ⟨x, h1, h2, h3, h4⟩
    obtain ⟨a, c, v⟩ := k
    simp only at h1 h2 h3 h4
    refine ⟨a, List.mem_range.2 h1, List.mem_map.2 ⟨((c : Int), x), mem_rowM.2 ⟨c, x, h2, h3, rfl⟩, ?_⟩⟩
    rw [h4]
    simp
theorem jn_allE (n : Nat) (W : Nat → Nat → Option Int) : jn (fun _ _ => none) (allE n W n) = edM n W := by
  funext a c
  unfold edM
  by_cases h : a < n ∧ c < n
  · rw [if_pos h]
    cases e : W a c with
    | none =>
      refine jn_out fun k hk e2 => ?_
      obtain ⟨x, _, _, h3, _⟩ := mem_allE.1 hk
      rw [e2.1, e2.2, e] at h3
      cases h3
    | some x =>
      refine jn_in (mem_allE.2 ⟨x, h.1, h.2, e, rfl⟩) fun k hk e1 e2 => ?_
      obtain ⟨x', _, _, h3, h4⟩ := mem_allE.1 hk
      rw [e1, e2, e] at h3
      cases h3
      exact h4
  · rw [if_neg h]
    refine jn_out fun k hk e2 => ?_
    obtain ⟨x, h1, h2, _⟩ := mem_allE.1 hk
    exact h ⟨by omega, by omega⟩
theorem edlp_end {n l gr gu gd : Nat} {mu md : Nat → Nat} {w wr : World} (h : EdLp n w l gr gu gd n mu md wr) : LfA n wr ⟨l, gr, gu, gd, mu, md⟩ (fun _ => 0) (fun _ _ => none) (fun _ _ => none) ∧ (∀ k, LfB.S ⟨l, gr, gu, gd, mu, md⟩ n k → w.heap.size ≤ k) := by
  refine ⟨⟨h.box, ?_, by have := h.ups; rw [halfV_all] at this; exact this, by have := h.dns; rw [halfV_all] at this; exact this, fun p hp => (h.hmu p hp).1, fun p hp => (h.hmd p hp).1, h.uu, h.dd, h.ud, h.apart⟩, fun k hk => ?_⟩
  · have e : ((List.range n).map fun _ => Value.int .i64 0) = List.replicate n (.int .i64 0) := by
      apply List.ext_getElem
      · simp
      · intro i h1 h2
        simp
    show wr.heap[gr]? = some (.cells ((List.range n).map fun _ => Value.int .i64 0).toArray 3 (0, 0))
    rw [e, List.toArray_replicate]
    exact h.rks
  · rcases hk with rfl | rfl | rfl | rfl | ⟨p, hp, rfl | rfl⟩
    · exact h.ge.1
    · exact h.ge.2.1
    · exact h.ge.2.2.1
    · exact h.ge.2.2.2
    · exact (h.hmu p hp).2
    · exact (h.hmd p hp).2
/-- While edges come. -/
structure EeIn (n : Nat) (w : World) (b : LfB) (U : Mx) (wr : World) : Prop where
  lf : LfA n wr b (fun _ => 0) U U
  gb : ∀ k, b.S n k → w.heap.size ≤ k
  below : Below w.heap.size w wr
theorem EeIn.later {n : Nat} {w wr w' : World} {b : LfB} {U : Mx} (h : EeIn n w b U wr) (f : Below wr.heap.size wr w') : EeIn n w b U w' := ⟨h.lf.later f, h.gb, h.below.trans (f.mono h.below.size)⟩
set_option maxRecDepth 100000 in
set_option maxHeartbeats 6400000 in
theorem edges_any {w : World} {g n : Nat} {W : Nat → Nat → Option Int} (h : GAt w g n W) (hn : 1 ≤ n ∧ n ≤ 32) (hW : WOk n W) :
    Calls Tryz.prog 29 #[.pointer (some ⟨g, 0, none⟩)] w fun e w' => ∃ b : LfB, e = .returned (.pointer (some ⟨b.l, 0, none⟩)) ∧ LfA n w' b (fun _ => 0) (edM n W) (edM n W) ∧ (∀ k, b.S n k → w.heap.size ≤ k) ∧ Below w.heap.size w w' := by
  have HG := hide h
  have HN := hide hn
  have HPL := hide (places_any h)
  have hmi := fun w => made_ints n hn.2 w
  have hmm := fun w => made_maps n hn.2 w
  clear h
  go_enter Tryz.func29, Tryz.ntmps29
  go_upto_region 2 with (go_at_call 51; refine HPL.out.mono ?_; rintro e w' ⟨rfl, hw⟩; rw [hw]; clear hw)
  go_cut [4] from 11 to 18 (fun v4 wx => ∃ l gr gu gd, v4 = .pointer (some ⟨l, 0, none⟩) ∧ Hid (EdIn w n wx l gr gu gd))
  case first =>
    go_region
    all_goals
      go_wp2_with fail
      go_meet
      case rel =>
        refine ⟨_, _, _, _, rfl, ed_mk ?_ ?_ ?_ ?_ ?_ ?_ ?_⟩
        case refine_2 => repeat first | exact Below.refl _ _ | refine below_drewN2 ?_ _ | refine below_alloc2 ?_ _
        case refine_6 => omega
        case refine_7 => omega
        case refine_1 => simp only [size_alloc]
        all_goals repeat first | (refine at_new ?_; simp only [size_alloc]; done) | refine at_drew ?_ | (refine at_old ?_ ?_; (simp only [size_alloc]; omega))
  case rest =>
    obtain ⟨l, gr, gu, gd, rfl, HB⟩ := hcut
    have HS := hide (edlp_zero HB.out)
    clear HB hmi hmm
    go_wp2
    go_loopw [20] (fun vi wr => ∃ (i : Nat) (mu md : Nat → Nat), vi = .int .i64 i ∧ i ≤ n ∧ Hid (EdLp n w l gr gu gd i mu md wr)) (fun vi _ => n - (intOf vi).toNat)
    case atStart => exact ⟨0, _, _, rfl, Nat.zero_le _, HS.out⟩
    case round =>
      clear HS
      obtain ⟨i, mu, md, rfl, hi, HR⟩ := hrel
      by_cases hin : i < n
      · have i1 : (i : Int) < (n : Int) := by omega
        have c1 := cell_of_row wr l 1 _ _ _ HR.out.box
        have c2 := cell_of_row wr l 2 _ _ _ HR.out.box
        simp only [List.getElem?_toArray, List.getElem?_cons_succ, List.getElem?_cons_zero] at c1 c2
        have u1 : wr.cell? ⟨gu, i, none⟩ = some (.map none) := by rw [cell_of_row wr gu i _ _ _ HR.out.ups]; simp [halfV, hin]
        have u2 : wr.cell? ⟨gd, i, none⟩ = some (.map none) := by rw [cell_of_row wr gd i _ _ _ HR.out.dns]; simp [halfV, hin]
        have z1 := frozen_of_row wr gu i _ _ HR.out.ups
        have z2 := frozen_of_row wr gd i _ _ HR.out.dns
        have n1 : ¬ gu = gd := HR.out.apart
        have n2 : ¬ gd = gu := fun e => HR.out.apart e.symm
        have n3 : ¬ gu = l := fun e => by have h1 := HR.out.box; rw [← e, HR.out.ups] at h1; simp at h1
        have n4 : ¬ l = gu := fun e => n3 e.symm
        obtain ⟨N, hN⟩ : ∃ N, wr.heap.size = N := ⟨_, rfl⟩
        obtain ⟨W1, hW1⟩ : ∃ W1, wr.alloc (.map #[] 0) = W1 := ⟨_, rfl⟩
        have mkA : (Instr.makeMap 93 none).run Tryz.prog wr = .ok (.map (some N)) W1 := by rw [← hN, ← hW1]; rfl
        obtain ⟨W2, hW2⟩ : ∃ W2, W1.setCell ⟨gu, i, none⟩ (.map (some N)) = W2 := ⟨_, rfl⟩
        obtain ⟨M, hM⟩ : ∃ M, W2.heap.size = M := ⟨_, rfl⟩
        obtain ⟨W3, hW3⟩ : ∃ W3, W2.alloc (.map #[] 0) = W3 := ⟨_, rfl⟩
        have mkB : (Instr.makeMap 93 none).run Tryz.prog (W1.setCell ⟨gu, i, none⟩ (.map (some N))) = .ok (.map (some M)) W3 := by rw [hW2, ← hM, ← hW3]; rfl
        obtain ⟨hE, f1, f2, f3, f4, f5, f6⟩ := ed_next HR.out hin hN hW1 hW2 hM hW3
        have HE := hide hE
        clear hE HR hN hW1 hW2 hM hW3 u1 u2 z1 z2 c2
        go_wp2
        go_roundw
        case rel => exact ⟨i + 1, _, _, by go_num, by omega, HE.out⟩
        case measure => simp [intOf]; omega
      · have e : i = n := by omega
        have i1 : ¬ (i : Int) < (n : Int) := by omega
        subst e
        obtain ⟨hl, hg⟩ := edlp_end HR.out
        have HS : Hid (EeIn i w ⟨l, gr, gu, gd, mu, md⟩ (jn (fun _ _ => none) (allE i W 0)) wr) := ⟨hl, hg, HR.out.below⟩
        obtain ⟨b, hb⟩ : ∃ b : LfB, b = ⟨l, gr, gu, gd, mu, md⟩ := ⟨_, rfl⟩
        have hbl : l = b.l := by rw [hb]
        rw [← hb] at HS
        rw [hbl]
        clear hl hg HR hb hbl
        go_wp2
        go_loopw [39] (fun vi wr => ∃ p : Nat, vi = .int .i64 p ∧ p ≤ i ∧ Hid (EeIn i w b (jn (fun _ _ => none) (allE i W p)) wr)) (fun vi _ => i - (intOf vi).toNat)
        case atStart => exact ⟨0, rfl, Nat.zero_le _, HS.out⟩
        case round =>
          clear HS
          obtain ⟨p, rfl, hp, HR⟩ := hrel
          by_cases hpn : p < i
          · have i2 : (p : Int) < (i : Int) := by omega
            have HZ : Hid (rowZ i W p = rowM i W p) := by show _ = _; unfold rowZ; rw [if_pos (by omega)]; rfl
            have HO := hide (out_any (HG.out.later HR.out.below) HN.out p)
            rw [HZ.out] at HO
            have hRl := rowM_len i W p
            have HSU := hide (allE_succ i W p)
            have HPN := hide hpn
            have HMEM : Hid (∀ c, c < (rowM i W p).length → ∃ (q : Nat) (x : Int), q < i ∧ (rowM i W p)[c]! = ((q : Int), x) ∧ (lnkE p (rowM i W p))[c]! = (p, q, (x, -1))) := fun c hc => by
              have hm : (rowM i W p)[c]! ∈ rowM i W p := by rw [getElem!_pos _ c hc]; exact List.getElem_mem _
              obtain ⟨q, x, h1, _, h3⟩ := mem_rowM.1 hm
              refine ⟨q, x, h1, h3, ?_⟩
              unfold lnkE
              rw [getElem!_pos _ c (by simpa using hc), List.getElem_map, ← getElem!_pos (rowM i W p) c hc, h3]
              simp
            have HLE : Hid ((lnkE p (rowM i W p)).length = (rowM i W p).length) := by show _ = _; simp [lnkE]
            generalize rowM i W p = R at HO hRl HSU HMEM HLE
            go_wp2_with (go_at_call 58; refine HO.out.mono ?_; rintro e w2 ⟨v, rfl, h1, h2⟩; obtain ⟨va, vc, rfl⟩ : ∃ a c, v = .slice a R.length c := (by rcases h1.2 with ⟨e, e2⟩ | ⟨g, cap, cur, e, _⟩; exact ⟨none, 0, by rw [e, e2]⟩; exact ⟨_, cap, e⟩); have H2 : Hid (EeIn i w b (jn (jn (fun _ _ => none) (allE i W p)) ((lnkE p R).take 0)) w2 ∧ w2.ownsRow wr.heap.size 75 2 (.slice va R.length vc) R.length (flatE R) ∧ ∀ k, b.S i k → k < wr.heap.size) := ⟨HR.out.later h2, h1, fun k hk => HR.out.lf.lt hk⟩; clear h1 h2)
            obtain ⟨B2, hB2⟩ : ∃ B2, wr.heap.size = B2 := ⟨_, rfl⟩
            rw [hB2] at H2
            generalize hU0 : jn (fun _ _ => none) (allE i W p) = U0 at H2 HR
            have HU0 := hide hU0
            clear hU0
            clear HO HR hB2
            go_loopw [46] (fun vi wr => ∃ c : Nat, vi = .int .i64 c ∧ c ≤ R.length ∧ Hid (EeIn i w b (jn U0 ((lnkE p R).take c)) wr ∧ wr.ownsRow B2 75 2 (.slice va R.length vc) R.length (flatE R) ∧ ∀ k, b.S i k → k < B2)) (fun vi _ => R.length - (intOf vi).toNat)
            case atStart => exact ⟨0, rfl, Nat.zero_le _, H2.out⟩
            case round =>
              clear H2
              obtain ⟨c, rfl, hc, HR⟩ := hrel
              by_cases hcl : c < R.length
              · obtain ⟨q, x, hq, hRc, hLc⟩ := HMEM.out c hcl
                obtain ⟨gb, hva, d0, d1⟩ : ∃ gb, va = some ⟨gb, 0, none⟩ ∧ wr.cell? ⟨gb, c * 2, none⟩ = some (.int .i64 q) ∧ wr.cell? ⟨gb, c * 2 + 1, none⟩ = some (.int .i64 x) := by
                  have hr := HR.out.2.1
                  rcases hr.2 with ⟨_, e2⟩ | ⟨gb, cap, cur, e0, hb, _⟩
                  · omega
                  · cases e0
                    have f := flatE_get R c hcl
                    rw [hRc] at f
                    exact ⟨gb, rfl, by rw [hr.cellAt _ (by omega)]; exact f.1, by rw [hr.cellAt _ (by omega)]; exact f.2⟩
                subst hva
                have i3 : (c : Int) < (R.length : Int) := by omega
                have hf : Below wr.heap.size wr (wr.alloc (.cells #[.int .i64 q, .int .i64 x] 75)) := (Below.refl _ _).alloc (Nat.le_refl _) _
                have HLA := hide (HR.out.1.later hf)
                have HJN := hide (join_any HLA.out.lf HN.out.2 HPN.out hq x (-1))
                have HRA := hide (own_of_block HR.out.2.1 fun k hk => hf.block k (HR.out.2.1.lt k hk).2)
                have HLT := hide HR.out.2.2
                have HT := hide (jn_take U0 (lnkE p R) c (by rw [HLE.out]; exact hcl))
                rw [hLc] at HT
                simp only at HT
                clear hf HR hRc hLc
                go_wp2_with (go_at_call 59; refine HJN.out.mono ?_; rintro e w3 ⟨rfl, h1, h2⟩; have H3 : Hid (EeIn i w b (jn U0 ((lnkE p R).take (c + 1))) w3 ∧ w3.ownsRow B2 75 2 (.slice (some ⟨gb, 0, none⟩) R.length vc) R.length (flatE R) ∧ ∀ k, b.S i k → k < B2) := ⟨⟨by rw [HT.out]; exact h1, HLA.out.gb, HLA.out.below.trans (h2.below HLA.out.below.size HLA.out.gb)⟩, own_of_block HRA.out fun k hk => h2.block k (HRA.out.lt k hk).2 (fun e => by have := HLT.out k e; have := (HRA.out.lt k hk).1; omega), HLT.out⟩; clear h1 h2)
                go_roundw
                case rel => exact ⟨c + 1, by go_num, by omega, H3.out⟩
                case measure => simp [intOf]; omega
              · have e : c = R.length := by omega
                have i3 : ¬ (c : Int) < (R.length : Int) := by omega
                have HE : Hid (EeIn i w b (jn U0 (lnkE p R)) wr) := by
                  have := HR.out.1
                  rw [e, List.take_of_length_le (by rw [HLE.out]; exact Nat.le_refl _)] at this
                  exact this
                replace e := hide e
                clear HR
                go_wp2
                go_roundw
                case rel => exact ⟨p + 1, by go_num, by have := HPN.out; omega, by rw [HSU.out, jn_app, HU0.out]; exact HE.out⟩
                case measure => have := HPN.out; simp [intOf]; omega
          · have e : p = i := by omega
            have i2 : ¬ (p : Int) < (i : Int) := by omega
            have HE : Hid (EeIn i w b (edM i W) wr) := by
              have := HR.out
              rw [e, jn_allE] at this
              exact this
            replace e := hide e
            clear HR
            go_wp2
            go_ret
            exact ⟨b, rfl, HE.out.lf, HE.out.gb, HE.out.below⟩
end Go.Proofs.YtojkdmkeankcgaaGreat
/-  The places that wait, by their burden: the plain keys, and what the calls of next and ease do. -/
namespace Go.Proofs.YtojkdmkeankcgaaGreat
open Go.RowKit Go.Sort
open Qu (Pr Dis items dropM putM Least look_none look_some dis_put dis_drop)

/-! ### plain -/
/-- X holds just the keys of Q. -/
structure QKeys (n : Nat) (X : List Pr) (Q : Nat → Option Int) : Prop where
  mem : ∀ y, y ∈ X ↔ ∃ v : Nat, y.1 = (v : Int) ∧ Q v = some y.2
  ok : ∀ v k, Q v = some k → v < n ∧ 0 ≤ k ∧ k ≤ 1024
def putQ (Q : Nat → Option Int) (v : Nat) (k : Int) : Nat → Option Int := upd Q v (some (match Q v with | none => k | some j => if k < j then k else j))
structure LeastQ (Q : Nat → Option Int) (p : Nat) (k : Int) : Prop where
  at_ : Q p = some k
  least : ∀ v j, Q v = some j → k < j ∨ (k = j ∧ p ≤ v)
/-- The place that is lifted next, and the keys behind it. -/
inductive Next (bu : Nat → Nat) : (Nat → Option Int) → Nat → (Nat → Option Int) → Prop where
  | stop {Q : Nat → Option Int} {p : Nat} {k : Int} : LeastQ Q p k → k = bu p → Next bu Q p (upd Q p none)
  | on {Q Q' : Nat → Option Int} {p p' : Nat} {k : Int} : LeastQ Q p k → k ≠ bu p → Next bu (putQ (upd Q p none) p (bu p)) p' Q' → Next bu Q p' Q'
theorem LeastQ.eq {Q : Nat → Option Int} {p q : Nat} {k j : Int} (h : LeastQ Q p k) (h' : LeastQ Q q j) : p = q ∧ k = j := by
  rcases h.least q j h'.at_ with a | ⟨a, b⟩
  · rcases h'.least p k h.at_ with c | ⟨c, d⟩ <;> omega
  · rcases h'.least p k h.at_ with c | ⟨c, d⟩
    · omega
    · exact ⟨by omega, a⟩
theorem Next.eq {bu : Nat → Nat} {Q : Nat → Option Int} {p : Nat} {Q1 : Nat → Option Int} (h : Next bu Q p Q1) : ∀ {p' : Nat} {Q2 : Nat → Option Int}, Next bu Q p' Q2 → p = p' ∧ Q1 = Q2 := by
  induction h with
  | stop hl hk =>
    intro p' Q2 h'
    cases h' with
    | stop hl' hk' => obtain ⟨rfl, rfl⟩ := hl.eq hl'; exact ⟨rfl, rfl⟩
    | on hl' hk' _ => obtain ⟨rfl, rfl⟩ := hl.eq hl'; exact absurd hk hk'
  | on hl hk _ ih =>
    intro p' Q2 h'
    cases h' with
    | stop hl' hk' => obtain ⟨rfl, rfl⟩ := hl.eq hl'; exact absurd hk' hk
    | on hl' hk' h2 => obtain ⟨rfl, rfl⟩ := hl.eq hl'; exact ih h2
/-- The places that Q holds, but p. -/
theorem Next.dom {bu : Nat → Nat} {Q Q' : Nat → Option Int} {p : Nat} (h : Next bu Q p Q') : (Q p).isSome = true ∧ ∀ v, (Q' v).isSome = ((Q v).isSome && !(v == p)) := by
  induction h with
  | @stop Q p k hl hk =>
    refine ⟨by rw [hl.at_]; rfl, fun v => ?_⟩
    by_cases e : v = p
    · subst e; rw [upd_same]; simp
    · rw [upd_other _ _ e]; simp [e]
  | @on Q Q' p p' k hl hk _ ih =>
    have key : ∀ v, (putQ (upd Q p none) p (bu p) v).isSome = (Q v).isSome := fun v => by
      unfold putQ
      by_cases e : v = p
      · subst e; rw [upd_same, hl.at_]; rfl
      · rw [upd_other _ _ e, upd_other _ _ e]
    exact ⟨by rw [← key]; exact ih.1, fun v => by rw [ih.2 v, key]⟩
section
variable {n : Nat} {X : List Pr} {Q : Nat → Option Int}
theorem QKeys.len (h : QKeys n X Q) (hd : Dis X) : X.length ≤ n := by
  have := nodup_len n (items X) hd (fun x hx => by
    obtain ⟨y, hy, rfl⟩ := List.mem_map.1 hx
    obtain ⟨v, e, hv⟩ := (h.mem y).1 hy
    have := (h.ok v _ hv).1
    omega)
  simpa [items] using this
theorem QKeys.drop (h : QKeys n X Q) (v : Nat) : QKeys n (dropM X v) (upd Q v none) := by
  refine ⟨fun y => ?_, fun u k e => ?_⟩
  · rw [mem_drop, h.mem]
    constructor
    · rintro ⟨⟨u, e1, e2⟩, e3⟩
      exact ⟨u, e1, by rw [upd_other _ _ (fun e => e3 (by rw [e1, e]))]; exact e2⟩
    · rintro ⟨u, e1, e2⟩
      by_cases e : u = v
      · subst e; rw [upd_same] at e2; cases e2
      · rw [upd_other _ _ e] at e2; exact ⟨⟨u, e1, e2⟩, by omega⟩
  · by_cases e2 : u = v
    · subst e2; rw [upd_same] at e; cases e
    · rw [upd_other _ _ e2] at e; exact h.ok u k e
theorem QKeys.put (h : QKeys n X Q) (hd : Dis X) (hl : X.length < 4096) {v : Nat} {k : Int} (hv : v < n) (hk : 0 ≤ k ∧ k ≤ 1024) : QKeys n (putM X v k).1 (putQ Q v k) := by
  have hlook : ∀ z, Qu.look X (v : Int) = some z ↔ z ∈ X ∧ z.1 = (v : Int) := fun z => look_some hd
  refine ⟨fun y => ?_, fun u j e => ?_⟩
  · unfold putM putQ
    cases hL : Qu.look X (v : Int) with
    | none =>
      have hQ : Q v = none := by
        cases e : Q v with
        | none => rfl
        | some j => exact absurd rfl (look_none.1 hL ((v : Int), j) ((h.mem _).2 ⟨v, rfl, e⟩))
      dsimp only
      rw [if_pos hl, hQ, List.mem_append, h.mem, List.mem_singleton]
      constructor
      · rintro (⟨u, e1, e2⟩ | rfl)
        · exact ⟨u, e1, by rw [upd_other _ _ (fun e => by subst e; rw [hQ] at e2; cases e2)]; exact e2⟩
        · exact ⟨v, rfl, upd_same _ _ _⟩
      · rintro ⟨u, e1, e2⟩
        by_cases e : u = v
        · subst e
          rw [upd_same] at e2
          simp only [Option.some.injEq] at e2
          exact .inr (by obtain ⟨y1, y2⟩ := y; simp only at e1 e2; rw [e1, e2])
        · rw [upd_other _ _ e] at e2
          exact .inl ⟨u, e1, e2⟩
    | some z =>
      obtain ⟨hz1, hz2⟩ := (hlook z).1 hL
      obtain ⟨z1, z2⟩ := z
      simp only at hz2
      subst hz2
      have hQ : Q v = some z2 := by
        obtain ⟨u, e1, e2⟩ := (h.mem _).1 hz1
        simp only at e1 e2
        have : u = v := by omega
        subst this
        exact e2
      dsimp only
      rw [hQ]
      by_cases hlt : k < z2
      · simp only [hlt, if_true]
        rw [List.mem_map]
        constructor
        · rintro ⟨x, hx, e⟩
          unfold Qu.repl at e
          by_cases hx1 : x.1 = (v : Int)
          · rw [if_pos hx1] at e
            subst e
            exact ⟨v, rfl, upd_same _ _ _⟩
          · rw [if_neg hx1] at e
            subst e
            obtain ⟨u, e1, e2⟩ := (h.mem _).1 hx
            exact ⟨u, e1, by rw [upd_other _ _ (fun e => hx1 (by rw [e1, e]))]; exact e2⟩
        · rintro ⟨u, e1, e2⟩
          by_cases e : u = v
          · subst e
            rw [upd_same] at e2
            simp only [Option.some.injEq] at e2
            refine ⟨((u : Int), z2), hz1, ?_⟩
            unfold Qu.repl
            rw [if_pos rfl]
            obtain ⟨y1, y2⟩ := y
            simp only at e1 e2
            rw [e1, e2]
          · rw [upd_other _ _ e] at e2
            refine ⟨y, (h.mem y).2 ⟨u, e1, e2⟩, ?_⟩
            unfold Qu.repl
            rw [if_neg (by omega)]
      · simp only [hlt, if_false]
        rw [h.mem]
        constructor
        · rintro ⟨u, e1, e2⟩
          by_cases e : u = v
          · subst e; rw [hQ] at e2; exact ⟨u, e1, by rw [upd_same]; exact e2⟩
          · exact ⟨u, e1, by rw [upd_other _ _ e]; exact e2⟩
        · rintro ⟨u, e1, e2⟩
          by_cases e : u = v
          · subst e; rw [upd_same] at e2; exact ⟨u, e1, by rw [hQ]; exact e2⟩
          · rw [upd_other _ _ e] at e2; exact ⟨u, e1, e2⟩
  · unfold putQ at e
    by_cases e2 : u = v
    · subst e2
      rw [upd_same] at e
      refine ⟨hv, ?_⟩
      cases hQ : Q u with
      | none => rw [hQ] at e; simp only [Option.some.injEq] at e; omega
      | some z =>
        rw [hQ] at e
        have := h.ok u z hQ
        simp only [Option.some.injEq] at e
        split at e <;> omega
    · rw [upd_other _ _ e2] at e; exact h.ok u j e
theorem QKeys.least (h : QKeys n X Q) {y : Pr} (hy : Least X y) : ∃ p : Nat, y.1 = (p : Int) ∧ p < n ∧ LeastQ Q p y.2 := by
  obtain ⟨p, e1, e2⟩ := (h.mem y).1 hy.1
  refine ⟨p, e1, (h.ok p _ e2).1, e2, fun v j e => ?_⟩
  have := of_decide_eq_false (hy.2 ((v : Int), j) ((h.mem _).2 ⟨v, rfl, e⟩))
  simp only at this
  omega
/-- How many keys are not the burden. -/
def wrong (bu : Nat → Nat) (Q : Nat → Option Int) : Nat → Option Unit := fun v => match Q v with
  | none => none
  | some k => if k = bu v then none else some ()
theorem wrong_less {bu : Nat → Nat} {p : Nat} {k : Int} (hp : p < n) (hQ : Q p = some k) (hk : k ≠ bu p) : num (wrong bu (putQ (upd Q p none) p (bu p))) n + 1 = num (wrong bu Q) n := by
  have e : wrong bu (putQ (upd Q p none) p (bu p)) = upd (wrong bu Q) p none := by
    funext v
    unfold wrong putQ
    by_cases e : v = p
    · subst e; rw [upd_same, upd_same, upd_same]; simp
    · rw [upd_other _ _ e, upd_other _ _ e, upd_other _ _ e]
  rw [e]
  have h1 := num_del (wrong bu Q) p n hp
  have h2 : wrong bu Q p = some () := by unfold wrong; rw [hQ]; simp [hk]
  rw [h2] at h1
  simpa using h1
end
/-! ### in memory -/
structure BuIn (n : Nat) (w0 : World) (B : Nat) (b : LfB) (rv : Nat → Int) (U V : Mx) (q : Nat) (Q : Nat → Option Int) (X : List Pr) (S : Nat → Prop) (wr : World) : Prop where
  lf : LfA n wr b rv U V
  qu : Qu.QAt wr q X S
  keys : QKeys n X Q
  sep : ∀ k, S k → ¬ b.S n k
  gs : ∀ k, S k → B ≤ k
  gb : ∀ k, b.S n k → B ≤ k
  below : Below B w0 wr
  wB : B ≤ wr.heap.size
section
variable {n B q : Nat} {w0 wr w' : World} {b : LfB} {rv : Nat → Int} {U V : Mx} {Q Q' : Nat → Option Int} {X X' : List Pr} {S S' : Nat → Prop}
theorem BuIn.later (h : BuIn n w0 B b rv U V q Q X S wr) (f : Below wr.heap.size wr w') : BuIn n w0 B b rv U V q Q X S w' :=
  ⟨h.lf.later f, h.qu.later f, h.keys, h.sep, h.gs, h.gb, h.below.trans (f.mono h.wB), Nat.le_trans h.wB f.size⟩
theorem BuIn.drewN (h : BuIn n w0 B b rv U V q Q X S wr) (k : Nat) : BuIn n w0 B b rv U V q Q X S (wr.drewN k) := h.later (Qu.below_drewN (Below.refl _ _) k)
theorem BuIn.queue (h : BuIn n w0 B b rv U V q Q X S wr) (hq : Qu.QAt w' q X' S') (f : Qu.Fr S wr w') (hS : ∀ k, S' k → S k ∨ wr.heap.size ≤ k) (hk : QKeys n X' Q') : BuIn n w0 B b rv U V q Q' X' S' w' :=
  ⟨h.lf.kept f (fun k hk e => h.sep k e hk), hq, hk, fun k e => by
    rcases hS k e with e | e
    · exact h.sep k e
    · exact fun e2 => by have := h.lf.lt e2; omega, fun k e => by
    rcases hS k e with e | e
    · exact h.gs k e
    · have := h.wB; omega, h.gb, h.below.trans (f.below h.wB h.gs), Nat.le_trans h.wB f.size⟩
theorem BuIn.iter (h : BuIn n w0 B b rv U V q Q X S wr) {r : Nat} (f : wr.grownBy w' (some r)) (hr : B ≤ r) (h1 : ¬ b.S n r) (h2 : ¬ S r) : BuIn n w0 B b rv U V q Q X S w' :=
  ⟨h.lf.iter f h1, h.qu.fr (T := fun j => j = r) (Qu.Fr.of_grown f (fun j e => by cases e; rfl)) (fun j hj e => by subst e; exact h2 hj), h.keys, h.sep, h.gs, h.gb, h.below.trans ⟨f.os, f.tape, f.output, f.size, fun j hj => f.block j (Nat.lt_of_lt_of_le hj h.wB) (fun e => by cases e; omega)⟩, Nat.le_trans h.wB f.size⟩
theorem BuIn.put (h : BuIn n w0 B b rv U V q Q X S wr) (hn : n ≤ 32) {v : Nat} {k : Int} (hv : v < n) (hk : 0 ≤ k ∧ k ≤ 1024) :
    Calls Tryz.prog 32 #[.pointer (some ⟨q, 0, none⟩), .int .i64 v, .int .i64 k] wr fun e w' => e = .returned (.bool (putM X v k).2) ∧ ∃ S', BuIn n w0 B b rv U V q (putQ Q v k) (putM X v k).1 S' w' ∧ Qu.Fr S wr w' ∧ ∀ k, S' k → S k ∨ wr.heap.size ≤ k := by
  have hl : X.length < 4096 := by have := h.keys.len h.qu.dis; omega
  refine (Qu.put_any h.qu (v : Int) k (natI64 (by omega)) (by unfold Qu.I64; omega)).mono ?_
  rintro e w' ⟨rfl, h1, h2⟩
  have hS : ∀ k, Qu.grow S wr w' k → S k ∨ wr.heap.size ≤ k := fun k e => by rcases e with e | e; exact .inl e; exact .inr e.1
  exact ⟨rfl, _, h.queue h1 h2 hS (h.keys.put h.qu.dis hl hv hk), h2, hS⟩
theorem BuIn.take (h : BuIn n w0 B b rv U V q Q X S wr) {y : Pr} (hy : Least X y) {p : Nat} (hp : y.1 = (p : Int)) :
    Calls Tryz.prog 63 #[.pointer (some ⟨q, 0, none⟩)] wr fun e w' => e = .returned (.tuple #[.int .i64 p, .int .i64 y.2, .bool true]) ∧ BuIn n w0 B b rv U V q (upd Q p none) (dropM X p) S w' := by
  refine (Qu.take_any h.qu y hy).mono ?_
  rintro e w' ⟨rfl, h1, h2⟩
  rw [hp] at h1 ⊢
  exact ⟨rfl, h.queue h1 h2 (fun k e => .inl e) (h.keys.drop p)⟩
theorem bur_le (n : Nat) (hn : n ≤ 32) (U V : Mx) (p : Nat) : bur n U V p ≤ 1024 := by
  unfold bur
  exact Nat.mul_le_mul (Nat.le_trans (num_le _ n) hn) (Nat.le_trans (num_le _ n) hn)
end
set_option maxRecDepth 100000 in
set_option maxHeartbeats 3200000 in
theorem next_any {n B q : Nat} {w0 w : World} {b : LfB} {rv : Nat → Int} {U V : Mx} {Q : Nat → Option Int} {X : List Pr} {S : Nat → Prop} (h : BuIn n w0 B b rv U V q Q X S w) (hn : n ≤ 32) (hne : ∃ v, (Q v).isSome = true) :
    Calls Tryz.prog 34 #[.pointer (some ⟨b.l, 0, none⟩), .pointer (some ⟨q, 0, none⟩)] w fun e w' => ∃ p : Nat, e = .returned (.int .i64 p) ∧ p < n ∧ ∃ Q' X' S', Next (bur n U V) Q p Q' ∧ BuIn n w0 B b rv U V q Q' X' S' w' := by
  have H := hide h
  have HNE := hide hne
  clear h hne
  go_enter Tryz.func34, Tryz.ntmps34
  go_wp2
  go_loopg [] (num (wrong (bur n U V) Q) n + 1) (fun k wr => ∃ Q1 X1 S1, k = num (wrong (bur n U V) Q1) n + 1 ∧ Hid (BuIn n w0 B b rv U V q Q1 X1 S1 wr ∧ (∃ v, (Q1 v).isSome = true) ∧ ∀ p Q', Next (bur n U V) Q1 p Q' → Next (bur n U V) Q p Q'))
  case atStart => exact ⟨Q, X, S, rfl, H.out, HNE.out, fun _ _ h => h⟩
  case round =>
    clear H HNE
    obtain ⟨Q1, X1, S1, rfl, HR⟩ := hrel
    have hX : X1 ≠ [] := fun e => by
      obtain ⟨v, hv⟩ := HR.out.2.1
      obtain ⟨k, hk⟩ := Option.isSome_iff_exists.1 hv
      have := (HR.out.1.keys.mem ((v : Int), k)).2 ⟨v, rfl, hk⟩
      rw [e] at this
      simp at this
    obtain ⟨⟨y1, y2⟩, hy⟩ := Qu.least_ex hX
    obtain ⟨p, e1, hp, hl⟩ := HR.out.1.keys.least hy
    simp only at e1 hl
    have HT := hide (HR.out.1.take hy e1)
    simp only at HT
    have hbl := bur_le n hn U V p
    have HBD := hide (fun (w' : World) (h' : LfA n w' b rv U V) => burden_any h' hn hp)
    have HLQ := hide hl
    have HPN := hide hp
    obtain ⟨bp, hbp⟩ : ∃ bp, bur n U V p = bp := ⟨_, rfl⟩
    rw [hbp] at hbl HBD
    have HBP := hide hbp
    clear hl hy e1 hX hbp
    by_cases hk : y2 = (bp : Int)
    · have z1 : ((bp : Int) == y2) = true := by subst hk; simp
      have z2 : ((bp : Int) == (bp : Int)) = true := by simp
      have HNX := hide (HR.out.2.2 p (upd Q1 p none) (.stop HLQ.out (by rw [HBP.out]; exact hk)))
      replace hk := hide hk
      go_wp2_with (first
        | (go_at_call 63; refine HT.out.mono ?_; rintro e w2 ⟨rfl, h2⟩; have H2 := hide h2; clear h2)
        | (go_at_call 33; refine (HBD.out _ H2.out.lf).mono ?_; rintro e w3 ⟨rfl, k3, hw⟩; have H3 := hide (H2.out.drewN k3); rw [hw]; clear hw))
      go_ret
      exact ⟨p, rfl, HPN.out, _, _, _, HNX.out, H3.out⟩
    · have z1 : ((bp : Int) == y2) = false := by simp; omega
      have HNX : Hid (∀ p' Q', Next (bur n U V) (putQ (upd Q1 p none) p bp) p' Q' → Next (bur n U V) Q p' Q') := fun p' Q' hx => HR.out.2.2 p' Q' (.on HLQ.out (by rw [HBP.out]; exact hk) (by rw [HBP.out]; exact hx))
      have HWR : Hid (num (wrong (bur n U V) (putQ (upd Q1 p none) p bp)) n + 1 = num (wrong (bur n U V) Q1) n) := by
        have := wrong_less (bu := bur n U V) HPN.out HLQ.out.at_ (by rw [HBP.out]; exact hk)
        rw [HBP.out] at this
        exact this
      go_wp2_with (first
        | (go_at_call 63; refine HT.out.mono ?_; rintro e w2 ⟨rfl, h2⟩; have H2 := hide h2; clear h2)
        | (go_at_call 33; refine (HBD.out _ H2.out.lf).mono ?_; rintro e w3 ⟨rfl, k3, hw⟩; have H3 := hide (H2.out.drewN k3); rw [hw]; clear hw)
        | (go_at_call 32; refine (H3.out.put hn HPN.out (k := bp) (by omega)).mono ?_; rintro e w4 ⟨rfl, S4, h4, _, _⟩; have H4 := hide h4; clear h4))
      go_roundg (num (wrong (bur n U V) (putQ (upd Q1 p none) p bp)) n + 1)
      case measure => have := HWR.out; omega
      case rel => exact ⟨_, _, S4, rfl, H4.out, ⟨p, by unfold putQ; rw [upd_same]; rfl⟩, HNX.out⟩
end Go.Proofs.YtojkdmkeankcgaaGreat
/-  What the call of ease does: the places next to one that was lifted get no greater keys. -/
namespace Go.Proofs.YtojkdmkeankcgaaGreat
open Go.RowKit Go.Sort
open Qu (Pr Dis items dropM putM Least look_none look_some dis_put dis_drop)

/-- Of those that F names and that have come, the keys are no greater than the burden. -/
def eaQ (bu : Nat → Nat) (F : Nat → Bool) (todo : Nat → Bool) (Q : Nat → Option Int) : Nat → Option Int := fun v =>
  if F v = true ∧ todo v = false then some (match Q v with | none => (bu v : Int) | some j => if (bu v : Int) < j then (bu v : Int) else j) else Q v
theorem eaQ_start (bu : Nat → Nat) (F : Nat → Bool) (Q : Nat → Option Int) : eaQ bu F F Q = Q := by
  funext v
  unfold eaQ
  split
  · rename_i h; rw [h.1] at h; cases h.2
  · rfl
theorem eaQ_next {bu : Nat → Nat} {F todo : Nat → Bool} {Q : Nat → Option Int} {q : Nat} (hF : F q = true) (ht : todo q = true) : eaQ bu F (fun t => todo t && !(t == q)) Q = putQ (eaQ bu F todo Q) q (bu q) := by
  funext v
  unfold putQ
  by_cases e : v = q
  · subst e
    rw [upd_same]
    have e2 : eaQ bu F todo Q v = Q v := by unfold eaQ; rw [if_neg]; rw [ht]; simp
    rw [e2]
    unfold eaQ
    rw [if_pos ⟨hF, by simp⟩]
    all_goals (cases Q v <;> rfl)
  · rw [upd_other _ _ e]
    unfold eaQ
    simp [e]
theorem eaQ_end {n : Nat} {bu : Nat → Nat} {F todo : Nat → Bool} {Q : Nat → Option Int} (hF : ∀ v, F v = true → v < n) (ht : ∀ v, v < n → todo v = false) : eaQ bu F todo Q = eaQ bu F (fun _ => false) Q := by
  funext v
  unfold eaQ
  by_cases e : F v = true
  · rw [ht v (hF v e)]
  · simp [e]
theorem eaQ_dom {bu : Nat → Nat} {F todo : Nat → Bool} {Q : Nat → Option Int} (h : ∀ v, F v = true → (Q v).isSome = true) (v : Nat) : (eaQ bu F todo Q v).isSome = (Q v).isSome := by
  unfold eaQ
  split
  · rename_i e; rw [h v e.1]; rfl
  · rfl
/-- In the loops of ease. -/
structure EaIn (n : Nat) (w0 : World) (B : Nat) (b : LfB) (rv : Nat → Int) (U V : Mx) (q : Nat) (Q : Nat → Option Int) (mb r : Nat) (F : Nat → Option Value) (todo : Nat → Bool) (k : Nat) (wr : World) : Prop where
  ex : ∃ X S, BuIn n w0 B b rv U V q (eaQ (bur n U V) (fun v => (F v).isSome) todo Q) X S wr ∧ ¬ S r
  rg : RangeAt n wr mb r F todo k
  sb : b.S n mb
  nr : ¬ b.S n r
  rB : B ≤ r
set_option maxRecDepth 100000 in
set_option maxHeartbeats 6400000 in
theorem ease_any {n B q : Nat} {w0 w : World} {b : LfB} {rv : Nat → Int} {U V : Mx} {Q : Nat → Option Int} {X : List Pr} {S : Nat → Prop} (h : BuIn n w0 B b rv U V q Q X S w) (hn : n ≤ 32) (hU : ∀ a c, (U a c).isSome = true → c < n) (hV : ∀ a c, (V a c).isSome = true → a < n) {p : Nat} (hp : p < n) :
    Calls Tryz.prog 36 #[.pointer (some ⟨b.l, 0, none⟩), .int .i64 p, .pointer (some ⟨q, 0, none⟩)] w fun e w' => e = .returned (.tuple #[]) ∧ ∃ X' S', BuIn n w0 B b rv U V q (eaQ (bur n U V) (fun a => (V a p).isSome) (fun _ => false) (eaQ (bur n U V) (fun c => (U p c).isSome) (fun _ => false) Q)) X' S' w' := by
  have HUV : Hid ((∀ c, (upF U p c).isSome = true → c < n) ∧ ∀ a, (dnF V p a).isSome = true → a < n) := ⟨fun c e => hU p c (by unfold upF at e; simpa using e), fun a e => hV a p (by unfold dnF at e; simpa using e)⟩
  have HSU : Hid ((fun v => (upF U p v).isSome) = fun c => (U p c).isSome) := by show _ = _; funext c; unfold upF; cases U p c <;> rfl
  have HSV : Hid ((fun v => (dnF V p v).isSome) = fun a => (V a p).isSome) := by show _ = _; funext a; unfold dnF; cases V a p <;> rfl
  have HBR := hide (fun v => bur_le n hn U V v)
  have hlf := h.lf
  obtain ⟨w2, run2, hr2, hg2, hs2⟩ := range_start (hlf.mu p hp) Tryz.underlying93
  have c1 := hlf.c1
  have cu := hlf.cu hp
  have i2 : (p : Int) < (n : Int) := by omega
  obtain ⟨r, hrr⟩ : ∃ r, w.heap.size = r := ⟨_, rfl⟩
  rw [hrr] at run2 hr2
  have HS2 : Hid (EaIn n w0 B b rv U V q Q (b.mu p) r (upF U p) (fun v => (upF U p v).isSome) (num (upF U p) n) w2) := by
    have hb2 : Below w.heap.size w w2 := ⟨hg2.os, hg2.tape, hg2.output, hg2.size, fun k hk => hg2.block k hk (by simp)⟩
    have h3 := h.later hb2
    obtain ⟨_, _, _, hit⟩ := hr2.isIter
    exact ⟨⟨_, _, by rw [eaQ_start]; exact h3, fun e => by have := h.qu.lt _ e; omega⟩, hr2, LfA.su hp, h3.lf.not_iter hit, by rw [← hrr]; exact h.wB⟩
  obtain ⟨K0, hK0⟩ : ∃ K0, num (upF U p) n = K0 := ⟨_, rfl⟩
  rw [hK0] at HS2
  clear hlf hr2 hg2 hs2 hrr hK0
  clear h
  go_enter Tryz.func36, Tryz.ntmps36
  go_wp2
  clear run2 c1 cu
  go_loopg [] K0 (fun k2 wr => ∃ todo, Hid (EaIn n w0 B b rv U V q Q (b.mu p) r (upF U p) todo k2 wr))
  case atStart => exact ⟨_, HS2.out⟩
  case round =>
    clear HS2
    obtain ⟨todo, HR⟩ := hrel
    rcases range_next HR.out.rg 0 with ⟨rfl, hall, hrun⟩ | ⟨x, v, w6, k6, hx, ht, hF, hrun, hrg, hk6, hg6, hs6, hent⟩
    · obtain ⟨X5, S5, h5, _⟩ := HR.out.ex
      rw [eaQ_end HUV.out.1 hall] at h5
      have hlf := h5.lf
      obtain ⟨w2, run2, hr2, hg2, hs2⟩ := range_start (hlf.md p hp) Tryz.underlying93
      have c1 := hlf.c2
      have cu := hlf.cd hp
      have i2 : (p : Int) < (n : Int) := by omega
      obtain ⟨r', hrr⟩ : ∃ r, wr.heap.size = r := ⟨_, rfl⟩
      rw [hrr] at run2 hr2
      have HS2 : Hid (EaIn n w0 B b rv U V q (eaQ (bur n U V) (fun v => (upF U p v).isSome) (fun _ => false) Q) (b.md p) r' (dnF V p) (fun v => (dnF V p v).isSome) (num (dnF V p) n) w2) := by
        have hb2 : Below wr.heap.size wr w2 := ⟨hg2.os, hg2.tape, hg2.output, hg2.size, fun k hk => hg2.block k hk (by simp)⟩
        have h3 := h5.later hb2
        obtain ⟨_, _, _, hit⟩ := hr2.isIter
        exact ⟨⟨_, _, by rw [eaQ_start]; exact h3, fun e => by have := h5.qu.lt _ e; omega⟩, hr2, LfA.sd hp, h3.lf.not_iter hit, by rw [← hrr]; exact h5.wB⟩
      obtain ⟨K1, hK0⟩ : ∃ K0, num (dnF V p) n = K0 := ⟨_, rfl⟩
      rw [hK0] at HS2
      clear hlf hr2 hg2 hs2 hrr hK0
      clear h5 HR hall
      go_wp2
      clear run2 c1 cu hrun
      go_loopg [] K1 (fun k2 wr => ∃ todo, Hid (EaIn n w0 B b rv U V q (eaQ (bur n U V) (fun v => (upF U p v).isSome) (fun _ => false) Q) (b.md p) r' (dnF V p) todo k2 wr))
      case atStart => exact ⟨_, HS2.out⟩
      case round =>
        clear HS2
        obtain ⟨todo, HR⟩ := hrel
        rcases range_next HR.out.rg 0 with ⟨rfl, hall, hrun⟩ | ⟨x, v, w6, k6, hx, ht, hF, hrun, hrg, hk6, hg6, hs6, hent⟩
        · obtain ⟨X6, S6, h6, _⟩ := HR.out.ex
          rw [eaQ_end HUV.out.2 hall, HSU.out, HSV.out] at h6
          have HE := hide h6
          clear h6 HR hall
          go_wp2
          go_end0
          exact ⟨rfl, X6, S6, HE.out⟩
        · have hitr := HR.out.rg.isIter
          obtain ⟨X5, S5, h5, h5r⟩ := HR.out.ex
          have h6 := h5.iter hg6 HR.out.rB HR.out.nr h5r
          have hFq : (fun v => (dnF V p v).isSome) x = true := by simp only; rw [hF]; rfl
          have HNQ := hide (eaQ_next (bu := bur n U V) (F := fun v => (dnF V p v).isSome) (todo := todo) (Q := (eaQ (bur n U V) (fun v => (upF U p v).isSome) (fun _ => false) Q)) hFq ht)
          have HBD := hide (burden_any h6.lf hn hx)
          have hbl := HBR.out x
          obtain ⟨bx, hbx⟩ : ∃ bx, bur n U V x = bx := ⟨_, rfl⟩
          rw [hbx] at hbl HBD HNQ
          have H6 := hide h6
          have HX := hide hx
          have HGE : Hid (¬ S5 r' ∧ b.S n (b.md p) ∧ ¬ b.S n r' ∧ B ≤ r' ∧ RangeAt n w6 (b.md p) r' (dnF V p) (fun t => todo t && !(t == x)) k6) := ⟨h5r, HR.out.sb, HR.out.nr, HR.out.rB, hrg⟩
          clear h5 h6 h5r hitr hbx hg6 hs6 hrg hF ht HR hFq
          go_wp2_with (first
            | (go_at_call 33; refine HBD.out.mono ?_; rintro e w3 ⟨rfl, k3, hw⟩; have H3 := hide (H6.out.drewN k3); have HRG3 : Hid (RangeAt n (w6.drewN k3) (b.md p) r' (dnF V p) (fun t => todo t && !(t == x)) k6) := HGE.out.2.2.2.2.of_blocks (by rw [Qu.drewN_heap]) (by rw [Qu.drewN_heap]); rw [hw]; clear hw)
            | (go_at_call 32; refine (H3.out.put hn HX.out (k := bx) (by omega)).mono ?_; rintro e w4 ⟨rfl, S4, h4, h4f, h4s⟩; have H4 : Hid (EaIn n w0 B b rv U V q (eaQ (bur n U V) (fun v => (upF U p v).isSome) (fun _ => false) Q) (b.md p) r' (dnF V p) (fun t => todo t && !(t == x)) k6 w4) := ⟨⟨_, S4, by rw [HNQ.out]; exact h4, fun e => by rcases h4s _ e with e | e; exact HGE.out.1 e; have := HRG3.out.lt; omega⟩, HRG3.out.of_blocks (h4f.block _ HRG3.out.map.lt (fun e => H3.out.sep _ e HGE.out.2.1)) (h4f.block _ HRG3.out.lt HGE.out.1), HGE.out.2.1, HGE.out.2.2.1, HGE.out.2.2.2.1⟩; clear h4 h4f h4s))
          go_roundg k6
          case measure => omega
          case rel => exact ⟨_, H4.out⟩
    · have hitr := HR.out.rg.isIter
      obtain ⟨X5, S5, h5, h5r⟩ := HR.out.ex
      have h6 := h5.iter hg6 HR.out.rB HR.out.nr h5r
      have hFq : (fun v => (upF U p v).isSome) x = true := by simp only; rw [hF]; rfl
      have HNQ := hide (eaQ_next (bu := bur n U V) (F := fun v => (upF U p v).isSome) (todo := todo) (Q := Q) hFq ht)
      have HBD := hide (burden_any h6.lf hn hx)
      have hbl := HBR.out x
      obtain ⟨bx, hbx⟩ : ∃ bx, bur n U V x = bx := ⟨_, rfl⟩
      rw [hbx] at hbl HBD HNQ
      have H6 := hide h6
      have HX := hide hx
      have HGE : Hid (¬ S5 r ∧ b.S n (b.mu p) ∧ ¬ b.S n r ∧ B ≤ r ∧ RangeAt n w6 (b.mu p) r (upF U p) (fun t => todo t && !(t == x)) k6) := ⟨h5r, HR.out.sb, HR.out.nr, HR.out.rB, hrg⟩
      clear h5 h6 h5r hitr hbx hg6 hs6 hrg hF ht HR hFq
      go_wp2_with (first
        | (go_at_call 33; refine HBD.out.mono ?_; rintro e w3 ⟨rfl, k3, hw⟩; have H3 := hide (H6.out.drewN k3); have HRG3 : Hid (RangeAt n (w6.drewN k3) (b.mu p) r (upF U p) (fun t => todo t && !(t == x)) k6) := HGE.out.2.2.2.2.of_blocks (by rw [Qu.drewN_heap]) (by rw [Qu.drewN_heap]); rw [hw]; clear hw)
        | (go_at_call 32; refine (H3.out.put hn HX.out (k := bx) (by omega)).mono ?_; rintro e w4 ⟨rfl, S4, h4, h4f, h4s⟩; have H4 : Hid (EaIn n w0 B b rv U V q Q (b.mu p) r (upF U p) (fun t => todo t && !(t == x)) k6 w4) := ⟨⟨_, S4, by rw [HNQ.out]; exact h4, fun e => by rcases h4s _ e with e | e; exact HGE.out.1 e; have := HRG3.out.lt; omega⟩, HRG3.out.of_blocks (h4f.block _ HRG3.out.map.lt (fun e => H3.out.sep _ e HGE.out.2.1)) (h4f.block _ HRG3.out.lt HGE.out.1), HGE.out.2.1, HGE.out.2.2.1, HGE.out.2.2.2.1⟩; clear h4 h4f h4s))
      go_roundg k6
      case measure => omega
      case rel => exact ⟨_, H4.out⟩
end Go.Proofs.YtojkdmkeankcgaaGreat
/-  What the call of Build does: all places lifted, one by one. -/
namespace Go.Proofs.YtojkdmkeankcgaaGreat
open Go.RowKit Go.Sort
open Qu (Pr)

/-! ### plain -/
def resW (n : Nat) (W : Nat → Nat → Option Int) : Nat → Nat → Option Int := fun a c => if a < n ∧ c < n then W a c else none
theorem edM_res (n : Nat) (W : Nat → Nat → Option Int) : edM n W = fun a c => (resW n W a c).map fun x => (x, -1) := by
  funext a c
  unfold edM resW
  split <;> rfl
theorem res_way {n : Nat} {W : Nat → Nat → Option Int} {a c : Nat} {d : Int} : Way n (resW n W) a c d ↔ Way n W a c d :=
  ⟨way_same fun a b x ha hb hx => by unfold resW at hx; rw [if_pos ⟨ha, hb⟩] at hx; exact hx, way_same fun a b x ha hb hx => by unfold resW; rw [if_pos ⟨ha, hb⟩]; exact hx⟩
/-- The keys behind a lift. -/
def stepQ (n : Nat) (K' : Mx) (rk' : Nat → Nat) (p : Nat) (Q : Nat → Option Int) : Nat → Option Int :=
  eaQ (bur n (upM K' rk') (dnM K' rk')) (fun a => (dnM K' rk' a p).isSome) (fun _ => false) (eaQ (bur n (upM K' rk') (dnM K' rk')) (fun c => (upM K' rk' p c).isSome) (fun _ => false) Q)
def firstQ (n : Nat) (K : Mx) (i : Nat) : Nat → Option Int := fun v => if v < i then some (bur n K K v : Int) else none
/-- So the places are lifted, one behind the other. -/
inductive BRun (n : Nat) (W : Nat → Nat → Option Int) : Nat → Mx → (Nat → Nat) → (Nat → Option Int) → Prop where
  | zero : BRun n W 0 (edM n W) (fun _ => n) (firstQ n (edM n W) n)
  | step {k p : Nat} {K K' : Mx} {rk : Nat → Nat} {Q Q1 : Nat → Option Int} : BRun n W k K rk Q → Next (bur n (upM K rk) (dnM K rk)) Q p Q1 → IsLift n K rk p K' → BRun n W (k + 1) K' (updN rk p k) (stepQ n K' (updN rk p k) p Q1)
theorem BRun.eq {n : Nat} {W : Nat → Nat → Option Int} {k : Nat} {K : Mx} {rk : Nat → Nat} {Q : Nat → Option Int} (h : BRun n W k K rk Q) : ∀ {K2 : Mx} {rk2 : Nat → Nat} {Q2 : Nat → Option Int}, BRun n W k K2 rk2 Q2 → K = K2 ∧ rk = rk2 ∧ Q = Q2 := by
  induction h with
  | zero => intro K2 rk2 Q2 h2; cases h2; exact ⟨rfl, rfl, rfl⟩
  | step _ hn hl ih =>
    intro K2 rk2 Q2 h2
    cases h2 with
    | step h3 hn3 hl3 =>
      obtain ⟨rfl, rfl, rfl⟩ := ih h3
      obtain ⟨rfl, rfl⟩ := hn.eq hn3
      have := hl.eq hl3
      subst this
      exact ⟨rfl, rfl, rfl⟩
def waitsN (n : Nat) (rk : Nat → Nat) : Nat → Option Unit := fun v => if rk v = n then some () else none
theorem num_none {α : Type} {F : Nat → Option α} : ∀ n, num F n = 0 → ∀ v, v < n → F v = none
  | 0, _, v, hv => absurd hv (Nat.not_lt_zero _)
  | n + 1, h, v, hv => by
    rw [num] at h
    by_cases e : v = n
    · subst e
      cases hF : F v with
      | none => rfl
      | some x => rw [hF] at h; simp at h
    · exact num_none n (by omega) v (by omega)
theorem num_some {α : Type} {F : Nat → Option α} : ∀ n, 0 < num F n → ∃ v, v < n ∧ (F v).isSome = true
  | 0, h => absurd h (Nat.lt_irrefl _)
  | n + 1, h => by
    rw [num] at h
    by_cases e : (F n).isSome = true
    · exact ⟨n, by omega, e⟩
    · obtain ⟨v, h1, h2⟩ := num_some n (by simp [e] at h; exact h)
      exact ⟨v, by omega, h2⟩
/-- Between two lifts. -/
structure Bd (n : Nat) (W : Nat → Nat → Option Int) (k : Nat) (K : Mx) (rk : Nat → Nat) (Q : Nat → Option Int) (rv : Nat → Int) : Prop where
  run : BRun n W k K rk Q
  lft : Lft n (resW n W) k K rk
  dom : ∀ v, (Q v).isSome = true ↔ v < n ∧ rk v = n
  cnt : num (waitsN n rk) n + k = n
  rvs : ∀ p, p < n → rk p < n → rv p = (rk p : Int)
theorem num_full {α : Type} {F : Nat → Option α} : ∀ n, (∀ v, v < n → (F v).isSome = true) → num F n = n
  | 0, _ => rfl
  | n + 1, h => by rw [num, num_full n (fun v hv => h v (by omega)), h n (by omega)]; rfl
section
variable {n k p : Nat} {W : Nat → Nat → Option Int} {K K' : Mx} {rk : Nat → Nat} {Q Q1 : Nat → Option Int} {rv : Nat → Int}
theorem bd_zero (hW : ∀ a b x, a < n → b < n → W a b = some x → a ≠ b ∧ 0 ≤ x ∧ x ≤ 1000000) : Bd n W 0 (edM n W) (fun _ => n) (firstQ n (edM n W) n) (fun _ => 0) := by
  have hR : ∀ a b x, resW n W a b = some x → a < n ∧ b < n ∧ a ≠ b ∧ 0 ≤ x ∧ x ≤ 1000000 := fun a b x h => by
    unfold resW at h
    split at h
    · rename_i e; exact ⟨e.1, e.2, hW a b x e.1 e.2 h⟩
    · cases h
  refine ⟨.zero, by rw [edM_res]; exact lft_zero hR, fun v => ?_, ?_, fun p _ h => absurd h (Nat.lt_irrefl _)⟩
  · unfold firstQ
    by_cases e : v < n <;> simp [e]
  · rw [num_full n fun v _ => by simp [waitsN]]
    rfl
theorem Lft.rk' (h : Lft n W k K rk) : Rk n K rk := ⟨fun a ha => by rcases h.rank a ha with e | e <;> have := h.kn <;> omega, fun a c v e => by obtain ⟨x, m⟩ := v; obtain ⟨r1, r2, r3, _⟩ := h.lk a c x m e; exact ⟨r1, r2, r3⟩⟩
theorem Lft.bound (h : Lft n W k K rk) (hn : n ≤ 32) (a c : Nat) (x m : Int) (e : K a c = some (x, m)) : 0 ≤ x ∧ x ≤ 4294967296000000 := by
  have h1 := h.bnd a c x m e
  have h2 := (h.lk a c x m e).2.2.2.1
  have h3 := pow_mono (Nat.le_trans h.kn hn)
  have h4 : (1000000 : Int) * 2 ^ 32 = 4294967296000000 := by decide
  omega
theorem bd_step (h : Bd n W k K rk Q rv) (hk : k < n) (hx : Next (bur n (upM K rk) (dnM K rk)) Q p Q1) (hl : IsLift n K rk p K') : p < n ∧ rk p = n ∧ Bd n W (k + 1) K' (updN rk p k) (stepQ n K' (updN rk p k) p Q1) (updI rv p k) := by
  obtain ⟨d1, d2⟩ := hx.dom
  obtain ⟨hp, rp⟩ := (h.dom p).1 d1
  have ls := h.lft.ls hk hp rp hl
  have l2 := lft_step h.lft ls
  have r2 := l2.rk'
  refine ⟨hp, rp, .step h.run hx hl, l2, fun v => ?_, ?_, fun q hq hr => ?_⟩
  · have dom1 : ∀ v, (Q1 v).isSome = true ↔ v < n ∧ updN rk p k v = n := fun v => by
      rw [d2 v]
      by_cases e : v = p
      · subst e; rw [updN_same]; simp; omega
      · rw [updN_other _ _ e]; simp [e, h.dom v]
    have wt : ∀ v, v < n → v ≠ p → updN rk p k v = rk v := fun v _ e => updN_other _ _ e
    have f1 : ∀ v, (upM K' (updN rk p k) p v).isSome = true → (Q1 v).isSome = true := fun v hv => by
      unfold upM at hv
      split at hv
      · rename_i hle
        obtain ⟨kv, e⟩ := Option.isSome_iff_exists.1 hv
        obtain ⟨_, r2', r3⟩ := r2.lk p v kv e
        rw [updN_same] at hle
        refine (dom1 v).2 ⟨r2', ?_⟩
        rw [updN_other _ _ (fun e => r3 e.symm)] at hle ⊢
        rcases h.lft.rank v r2' with r | r
        · omega
        · exact r
      · cases hv
    have f2 : ∀ v, (dnM K' (updN rk p k) v p).isSome = true → (Q1 v).isSome = true := fun v hv => by
      unfold dnM at hv
      split at hv
      · rename_i hle
        obtain ⟨kv, e⟩ := Option.isSome_iff_exists.1 hv
        obtain ⟨r1, _, r3⟩ := r2.lk v p kv e
        rw [updN_same] at hle
        refine (dom1 v).2 ⟨r1, ?_⟩
        rw [updN_other _ _ r3] at hle ⊢
        rcases h.lft.rank v r1 with r | r
        · omega
        · exact r
      · cases hv
    unfold stepQ
    rw [eaQ_dom (fun u hu => by rw [eaQ_dom f1]; exact f2 u hu), eaQ_dom f1]
    exact dom1 v
  · have e : waitsN n (updN rk p k) = upd (waitsN n rk) p none := by
      funext v
      unfold waitsN
      by_cases e : v = p
      · subst e; rw [upd_same, updN_same]; simp; omega
      · rw [upd_other _ _ e, updN_other _ _ e]
    have h1 := num_del (waitsN n rk) p n hp
    have h2 : waitsN n rk p = some () := by unfold waitsN; simp [rp]
    rw [h2] at h1
    have h3 := h.cnt
    rw [e]
    simp at h1
    omega
  · by_cases e : q = p
    · subst e; rw [updI_same, updN_same]
    · rw [updI_other _ _ e]
      rw [updN_other _ _ e] at hr ⊢
      exact h.rvs q hq hr
theorem bd_sup (h : Bd n W k K rk Q rv) (hk : k < n) (hx : Next (bur n (upM K rk) (dnM K rk)) Q p Q1) (hl : IsLift n K rk p K') : (∀ a c, (upM K' (updN rk p k) a c).isSome = true → c < n) ∧ ∀ a c, (dnM K' (updN rk p k) a c).isSome = true → a < n := by
  have r2 := (bd_step h hk hx hl).2.2.lft.rk'
  refine ⟨fun a c e => ?_, fun a c e => ?_⟩
  · unfold upM at e
    split at e
    · obtain ⟨v, e⟩ := Option.isSome_iff_exists.1 e; exact (r2.lk a c v e).2.1
    · cases e
  · unfold dnM at e
    split at e
    · obtain ⟨v, e⟩ := Option.isSome_iff_exists.1 e; exact (r2.lk a c v e).1
    · cases e
theorem bd_some (h : Bd n W k K rk Q rv) (hk : k < n) : ∃ v, (Q v).isSome = true := by
  obtain ⟨v, hv, e⟩ := num_some n (F := waitsN n rk) (by have := h.cnt; omega)
  refine ⟨v, (h.dom v).2 ⟨hv, ?_⟩⟩
  unfold waitsN at e
  split at e
  · assumption
  · cases e
theorem bd_all (h : Bd n W n K rk Q rv) : ∀ a, a < n → rk a < n := fun a ha => by
  have := num_none (F := waitsN n rk) n (by have := h.cnt; omega) a ha
  unfold waitsN at this
  split at this
  · cases this
  · rename_i e
    rcases h.lft.rank a ha with r | r
    · exact r
    · exact absurd r e
end
theorem first_next {n : Nat} {K : Mx} {i : Nat} : putQ (firstQ n K i) i (bur n K K i) = firstQ n K (i + 1) := by
  funext v
  unfold putQ
  by_cases e : v = i
  · subst e
    rw [upd_same]
    simp [firstQ]
  · rw [upd_other _ _ e]
    unfold firstQ
    by_cases e2 : v < i
    · rw [if_pos e2, if_pos (by omega)]
    · rw [if_neg e2, if_neg (by omega)]
theorem upM_flat (K : Mx) (n : Nat) : upM K (fun _ => n) = K ∧ dnM K (fun _ => n) = K := ⟨by funext a c; unfold upM; simp, by funext a c; unfold dnM; simp⟩
set_option maxRecDepth 100000 in
theorem build_nil (w : World) : Calls Tryz.prog 11 #[.pointer none] w fun e w' => e = .returned (.pointer none) ∧ w' = w := by
  go_enter Tryz.func11, Tryz.ntmps11
  go_wp2
  go_ret
  exact ⟨rfl, rfl⟩
set_option maxRecDepth 100000 in
set_option maxHeartbeats 6400000 in
theorem build_any {w : World} {g n : Nat} {W : Nat → Nat → Option Int} (h : GAt w g n W) (hn : 1 ≤ n ∧ n ≤ 32) (hW : WOk n W) (hL : ∀ a, a < n → W a a = none) :
    Calls Tryz.prog 11 #[.pointer (some ⟨g, 0, none⟩)] w fun e w' => ∃ b : LfB, e = .returned (.pointer (some ⟨b.l, 0, none⟩)) ∧ ∃ K rk Q rv, Bd n W n K rk Q rv ∧ LfA n w' b rv (upM K rk) (dnM K rk) ∧ (∀ k, b.S n k → w.heap.size ≤ k) ∧ Below w.heap.size w w' := by
  have HED := hide (edges_any h hn hW)
  have HN := hide hn
  have HB0 := hide (bd_zero (n := n) (W := W) fun a b x ha hb e => ⟨fun e2 => (by subst e2; rw [hL a ha] at e; cases e), hW a b x ha hb e⟩)
  clear h hW hL
  go_enter Tryz.func11, Tryz.ntmps11
  go_wp2_with (first
    | (go_at_call 29; refine HED.out.mono ?_; rintro e w1 ⟨b, rfl, h1, h2, h3⟩; have H1 := hide (And.intro h1 (And.intro h2 h3)); clear h1 h2 h3)
    | (go_at_call 30; refine (new_exact w1).mono ?_; rintro e w2 ⟨rfl, hw⟩; have H2 : Hid (BuIn n w w.heap.size b (fun _ => 0) (edM n W) (edM n W) w1.heap.size (firstQ n (edM n W) 0) [] (fun k => k = w1.heap.size) w2) := (by subst hw; exact ⟨H1.out.1.later ((Below.refl _ _).alloc (Nat.le_refl _) _), ⟨rfl, fun k e => by subst e; simp, .inl ⟨heap_alloc_new _ _, rfl⟩⟩, ⟨fun y => by simp [firstQ], fun v k e => by simp [firstQ] at e⟩, fun k e e2 => by subst e; have := H1.out.1.lt e2; omega, fun k e => by subst e; exact H1.out.2.2.size, H1.out.2.1, H1.out.2.2.alloc H1.out.2.2.size _, by have := H1.out.2.2.size; simp; omega⟩); clear hw)
    | (go_at_call 31; refine (lplaces_any H2.out.lf HN.out.2).mono ?_; rintro e w3 ⟨rfl, hw⟩; rw [hw]; clear hw))
  obtain ⟨q, hq⟩ : ∃ q, w1.heap.size = q := ⟨_, rfl⟩
  rw [hq] at H2
  try rw [hq]
  clear H1 hq HED
  go_loopw [15] (fun vi wr => ∃ i : Nat, vi = .int .i64 i ∧ i ≤ n ∧ Hid (∃ X S, BuIn n w w.heap.size b (fun _ => 0) (edM n W) (edM n W) q (firstQ n (edM n W) i) X S wr)) (fun vi _ => n - (intOf vi).toNat)
  case atStart => exact ⟨0, rfl, Nat.zero_le _, _, _, H2.out⟩
  case round =>
    clear H2
    obtain ⟨i, rfl, hi, HR⟩ := hrel
    obtain ⟨X, S, hR⟩ := HR.out
    have HR2 := hide hR
    clear hR HR
    by_cases hin : i < n
    · have i1 : (i : Int) < (n : Int) := by omega
      have HBD := hide (burden_any HR2.out.lf HN.out.2 hin)
      have hbl := bur_le n HN.out.2 (edM n W) (edM n W) i
      have HFN := hide (first_next (n := n) (K := edM n W) (i := i))
      have HIN := hide hin
      generalize bur n (edM n W) (edM n W) i = bi at HBD hbl HFN
      go_wp2_with (first
        | (go_at_call 33; refine HBD.out.mono ?_; rintro e w3 ⟨rfl, k3, hw⟩; have H3 := hide (HR2.out.drewN k3); rw [hw]; clear hw)
        | (go_at_call 32; refine (H3.out.put HN.out.2 HIN.out (k := bi) (by omega)).mono ?_; rintro e w4 ⟨rfl, S4, h4, _, _⟩; have H4 := hide h4; rw [HFN.out] at H4; clear h4))
      go_roundw
      case rel => exact ⟨i + 1, by go_num, by have := HIN.out; omega, _, _, H4.out⟩
      case measure => have := HIN.out; simp [intOf]; omega
    · have e : i = n := by omega
      have i1 : ¬ (i : Int) < (n : Int) := by omega
      subst e
      have HS : Hid (∃ K rk Q rv X S, Bd i W 0 K rk Q rv ∧ BuIn i w w.heap.size b rv (upM K rk) (dnM K rk) q Q X S wr) := ⟨_, _, _, _, X, S, HB0.out, by rw [(upM_flat _ _).1, (upM_flat _ _).2]; exact HR2.out⟩
      go_wp2_with (go_at_call 31; refine (lplaces_any HR2.out.lf HN.out.2).mono ?_; rintro e w3 ⟨rfl, hw⟩; rw [hw]; clear hw)
      clear HR2
      go_loopw [27] (fun vi wr => ∃ k : Nat, vi = .int .i64 k ∧ k ≤ i ∧ Hid (∃ K rk Q rv X S, Bd i W k K rk Q rv ∧ BuIn i w w.heap.size b rv (upM K rk) (dnM K rk) q Q X S wr)) (fun vi _ => i - (intOf vi).toNat)
      case atStart => exact ⟨0, rfl, Nat.zero_le _, HS.out⟩
      case round =>
        clear HS
        obtain ⟨k, rfl, hk, HR⟩ := hrel
        obtain ⟨K, rk, Q, rv, X, S, hBd, hBu⟩ := HR.out
        by_cases hki : k < i
        · have i2 : (k : Int) < (i : Int) := by omega
          have HNX := hide (next_any hBu HN.out.2 (bd_some hBd hki))
          have HBD := hide hBd
          have HKI := hide hki
          clear hBd hBu HR
          go_wp2_with (first
            | (go_at_call 34; refine HNX.out.mono ?_; rintro e w3 ⟨p, rfl, hp, Q1, X1, S1, h1, h2⟩; have H3 := hide (And.intro h1 h2); have HP : Hid (p < i ∧ rk p = i) := (by have := h1.dom; exact (HBD.out.dom p).1 this.1); clear h1 h2)
            | (go_at_call 35; refine (lift_any H3.out.2.lf HN.out.2 HBD.out.lft.rk' (HBD.out.lft.bound HN.out.2) HP.out.1 HP.out.2 HKI.out HBD.out.lft.rank).mono ?_; rintro e w4 ⟨rfl, K', h1, h2, h3⟩; have H4 : Hid (IsLift i K rk p K' ∧ BuIn i w w.heap.size b (updI rv p k) (upM K' (updN rk p k)) (dnM K' (updN rk p k)) q Q1 X1 S1 w4) := ⟨h1, h2, H3.out.2.qu.fr h3 H3.out.2.sep, H3.out.2.keys, H3.out.2.sep, H3.out.2.gs, H3.out.2.gb, H3.out.2.below.trans (h3.below H3.out.2.wB H3.out.2.gb), Nat.le_trans H3.out.2.wB h3.size⟩; clear h1 h2 h3)
            | (go_at_call 36; refine (ease_any H4.out.2 HN.out.2 (fun a c e => (bd_sup HBD.out HKI.out H3.out.1 H4.out.1).1 a c e) (fun a c e => (bd_sup HBD.out HKI.out H3.out.1 H4.out.1).2 a c e) HP.out.1).mono ?_; rintro e w5 ⟨rfl, X5, S5, h5⟩; have H5 := hide h5; clear h5))
          go_roundw
          case rel => exact ⟨k + 1, by go_num, by have := HKI.out; omega, _, _, _, _, X5, S5, (bd_step HBD.out HKI.out H3.out.1 H4.out.1).2.2, H5.out⟩
          case measure => have := HKI.out; simp [intOf]; omega
        · have e : k = i := by omega
          have i2 : ¬ (k : Int) < (i : Int) := by omega
          subst e
          have HE := hide (And.intro hBd hBu)
          clear hBd hBu HR
          go_wp2
          go_ret
          exact ⟨b, rfl, K, rk, Q, rv, HE.out.1, HE.out.2.lf, HE.out.2.gb, HE.out.2.below⟩
end Go.Proofs.YtojkdmkeankcgaaGreat
