/-
  What the call of edges does: a graph's edges as links, none of its places lifted.
-/
import Derived.Test.YtlflbjnglmbdeaaZSq
import Derived.Test.YtlflbjnglmbdeaaBits
import Derived.Test.YtlflbjnglmbdeaaOuts
import Derived.Carry
namespace Go.Proofs.Ytlflbjnglmbdeaa
open Go.RowKit Go.Sort

theorem info101 : (Try.prog.info? 101).map (fun i => (i.zero, i.size, i.bytes)) = some (some (.map none), 1, 8) := by kernel_rfl
theorem made_maps (n : Nat) (hn : n ≤ 32) (w : World) : (Instr.makeSlice 96 (.int .i64 n) (.int .i64 n)).run Try.prog w = .ok (.slice (some ⟨w.heap.size, 0, none⟩) n n) (w.alloc (.cells (List.replicate n (.map none)).toArray 101)) := by
  obtain ⟨i0, hi0, hz0, hz1, hz2⟩ := info_parts info101
  have := run_makeSlice (P := Try.prog) w 96 101 i0 _ Try.underlying96 hi0 hz0 .i64 .i64 n n (by omega) (by omega) (by rw [hz1]; omega) (by rw [hz2]; omega) (by omega)
  rw [hz1] at this
  simp only [Int.toNat_natCast, Nat.mul_one] at this
  have e : madeCells (Value.map none).cells n = (List.replicate n (Value.map none)).toArray := by
    apply Array.ext
    · simp [madeCells]
    · intro i h1 h2
      simp [madeCells, Value.cells, Nat.mod_one]
  rw [e] at this
  exact this
/-- The blocks that are made first. -/
structure EdIn (w : World) (n : Nat) (wx : World) (l gr gu gd : Nat) : Prop where
  below : Below w.heap.size w wx
  box : wx.heap[l]? = some (.cells #[.slice (some ⟨gr, 0, none⟩) n n, .slice (some ⟨gu, 0, none⟩) n n, .slice (some ⟨gd, 0, none⟩) n n] 98 (0, 0))
  rks : wx.heap[gr]? = some (.cells (Array.replicate n (.int .i64 0)) 3 (0, 0))
  ups : wx.heap[gu]? = some (.cells (Array.replicate n (.map none)) 101 (0, 0))
  dns : wx.heap[gd]? = some (.cells (Array.replicate n (.map none)) 101 (0, 0))
  apart : gu ≠ gd
  ge : w.heap.size ≤ l ∧ w.heap.size ≤ gr ∧ w.heap.size ≤ gu ∧ w.heap.size ≤ gd
theorem ed_mk {w X : World} {n l gr gu gd : Nat} (hl : l = X.heap.size) (hb : Below w.heap.size w X) (hr : X.heap[gr]? = some (.cells (Array.replicate n (.int .i64 0)) 3 (0, 0))) (hu : X.heap[gu]? = some (.cells (Array.replicate n (.map none)) 101 (0, 0))) (hd : X.heap[gd]? = some (.cells (Array.replicate n (.map none)) 101 (0, 0))) (ha : gu ≠ gd) (hge : w.heap.size ≤ gr ∧ w.heap.size ≤ gu ∧ w.heap.size ≤ gd) :
    EdIn w n (X.alloc (.cells #[.slice (some ⟨gr, 0, none⟩) n n, .slice (some ⟨gu, 0, none⟩) n n, .slice (some ⟨gd, 0, none⟩) n n] 98)).drew l gr gu gd := by
  have old : ∀ {k t : Nat} {c : Array Value}, X.heap[k]? = some (.cells c t (0, 0)) → (X.alloc (.cells #[.slice (some ⟨gr, 0, none⟩) n n, .slice (some ⟨gu, 0, none⟩) n n, .slice (some ⟨gd, 0, none⟩) n n] 98)).heap[k]? = some (.cells c t (0, 0)) := fun hk => (Below.heap_alloc _ _ _ (Array.getElem?_eq_some_iff.1 hk).1).trans hk
  subst hl
  exact ⟨(hb.alloc hb.size _).drew, heap_alloc_new _ _, old hr, old hu, old hd, ha, hb.size, hge⟩
def halfV (n i : Nat) (m : Nat → Nat) : List Value := (List.range n).map fun q => if q < i then .map (some (m q)) else .map none
theorem halfV_zero (n : Nat) (m : Nat → Nat) : halfV n 0 m = List.replicate n (.map none) := by
  apply List.ext_getElem
  · simp [halfV]
  · intro i h1 h2
    simp [halfV]
theorem halfV_all (n : Nat) (m : Nat → Nat) : halfV n n m = mapsV n m := by
  unfold halfV mapsV
  exact List.map_congr_left fun q hq => by rw [if_pos (List.mem_range.1 hq)]
def updM (f : Nat → Nat) (a x : Nat) : Nat → Nat := fun b => if b = a then x else f b
theorem halfV_set {n i : Nat} (m : Nat → Nat) (N : Nat) : (halfV n i m).set i (.map (some N)) = halfV n (i + 1) (updM m i N) := by
  apply List.ext_getElem
  · simp [halfV]
  · intro j h1 h2
    rw [List.getElem_set]
    simp only [halfV, List.getElem_map, List.getElem_range, updM]
    by_cases e : i = j
    · subst e; simp
    · rw [if_neg e]
      by_cases e3 : j < i
      · rw [if_pos e3, if_pos (by omega), if_neg (fun e2 => e e2.symm)]
      · rw [if_neg e3, if_neg (by omega)]
/-- While the maps are made: those of the first i places are there. -/
structure EdLp (n : Nat) (w : World) (l gr gu gd i : Nat) (mu md : Nat → Nat) (wr : World) : Prop where
  box : wr.heap[l]? = some (.cells #[.slice (some ⟨gr, 0, none⟩) n n, .slice (some ⟨gu, 0, none⟩) n n, .slice (some ⟨gd, 0, none⟩) n n] 98 (0, 0))
  rks : wr.heap[gr]? = some (.cells (Array.replicate n (.int .i64 0)) 3 (0, 0))
  ups : wr.heap[gu]? = some (.cells (halfV n i mu).toArray 101 (0, 0))
  dns : wr.heap[gd]? = some (.cells (halfV n i md).toArray 101 (0, 0))
  hmu : ∀ q, q < i → MapAt n wr (mu q) (fun _ => none) ∧ w.heap.size ≤ mu q
  hmd : ∀ q, q < i → MapAt n wr (md q) (fun _ => none) ∧ w.heap.size ≤ md q
  uu : ∀ p q, p < i → q < i → mu p = mu q → p = q
  dd : ∀ p q, p < i → q < i → md p = md q → p = q
  ud : ∀ p q, p < i → q < i → mu p ≠ md q
  apart : gu ≠ gd
  ge : w.heap.size ≤ l ∧ w.heap.size ≤ gr ∧ w.heap.size ≤ gu ∧ w.heap.size ≤ gd
  below : Below w.heap.size w wr
theorem edlp_zero {n l gr gu gd : Nat} {w wx : World} (h : EdIn w n wx l gr gu gd) : EdLp n w l gr gu gd 0 (fun _ => 0) (fun _ => 0) wx :=
  ⟨h.box, h.rks, by rw [halfV_zero, List.toArray_replicate]; exact h.ups, by rw [halfV_zero, List.toArray_replicate]; exact h.dns, fun q hq => absurd hq (Nat.not_lt_zero _), fun q hq => absurd hq (Nat.not_lt_zero _), fun p q hp => absurd hp (Nat.not_lt_zero _), fun p q hp => absurd hp (Nat.not_lt_zero _), fun p q hp => absurd hp (Nat.not_lt_zero _), h.apart, h.ge, h.below⟩
theorem ed_next {n l gr gu gd i N M : Nat} {mu md : Nat → Nat} {w wr W1 W2 W3 : World} (h : EdLp n w l gr gu gd i mu md wr) (hi : i < n) (hN : wr.heap.size = N) (hW1 : wr.alloc (.map #[] 0) = W1) (hW2 : W1.setCell ⟨gu, i, none⟩ (.map (some N)) = W2) (hM : W2.heap.size = M) (hW3 : W2.alloc (.map #[] 0) = W3) :
    EdLp n w l gr gu gd (i + 1) (updM mu i N) (updM md i M) (W3.setCell ⟨gd, i, none⟩ (.map (some M))) ∧ W1.cell? ⟨gu, i, none⟩ = some (.map none) ∧ W1.frozen? ⟨gu, i, none⟩ = false ∧ W1.cell? ⟨l, 2, none⟩ = some (.slice (some ⟨gd, 0, none⟩) n n) ∧ W3.cell? ⟨gd, i, none⟩ = some (.map none) ∧ W3.frozen? ⟨gd, i, none⟩ = false ∧ W1.cell? ⟨gd, i, none⟩ = some (.map none) := by
  have lt : ∀ {k : Nat} {o : Obj}, wr.heap[k]? = some o → k < wr.heap.size := fun hk => (Array.getElem?_eq_some_iff.1 hk).1
  have a1 : ∀ {k : Nat} {o : Obj}, wr.heap[k]? = some o → W1.heap[k]? = some o := fun hk => by rw [← hW1, Below.heap_alloc _ _ _ (lt hk)]; exact hk
  have a2 : ∀ {k : Nat} {o : Obj}, wr.heap[k]? = some o → k ≠ gu → W2.heap[k]? = some o := fun hk hne => by rw [← hW2, heap_setCell_other _ _ _ _ hne]; exact a1 hk
  have s2 : W2.heap.size = wr.heap.size + 1 := by rw [← hW2, ← hW1]; simp [World.setCell]
  have a3 : ∀ {k : Nat} {o : Obj}, wr.heap[k]? = some o → k ≠ gu → W3.heap[k]? = some o := fun hk hne => by rw [← hW3, Below.heap_alloc _ _ _ (by rw [s2]; have := lt hk; omega)]; exact a2 hk hne
  have a4 : ∀ {k : Nat} {o : Obj}, wr.heap[k]? = some o → k ≠ gu → k ≠ gd → (W3.setCell ⟨gd, i, none⟩ (.map (some M))).heap[k]? = some o := fun hk hne hnd => by rw [heap_setCell_other _ _ _ _ hnd]; exact a3 hk hne
  have gu3 : W3.heap[gu]? = some (.cells (halfV n (i + 1) (updM mu i N)).toArray 101 (0, 0)) := by
    rw [← hW3, Below.heap_alloc _ _ _ (by rw [s2]; have := lt h.ups; omega), ← hW2, heap_setCell_same _ _ i _ _ _ (a1 h.ups), List.setIfInBounds_toArray, halfV_set]
  have gd3 := a3 h.dns (fun e => h.apart e.symm)
  have nl1 : l ≠ gu := fun e => by have h1 := h.box; rw [e, h.ups] at h1; simp at h1
  have nl2 : l ≠ gd := fun e => by have h1 := h.box; rw [e, h.dns] at h1; simp at h1
  have nr1 : gr ≠ gu := fun e => by have h1 := h.rks; rw [e, h.ups] at h1; simp at h1
  have nr2 : gr ≠ gd := fun e => by have h1 := h.rks; rw [e, h.dns] at h1; simp at h1
  have mnu : ∀ {m : Nat} {F : Nat → Option Value}, MapAt n wr m F → m ≠ gu ∧ m ≠ gd := fun hm => ⟨fun e => hm.ne_cells h.ups e.symm, fun e => hm.ne_cells h.dns e.symm⟩
  have keep : ∀ {m : Nat} {F : Nat → Option Value}, MapAt n wr m F → MapAt n (W3.setCell ⟨gd, i, none⟩ (.map (some M))) m F := fun hm => hm.of_block (by
    obtain ⟨es, cl, e⟩ := hm.isMap
    rw [e]; exact a4 e (mnu hm).1 (mnu hm).2)
  have newN : MapAt n (W3.setCell ⟨gd, i, none⟩ (.map (some M))) N fun _ => none := by
    have h0 := MapAt.made n wr
    rw [hN, hW1] at h0
    have hlt1 : gu < N := by rw [← hN]; exact lt h.ups
    have hlt2 : gd < N := by rw [← hN]; exact lt h.dns
    refine h0.of_block ?_
    rw [heap_setCell_other _ _ _ _ (show N ≠ gd by omega), ← hW3, Below.heap_alloc _ _ _ (by rw [s2]; omega), ← hW2, heap_setCell_other _ _ _ _ (show N ≠ gu by omega)]
  have newM : MapAt n (W3.setCell ⟨gd, i, none⟩ (.map (some M))) M fun _ => none := by
    have h0 := MapAt.made n W2
    rw [hM, hW3] at h0
    have hlt2 : gd < wr.heap.size := lt h.dns
    exact h0.of_block (heap_setCell_other _ _ _ _ (show M ≠ gd by omega))
  have oldlt : ∀ q, q < i → mu q < N ∧ md q < N := fun q hq => ⟨by rw [← hN]; exact (h.hmu q hq).1.lt, by rw [← hN]; exact (h.hmd q hq).1.lt⟩
  have us : ∀ (f : Nat → Nat) (x : Nat), updM f i x i = x := fun f x => if_pos rfl
  have uo : ∀ (f : Nat → Nat) (x q : Nat), q ≠ i → updM f i x q = f q := fun f x q hq => if_neg hq
  refine ⟨⟨a4 h.box nl1 nl2, a4 h.rks nr1 nr2, by rw [heap_setCell_other _ _ _ _ h.apart]; exact gu3, by rw [heap_setCell_same _ _ i _ _ _ gd3, List.setIfInBounds_toArray, halfV_set], fun q hq => ?_, fun q hq => ?_, fun p q hp hq e => ?_, fun p q hp hq e => ?_, fun p q hp hq e => ?_, h.apart, h.ge, ?_⟩, ?_, ?_, ?_, ?_, ?_, ?_⟩
  · by_cases e : q = i
    · subst e; rw [us]; exact ⟨newN, by rw [← hN]; exact h.below.size⟩
    · rw [uo _ _ _ e]; exact ⟨keep (h.hmu q (by omega)).1, (h.hmu q (by omega)).2⟩
  · by_cases e : q = i
    · subst e; rw [us]; exact ⟨newM, by have := h.below.size; omega⟩
    · rw [uo _ _ _ e]; exact ⟨keep (h.hmd q (by omega)).1, (h.hmd q (by omega)).2⟩
  · by_cases ep : p = i
    · by_cases eq : q = i
      · omega
      · subst ep; rw [us, uo _ _ _ eq] at e; have := oldlt q (by omega); omega
    · by_cases eq : q = i
      · subst eq; rw [us, uo _ _ _ ep] at e; have := oldlt p (by omega); omega
      · rw [uo _ _ _ ep, uo _ _ _ eq] at e; exact h.uu p q (by omega) (by omega) e
  · by_cases ep : p = i
    · by_cases eq : q = i
      · omega
      · subst ep; rw [us, uo _ _ _ eq] at e; have := oldlt q (by omega); omega
    · by_cases eq : q = i
      · subst eq; rw [us, uo _ _ _ ep] at e; have := oldlt p (by omega); omega
      · rw [uo _ _ _ ep, uo _ _ _ eq] at e; exact h.dd p q (by omega) (by omega) e
  · by_cases ep : p = i
    · by_cases eq : q = i
      · subst ep; subst eq; rw [us, us] at e; omega
      · subst ep; rw [us, uo _ _ _ eq] at e; have := oldlt q (by omega); omega
    · by_cases eq : q = i
      · subst eq; rw [us, uo _ _ _ ep] at e; have := oldlt p (by omega); omega
      · rw [uo _ _ _ ep, uo _ _ _ eq] at e; exact h.ud p q (by omega) (by omega) e
  · have b1 : Below w.heap.size w W1 := hW1 ▸ h.below.alloc h.below.size _
    have b2 : Below w.heap.size w W2 := hW2 ▸ b1.setCell h.ge.2.2.1 _
    have b3 : Below w.heap.size w W3 := hW3 ▸ b2.alloc b2.size _
    exact b3.setCell h.ge.2.2.2 _
  · rw [cell_of_row W1 gu i _ _ _ (a1 h.ups)]; simp [halfV, hi]
  · exact frozen_of_row W1 gu i _ _ (a1 h.ups)
  · rw [cell_of_row W1 l 2 _ _ _ (a1 h.box)]; rfl
  · rw [cell_of_row W3 gd i _ _ _ gd3]; simp [halfV, hi]
  · exact frozen_of_row W3 gd i _ _ gd3
  · rw [cell_of_row W1 gd i _ _ _ (a1 h.dns)]; simp [halfV, hi]
/-- The edges as links. -/
def edM (n : Nat) (W : Nat → Nat → Option Int) : Mx := fun a c => if a < n ∧ c < n then (W a c).map fun x => (x, -1) else none
def lnkE (p : Nat) (R : List (Int × Int)) : List Lnk := R.map fun e => (p, e.1.toNat, (e.2, -1))
def allE (n : Nat) (W : Nat → Nat → Option Int) (i : Nat) : List Lnk := (List.range i).flatMap fun p => lnkE p (rowM n W p)
theorem jn_app (U : Mx) (L M : List Lnk) : jn U (L ++ M) = jn (jn U L) M := by
  induction L generalizing U with
  | nil => rfl
  | cons h r ih => exact ih _
theorem allE_succ (n : Nat) (W : Nat → Nat → Option Int) (i : Nat) : allE n W (i + 1) = allE n W i ++ lnkE i (rowM n W i) := by
  unfold allE
  rw [List.range_succ, List.flatMap_append]
  simp
theorem mem_allE {n : Nat} {W : Nat → Nat → Option Int} {i : Nat} {k : Lnk} : k ∈ allE n W i ↔ ∃ x, k.1 < i ∧ k.2.1 < n ∧ W k.1 k.2.1 = some x ∧ k.2.2 = (x, -1) := by
  unfold allE lnkE
  rw [List.mem_flatMap]
  constructor
  · rintro ⟨p, hp, hk⟩
    obtain ⟨e, he, rfl⟩ := List.mem_map.1 hk
    obtain ⟨q, v, hq, hv, rfl⟩ := mem_rowM.1 he
    exact ⟨v, List.mem_range.1 hp, by simpa using hq, by simpa using hv, rfl⟩
  · rintro ⟨x, h1, h2, h3, h4⟩
    obtain ⟨a, c, v⟩ := k
    simp only at h1 h2 h3 h4
    refine ⟨a, List.mem_range.2 h1, List.mem_map.2 ⟨((c : Int), x), mem_rowM.2 ⟨c, x, h2, h3, rfl⟩, ?_⟩⟩
    rw [h4]
    simp
theorem jn_allE (n : Nat) (W : Nat → Nat → Option Int) : jn (fun _ _ => none) (allE n W n) = edM n W := by
  funext a c
  unfold edM
  by_cases h : a < n ∧ c < n
  · rw [if_pos h]
    cases e : W a c with
    | none =>
      refine jn_out fun k hk e2 => ?_
      obtain ⟨x, _, _, h3, _⟩ := mem_allE.1 hk
      rw [e2.1, e2.2, e] at h3
      cases h3
    | some x =>
      refine jn_in (mem_allE.2 ⟨x, h.1, h.2, e, rfl⟩) fun k hk e1 e2 => ?_
      obtain ⟨x', _, _, h3, h4⟩ := mem_allE.1 hk
      rw [e1, e2, e] at h3
      cases h3
      exact h4
  · rw [if_neg h]
    refine jn_out fun k hk e2 => ?_
    obtain ⟨x, h1, h2, _⟩ := mem_allE.1 hk
    exact h ⟨by omega, by omega⟩
theorem edlp_end {n l gr gu gd : Nat} {mu md : Nat → Nat} {w wr : World} (h : EdLp n w l gr gu gd n mu md wr) : LfA n wr ⟨l, gr, gu, gd, mu, md⟩ (fun _ => 0) (fun _ _ => none) (fun _ _ => none) ∧ (∀ k, LfB.S ⟨l, gr, gu, gd, mu, md⟩ n k → w.heap.size ≤ k) := by
  refine ⟨⟨h.box, ?_, by have := h.ups; rw [halfV_all] at this; exact this, by have := h.dns; rw [halfV_all] at this; exact this, fun p hp => (h.hmu p hp).1, fun p hp => (h.hmd p hp).1, h.uu, h.dd, h.ud, h.apart⟩, fun k hk => ?_⟩
  · have e : ((List.range n).map fun _ => Value.int .i64 0) = List.replicate n (.int .i64 0) := by
      apply List.ext_getElem
      · simp
      · intro i h1 h2
        simp
    show wr.heap[gr]? = some (.cells ((List.range n).map fun _ => Value.int .i64 0).toArray 3 (0, 0))
    rw [e, List.toArray_replicate]
    exact h.rks
  · rcases hk with rfl | rfl | rfl | rfl | ⟨p, hp, rfl | rfl⟩
    · exact h.ge.1
    · exact h.ge.2.1
    · exact h.ge.2.2.1
    · exact h.ge.2.2.2
    · exact (h.hmu p hp).2
    · exact (h.hmd p hp).2
/-- While edges come. -/
structure EeIn (n : Nat) (w : World) (b : LfB) (U : Mx) (wr : World) : Prop where
  lf : LfA n wr b (fun _ => 0) U U
  gb : ∀ k, b.S n k → w.heap.size ≤ k
  below : Below w.heap.size w wr
theorem EeIn.later {n : Nat} {w wr w' : World} {b : LfB} {U : Mx} (h : EeIn n w b U wr) (f : Below wr.heap.size wr w') : EeIn n w b U w' := ⟨h.lf.later f, h.gb, h.below.trans (f.mono h.below.size)⟩
set_option maxRecDepth 100000 in
set_option maxHeartbeats 6400000 in
theorem edges_any {w : World} {g n : Nat} {W : Nat → Nat → Option Int} (h : GAt w g n W) (hn : 1 ≤ n ∧ n ≤ 32) (hW : WOk n W) :
    Calls Try.prog 46 #[.pointer (some ⟨g, 0, none⟩)] w fun e w' => ∃ b : LfB, e = .returned (.pointer (some ⟨b.l, 0, none⟩)) ∧ LfA n w' b (fun _ => 0) (edM n W) (edM n W) ∧ (∀ k, b.S n k → w.heap.size ≤ k) ∧ Below w.heap.size w w' := by
  have HG := hide h
  have HN := hide hn
  have HPL := hide (places_any h)
  have hmi := fun w => made_ints n hn.2 w
  have hmm := fun w => made_maps n hn.2 w
  clear h
  go_enter Try.func46, Try.ntmps46
  go_upto_region 2 with (go_at_call 36; refine HPL.out.mono ?_; rintro e w' ⟨rfl, hw⟩; rw [hw]; clear hw)
  go_cut [4] from 11 to 18 (fun v4 wx => ∃ l gr gu gd, v4 = .pointer (some ⟨l, 0, none⟩) ∧ Hid (EdIn w n wx l gr gu gd))
  case first =>
    go_region
    all_goals
      go_wp2_with fail
      go_meet
      case rel =>
        refine ⟨_, _, _, _, rfl, ed_mk ?_ ?_ ?_ ?_ ?_ ?_ ?_⟩
        case refine_2 => repeat first | exact Below.refl _ _ | refine below_drewN2 ?_ _ | refine below_alloc2 ?_ _
        case refine_6 => omega
        case refine_7 => omega
        case refine_1 => simp only [size_alloc]
        all_goals repeat first | (refine at_new ?_; simp only [size_alloc]; done) | refine at_drew ?_ | (refine at_old ?_ ?_; (simp only [size_alloc]; omega))
  case rest =>
    obtain ⟨l, gr, gu, gd, rfl, HB⟩ := hcut
    have HS := hide (edlp_zero HB.out)
    clear HB hmi hmm
    go_wp2
    go_loopw [20] (fun vi wr => ∃ (i : Nat) (mu md : Nat → Nat), vi = .int .i64 i ∧ i ≤ n ∧ Hid (EdLp n w l gr gu gd i mu md wr)) (fun vi _ => n - (intOf vi).toNat)
    case atStart => exact ⟨0, _, _, rfl, Nat.zero_le _, HS.out⟩
    case round =>
      clear HS
      obtain ⟨i, mu, md, rfl, hi, HR⟩ := hrel
      by_cases hin : i < n
      · have i1 : (i : Int) < (n : Int) := by omega
        have c1 := cell_of_row wr l 1 _ _ _ HR.out.box
        have c2 := cell_of_row wr l 2 _ _ _ HR.out.box
        simp only [List.getElem?_toArray, List.getElem?_cons_succ, List.getElem?_cons_zero] at c1 c2
        have u1 : wr.cell? ⟨gu, i, none⟩ = some (.map none) := by rw [cell_of_row wr gu i _ _ _ HR.out.ups]; simp [halfV, hin]
        have u2 : wr.cell? ⟨gd, i, none⟩ = some (.map none) := by rw [cell_of_row wr gd i _ _ _ HR.out.dns]; simp [halfV, hin]
        have z1 := frozen_of_row wr gu i _ _ HR.out.ups
        have z2 := frozen_of_row wr gd i _ _ HR.out.dns
        have n1 : ¬ gu = gd := HR.out.apart
        have n2 : ¬ gd = gu := fun e => HR.out.apart e.symm
        have n3 : ¬ gu = l := fun e => by have h1 := HR.out.box; rw [← e, HR.out.ups] at h1; simp at h1
        have n4 : ¬ l = gu := fun e => n3 e.symm
        obtain ⟨N, hN⟩ : ∃ N, wr.heap.size = N := ⟨_, rfl⟩
        obtain ⟨W1, hW1⟩ : ∃ W1, wr.alloc (.map #[] 0) = W1 := ⟨_, rfl⟩
        have mkA : (Instr.makeMap 101 none).run Try.prog wr = .ok (.map (some N)) W1 := by rw [← hN, ← hW1]; rfl
        obtain ⟨W2, hW2⟩ : ∃ W2, W1.setCell ⟨gu, i, none⟩ (.map (some N)) = W2 := ⟨_, rfl⟩
        obtain ⟨M, hM⟩ : ∃ M, W2.heap.size = M := ⟨_, rfl⟩
        obtain ⟨W3, hW3⟩ : ∃ W3, W2.alloc (.map #[] 0) = W3 := ⟨_, rfl⟩
        have mkB : (Instr.makeMap 101 none).run Try.prog (W1.setCell ⟨gu, i, none⟩ (.map (some N))) = .ok (.map (some M)) W3 := by rw [hW2, ← hM, ← hW3]; rfl
        obtain ⟨hE, f1, f2, f3, f4, f5, f6⟩ := ed_next HR.out hin hN hW1 hW2 hM hW3
        have HE := hide hE
        clear hE HR hN hW1 hW2 hM hW3 u1 u2 z1 z2 c2
        go_wp2
        go_roundw
        case rel => exact ⟨i + 1, _, _, by go_num, by omega, HE.out⟩
        case measure => simp [intOf]; omega
      · have e : i = n := by omega
        have i1 : ¬ (i : Int) < (n : Int) := by omega
        subst e
        obtain ⟨hl, hg⟩ := edlp_end HR.out
        have HS : Hid (EeIn i w ⟨l, gr, gu, gd, mu, md⟩ (jn (fun _ _ => none) (allE i W 0)) wr) := ⟨hl, hg, HR.out.below⟩
        obtain ⟨b, hb⟩ : ∃ b : LfB, b = ⟨l, gr, gu, gd, mu, md⟩ := ⟨_, rfl⟩
        have hbl : l = b.l := by rw [hb]
        rw [← hb] at HS
        rw [hbl]
        clear hl hg HR hb hbl
        go_wp2
        go_loopw [39] (fun vi wr => ∃ p : Nat, vi = .int .i64 p ∧ p ≤ i ∧ Hid (EeIn i w b (jn (fun _ _ => none) (allE i W p)) wr)) (fun vi _ => i - (intOf vi).toNat)
        case atStart => exact ⟨0, rfl, Nat.zero_le _, HS.out⟩
        case round =>
          clear HS
          obtain ⟨p, rfl, hp, HR⟩ := hrel
          by_cases hpn : p < i
          · have i2 : (p : Int) < (i : Int) := by omega
            have HZ : Hid (rowZ i W p = rowM i W p) := by show _ = _; unfold rowZ; rw [if_pos (by omega)]; rfl
            have HO := hide (out_any (HG.out.later HR.out.below) HN.out p)
            rw [HZ.out] at HO
            have hRl := rowM_len i W p
            have HSU := hide (allE_succ i W p)
            have HPN := hide hpn
            have HMEM : Hid (∀ c, c < (rowM i W p).length → ∃ (q : Nat) (x : Int), q < i ∧ (rowM i W p)[c]! = ((q : Int), x) ∧ (lnkE p (rowM i W p))[c]! = (p, q, (x, -1))) := fun c hc => by
              have hm : (rowM i W p)[c]! ∈ rowM i W p := by rw [getElem!_pos _ c hc]; exact List.getElem_mem _
              obtain ⟨q, x, h1, _, h3⟩ := mem_rowM.1 hm
              refine ⟨q, x, h1, h3, ?_⟩
              unfold lnkE
              rw [getElem!_pos _ c (by simpa using hc), List.getElem_map, ← getElem!_pos (rowM i W p) c hc, h3]
              simp
            have HLE : Hid ((lnkE p (rowM i W p)).length = (rowM i W p).length) := by show _ = _; simp [lnkE]
            generalize rowM i W p = R at HO hRl HSU HMEM HLE
            go_wp2_with (go_at_call 37; refine HO.out.mono ?_; rintro e w2 ⟨v, rfl, h1, h2⟩; obtain ⟨va, vc, rfl⟩ : ∃ a c, v = .slice a R.length c := (by rcases h1.2 with ⟨e, e2⟩ | ⟨g, cap, cur, e, _⟩; exact ⟨none, 0, by rw [e, e2]⟩; exact ⟨_, cap, e⟩); have H2 : Hid (EeIn i w b (jn (jn (fun _ _ => none) (allE i W p)) ((lnkE p R).take 0)) w2 ∧ w2.ownsRow wr.heap.size 78 2 (.slice va R.length vc) R.length (flatE R) ∧ ∀ k, b.S i k → k < wr.heap.size) := ⟨HR.out.later h2, h1, fun k hk => HR.out.lf.lt hk⟩; clear h1 h2)
            obtain ⟨B2, hB2⟩ : ∃ B2, wr.heap.size = B2 := ⟨_, rfl⟩
            rw [hB2] at H2
            generalize hU0 : jn (fun _ _ => none) (allE i W p) = U0 at H2 HR
            have HU0 := hide hU0
            clear hU0
            clear HO HR hB2
            go_loopw [46] (fun vi wr => ∃ c : Nat, vi = .int .i64 c ∧ c ≤ R.length ∧ Hid (EeIn i w b (jn U0 ((lnkE p R).take c)) wr ∧ wr.ownsRow B2 78 2 (.slice va R.length vc) R.length (flatE R) ∧ ∀ k, b.S i k → k < B2)) (fun vi _ => R.length - (intOf vi).toNat)
            case atStart => exact ⟨0, rfl, Nat.zero_le _, H2.out⟩
            case round =>
              clear H2
              obtain ⟨c, rfl, hc, HR⟩ := hrel
              by_cases hcl : c < R.length
              · obtain ⟨q, x, hq, hRc, hLc⟩ := HMEM.out c hcl
                obtain ⟨gb, hva, d0, d1⟩ : ∃ gb, va = some ⟨gb, 0, none⟩ ∧ wr.cell? ⟨gb, c * 2, none⟩ = some (.int .i64 q) ∧ wr.cell? ⟨gb, c * 2 + 1, none⟩ = some (.int .i64 x) := by
                  have hr := HR.out.2.1
                  rcases hr.2 with ⟨_, e2⟩ | ⟨gb, cap, cur, e0, hb, _⟩
                  · omega
                  · cases e0
                    have f := flatE_get R c hcl
                    rw [hRc] at f
                    exact ⟨gb, rfl, by rw [hr.cellAt _ (by omega)]; exact f.1, by rw [hr.cellAt _ (by omega)]; exact f.2⟩
                subst hva
                have i3 : (c : Int) < (R.length : Int) := by omega
                have hf : Below wr.heap.size wr (wr.alloc (.cells #[.int .i64 q, .int .i64 x] 78)) := (Below.refl _ _).alloc (Nat.le_refl _) _
                have HLA := hide (HR.out.1.later hf)
                have HJN := hide (join_any HLA.out.lf HN.out.2 HPN.out hq x (-1))
                have HRA := hide (own_of_block HR.out.2.1 fun k hk => hf.block k (HR.out.2.1.lt k hk).2)
                have HLT := hide HR.out.2.2
                have HT := hide (jn_take U0 (lnkE p R) c (by rw [HLE.out]; exact hcl))
                rw [hLc] at HT
                simp only at HT
                clear hf HR hRc hLc
                go_wp2_with (go_at_call 66; refine HJN.out.mono ?_; rintro e w3 ⟨rfl, h1, h2⟩; have H3 : Hid (EeIn i w b (jn U0 ((lnkE p R).take (c + 1))) w3 ∧ w3.ownsRow B2 78 2 (.slice (some ⟨gb, 0, none⟩) R.length vc) R.length (flatE R) ∧ ∀ k, b.S i k → k < B2) := ⟨⟨by rw [HT.out]; exact h1, HLA.out.gb, HLA.out.below.trans (h2.below HLA.out.below.size HLA.out.gb)⟩, own_of_block HRA.out fun k hk => h2.block k (HRA.out.lt k hk).2 (fun e => by have := HLT.out k e; have := (HRA.out.lt k hk).1; omega), HLT.out⟩; clear h1 h2)
                go_roundw
                case rel => exact ⟨c + 1, by go_num, by omega, H3.out⟩
                case measure => simp [intOf]; omega
              · have e : c = R.length := by omega
                have i3 : ¬ (c : Int) < (R.length : Int) := by omega
                have HE : Hid (EeIn i w b (jn U0 (lnkE p R)) wr) := by
                  have := HR.out.1
                  rw [e, List.take_of_length_le (by rw [HLE.out]; exact Nat.le_refl _)] at this
                  exact this
                replace e := hide e
                clear HR
                go_wp2
                go_roundw
                case rel => exact ⟨p + 1, by go_num, by have := HPN.out; omega, by rw [HSU.out, jn_app, HU0.out]; exact HE.out⟩
                case measure => have := HPN.out; simp [intOf]; omega
          · have e : p = i := by omega
            have i2 : ¬ (p : Int) < (i : Int) := by omega
            have HE : Hid (EeIn i w b (edM i W) wr) := by
              have := HR.out
              rw [e, jn_allE] at this
              exact this
            replace e := hide e
            clear HR
            go_wp2
            go_ret
            exact ⟨b, rfl, HE.out.lf, HE.out.gb, HE.out.below⟩
end Go.Proofs.Ytlflbjnglmbdeaa
