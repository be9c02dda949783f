/-
  What the call of short's All does.
-/
import Derived.Test.YtojkdmkeankcgaaWays
import Derived.Test.YtojkdmkeankcgaaLeastC
namespace Go.Proofs.Ytojkdmkeankcgaa
open Go.RowKit Go.Sort

/-- The first rows of a matrix, one behind the other. -/
def rowsTo (n : Nat) (M : Nat → Nat → Option Int) : Nat → List Int
  | 0 => []
  | p + 1 => rowsTo n M p ++ lstV n (M p)
theorem lstV_len (n : Nat) (D : Nat → Option Int) : (lstV n D).length = n := by simp [lstV]
theorem rowsTo_eq (n : Nat) (M : Nat → Nat → Option Int) : ∀ p, rowsTo n M p = (List.range (p * n)).map fun i => (M (i / n) (i % n)).getD (-1)
  | 0 => by simp [rowsTo]
  | p + 1 => by
    rw [rowsTo, rowsTo_eq n M p, Nat.succ_mul, List.range_add, List.map_append, List.map_map]
    congr 1
    unfold lstV
    refine List.map_congr_left fun j hj => ?_
    have hj2 : j < n := List.mem_range.1 hj
    simp only [Function.comp, (cell_div (p := p) hj2).1, (cell_div (p := p) hj2).2]
theorem rowsTo_len (n : Nat) (M : Nat → Nat → Option Int) (p : Nat) : (rowsTo n M p).length = p * n := by rw [rowsTo_eq]; simp
theorem rowsTo_all (n : Nat) (M : Nat → Nat → Option Int) : rowsTo n M n = cellsM n M := rowsTo_eq n M n
theorem lst_same {n : Nat} {D E : Nat → Option Int} (h : ∀ q, q < n → D q = E q) : lstV n D = lstV n E := List.map_congr_left fun j hj => by rw [h j (List.mem_range.1 hj)]
/-- While All runs. -/
structure AlIn (B : Nat) (w : World) (n : Nat) (wr : World) (v : Value) (xs : List Int) : Prop where
  below : Below B w wr
  b0 : wr.heap[B]? = some (.cells #[.int .i64 0, .slice none 0 0] 39 (0, 0))
  b1 : wr.heap[B + 1]? = some (.cells #[.int .i64 n, v] 39 (0, 0))
  own : IRow wr (B + 2) v xs
section
variable {B n : Nat} {w wr w' : World} {v : Value} {xs : List Int}
theorem AlIn.lt (h : AlIn B w n wr v xs) : B + 1 < wr.heap.size := (Array.getElem?_eq_some_iff.1 h.b1).1
theorem AlIn.later (h : AlIn B w n wr v xs) (f : Below wr.heap.size wr w') : AlIn B w n w' v xs := by
  have := h.lt
  exact ⟨h.below.trans (f.mono (by omega)), (f.block _ (by omega)).trans h.b0, (f.block _ h.lt).trans h.b1, h.own.later (Nat.le_refl _) f⟩
theorem AlIn.more (h : AlIn B w n wr v xs) {w3 : World} {g cap : Nat} {ys : List Int} (hown : w3.ownsRow (B + 2) 3 1 (.slice (some ⟨g, 0, none⟩) (xs.length + ys.length) cap) (xs.length + ys.length) (intsV xs ++ intsV ys)) (hg : wr.grownBy w3 v.ownBlock) :
    AlIn B w n (w3.setCell ⟨B + 1, 1, none⟩ (.slice (some ⟨g, 0, none⟩) (xs.length + ys.length) cap)) (.slice (some ⟨g, 0, none⟩) (xs.length + ys.length) cap) (xs ++ ys) := by
  have hlt := h.lt
  have hne : ∀ k, k < B + 2 → v.ownBlock ≠ some k := fun k hk e => by have := (h.own.lt k e).1; omega
  have keep : ∀ k, k < B + 2 → w3.heap[k]? = wr.heap[k]? := fun k hk => hg.block k (by omega) (fun e => hne k hk e.symm)
  have hb3 : Below B w w3 := h.below.grown hg (by omega) fun k hk => by have := (h.own.lt k hk).1; omega
  refine ⟨hb3.setCell (by show B ≤ B + 1; omega) _, ?_, ?_, ?_⟩
  · rw [heap_setCell_other _ _ _ _ (by show B ≠ B + 1; omega), keep _ (by omega)]; exact h.b0
  · rw [heap_setCell_same w3 (B + 1) 1 _ _ _ ((keep _ (by omega)).trans h.b1)]; rfl
  · have : IRow w3 (B + 2) (.slice (some ⟨g, 0, none⟩) (xs.length + ys.length) cap) (xs ++ ys) := by
      unfold IRow
      rw [List.length_append, intsV_app]
      exact hown
    exact this.setOther (by omega) _
end
theorem alin_start (w : World) (n : Nat) : AlIn w.heap.size w n ((w.alloc (.cells #[.int .i64 0, .slice none 0 0] 39)).alloc (.cells #[.int .i64 n, .slice none 0 0] 39)) (.slice none 0 0) [] := by
  have h1 : (w.alloc (.cells #[.int .i64 0, .slice none 0 0] 39)).heap.size = w.heap.size + 1 := by simp
  refine ⟨below_two (Below.refl _ _) (Nat.le_refl _) _ _, ?_, ?_, irow_nil _ _⟩
  · rw [Below.heap_alloc _ _ _ (by rw [h1]; omega)]; exact heap_alloc_new _ _
  · rw [← h1]; exact heap_alloc_new _ _
theorem all_nil (w : World) : Calls Try.prog 17 #[.pointer none] w fun e w' => e = .returned (.agg #[.int .i64 0, .slice none 0 0]) ∧ Below w.heap.size w w' := by
  have HPL := hide (places_nil (w.alloc (.cells #[.int .i64 0, .slice none 0 0] 39)))
  have HS := hide (alin_start w 0)
  obtain ⟨B, hB⟩ : ∃ B, w.heap.size = B := ⟨_, rfl⟩
  have HB := hide hB
  rw [hB] at HS ⊢
  clear hB
  go_enter Try.func17, Try.ntmps17
  go_wp2_with (go_at_call 26; refine HPL.out.mono ?_; rintro e w' ⟨rfl, hw⟩; rw [hw]; clear hw)
  try rw [HB.out]
  have e0 : (w.alloc (.cells #[.int .i64 0, .slice none 0 0] 39)).alloc (.cells #[.int .i64 0, .slice none 0 0] 39) = (w.alloc (.cells #[.int .i64 0, .slice none 0 0] 39)).alloc (.cells #[.int .i64 ((0 : Nat) : Int), .slice none 0 0] 39) := rfl
  rw [e0]
  generalize (w.alloc (.cells #[.int .i64 0, .slice none 0 0] 39)).alloc (.cells #[.int .i64 ((0 : Nat) : Int), .slice none 0 0] 39) = W0 at HS ⊢
  go_loopw [12] (fun vi wr => vi = .int .i64 0 ∧ wr = W0) (fun _ _ => 0)
  case atStart => exact ⟨rfl, rfl⟩
  case round =>
    obtain ⟨rfl, rfl⟩ := hrel
    have hA := HS.out
    have m0 := cell_of_row wr (B + 1) 0 _ _ _ hA.b1
    have m1 := cell_of_row wr (B + 1) 1 _ _ _ hA.b1
    have m2 := cell_of_row wr B 0 _ _ _ hA.b0
    have m3 := cell_of_row wr B 1 _ _ _ hA.b0
    simp only [List.getElem?_toArray, List.getElem?_cons_succ, List.getElem?_cons_zero, Int.natCast_zero] at m0 m1 m2 m3
    have f2 := frozen_of_row wr B 0 _ _ hA.b0
    have f3 := frozen_of_row wr B 1 _ _ hA.b0
    have HX : Hid (((wr.setCell ⟨B, 0, none⟩ (.int .i64 0)).setCell ⟨B, 1, none⟩ (.slice none 0 0)).heap[B]? = some (.cells #[.int .i64 0, .slice none 0 0] 39 (0, 0)) ∧ Below B w ((wr.setCell ⟨B, 0, none⟩ (.int .i64 0)).setCell ⟨B, 1, none⟩ (.slice none 0 0))) := by
      refine ⟨?_, (hA.below.setCell (Nat.le_refl _) _).setCell (Nat.le_refl _) _⟩
      rw [heap_setCell_same _ _ 1 _ _ _ (heap_setCell_same _ _ 0 _ _ _ hA.b0)]
      rfl
    clear hA HS
    go_wp2
    (try simp only [Exit.inBlock, Exit.then])
    refine bodyPost_ret (results_cell_row rfl _ _ B 39 _ (0, 0) _ rfl HX.out.1 Try.underlying39 rfl (by kernel_rfl)) rfl ?_
    exact ⟨rfl, HX.out.2⟩
set_option maxRecDepth 100000 in
set_option maxHeartbeats 6400000 in
theorem all_any {w : World} {g n : Nat} {W : Nat → Nat → Option Int} (h : GAt w g n W) (hn : 1 ≤ n ∧ n ≤ 32) (hW : WOk n W) :
    Calls Try.prog 17 #[.pointer (some ⟨g, 0, none⟩)] w fun e w' => ∃ v, e = .returned (.agg #[.int .i64 n, v]) ∧ IRow w' w.heap.size v (cellsM n (least n W)) ∧ Below w.heap.size w w' := by
  have HG := hide h
  have HN := hide hn
  have HW := hide hW
  have HPL := hide (places_any (h.later ((Below.refl _ _).alloc (Nat.le_refl _) (.cells #[.int .i64 0, .slice none 0 0] 39))))
  have HS := hide (alin_start w n)
  obtain ⟨i0, hi0, hy0, hy1, hy2⟩ := info_parts info3
  have HI := hide (And.intro hi0 (And.intro hy0 (And.intro hy1 hy2)))
  obtain ⟨B, hB⟩ : ∃ B, w.heap.size = B := ⟨_, rfl⟩
  have HB := hide hB
  rw [hB] at HS ⊢
  obtain ⟨_, hQb⟩ := mul_wrap hn.2 hn.2
  clear h hW hi0 hy0 hy1 hy2 hB
  go_enter Try.func17, Try.ntmps17
  go_wp2_with (go_at_call 26; refine HPL.out.mono ?_; rintro e w' ⟨rfl, hw⟩; rw [hw]; clear hw)
  try rw [HB.out]
  generalize (w.alloc (.cells #[.int .i64 0, .slice none 0 0] 39)).alloc (.cells #[.int .i64 n, .slice none 0 0] 39) = W0 at HS ⊢
  go_loopw [12] (fun vi wr => ∃ p : Nat, vi = .int .i64 p ∧ p ≤ n ∧ Hid (∃ v, AlIn B w n wr v (rowsTo n (least n W) p))) (fun vi _ => n - (intOf vi).toNat)
  case atStart => exact ⟨0, rfl, Nat.zero_le _, _, HS.out⟩
  case round =>
    clear HS
    obtain ⟨p, rfl, hp, HR⟩ := hrel
    obtain ⟨v, hA⟩ := HR.out
    by_cases hlt : p < n
    · have i1 : (p : Int) < (n : Int) := by omega
      have HA := hide hA
      have HF := hide (from_any (HG.out.later (by rw [HB.out]; exact hA.below)) HN.out HW.out p hlt)
      have HMUL : Hid (p * n + n ≤ 1024) := by
        show _ ≤ _
        have : (p + 1) * n ≤ 32 * 32 := Nat.mul_le_mul (by omega) hn.2
        rw [Nat.succ_mul] at this
        omega
      obtain ⟨va, vc, hv⟩ := hA.own.shape
      rw [rowsTo_len] at hv
      subst hv
      clear hA HR
      go_wp2_with (first
        | (go_at_call 32; refine HF.out.mono ?_; rintro e w1 ⟨gl, ga, D, A, rk, rfl, h1, h2, h3, h4, h5⟩; have hls : lstV n D = lstV n (least n W p) := lst_same (fun q hq => h1.eq (least_is HW.out p hlt) q hq); rw [hls] at h3; have H1 : Hid (AlIn B w n w1 (.slice va (p * n) vc) (rowsTo n (least n W) p) ∧ IRow w1 wr.heap.size (.slice (some ⟨gl, 0, none⟩) n n) (lstV n (least n W p))) := ⟨HA.out.later h5, h3⟩; have c1 : w1.cell? ⟨B + 1, 1, none⟩ = some (.slice va (p * n) vc) := (by rw [cell_of_row _ (B + 1) 1 _ _ _ H1.out.1.b1]; rfl); have f1 := frozen_of_row w1 (B + 1) 1 _ _ H1.out.1.b1; have HNW : Hid (∀ j u, (intsV (lstV n (least n W p)))[j]? = some u → w1.cell? ((⟨gl, 0, none⟩ : Addr).add j) = some u) := World.ownsRow.cells (g := gl) h3 rfl; have HOW : Hid (w1.ownsRow (B + 2) 3 1 (.slice va (p * n) vc) (p * n) (intsV (rowsTo n (least n W) p))) := (by have := H1.out.1.own; unfold IRow at this; rw [rowsTo_len] at this; exact this); clear h1 h2 h3 h4 h5 hls)
        | (at_builtin; refine wpList_append_lies _ rfl (.tmp 22) (.tmp 23) 37 rfl (B + 2) 3 i0 (.int .i64 0) 1 8 Try.underlying37 HI.out.1 HI.out.2.1 HI.out.2.2.1 HI.out.2.2.2 rfl (by decide) (.slice va (p * n) vc) (p * n) (intsV (rowsTo n (least n W) p)) rfl HOW.out ⟨gl, 0, none⟩ n n (intsV (lstV n (least n W p))) rfl (by rw [intsV_len, lstV_len]; omega) HNW.out (intsV_one _) (by omega) (by have := HMUL.out; unfold maxLen; omega) (by have := HMUL.out; omega) (by have := H1.out.1.lt; omega) w1.heap.size rfl ?_))
      intro gg cap w3 hown1 hgrow hat hlt3
      have HST : Hid (AlIn B w n (w3.setCell ⟨B + 1, 1, none⟩ (.slice (some ⟨gg, 0, none⟩) (p * n + n) cap)) (.slice (some ⟨gg, 0, none⟩) (p * n + n) cap) (rowsTo n (least n W) (p + 1))) := by
        have := H1.out.1.more (ys := lstV n (least n W p)) (g := gg) (cap := cap) (w3 := w3) (by rw [rowsTo_len, lstV_len]; exact hown1) hgrow
        rw [rowsTo_len, lstV_len] at this
        exact this
      have f3 : w3.frozen? ⟨B + 1, 1, none⟩ = false := by
        have := frozen_of_row _ (B + 1) 1 _ _ HST.out.b1
        rw [World.frozen?_setCell] at this
        exact this
      obtain ⟨u3, c3⟩ : ∃ u, w3.cell? ⟨B + 1, 1, none⟩ = some u := by
        rw [hgrow.cell_far ⟨B + 1, 1, none⟩ (by show B + 1 < _; exact H1.out.1.lt) (fun e => by have h1 := (HOW.out.lt _ e.symm).1; simp only at h1; omega)]
        exact ⟨_, c1⟩
      clear hown1 hgrow hat
      go_wp2
      go_roundw
      case rel => exact ⟨p + 1, by go_num, by omega, _, HST.out⟩
      case measure => simp [intOf]; omega
    · have hpe : p = n := by omega
      subst hpe
      rw [rowsTo_all] at hA
      have m0 := cell_of_row wr (B + 1) 0 _ _ _ hA.b1
      have m1 := cell_of_row wr (B + 1) 1 _ _ _ hA.b1
      have m2 := cell_of_row wr B 0 _ _ _ hA.b0
      have m3 := cell_of_row wr B 1 _ _ _ hA.b0
      simp only [List.getElem?_toArray, List.getElem?_cons_succ, List.getElem?_cons_zero] at m0 m1 m2 m3
      have f2 := frozen_of_row wr B 0 _ _ hA.b0
      have f3 := frozen_of_row wr B 1 _ _ hA.b0
      obtain ⟨va, vc, hva⟩ := hA.own.shape
      have HX : Hid (((wr.setCell ⟨B, 0, none⟩ (.int .i64 p)).setCell ⟨B, 1, none⟩ v).heap[B]? = some (.cells #[.int .i64 p, v] 39 (0, 0)) ∧ IRow ((wr.setCell ⟨B, 0, none⟩ (.int .i64 p)).setCell ⟨B, 1, none⟩ v) B v (cellsM p (least p W)) ∧ Below B w ((wr.setCell ⟨B, 0, none⟩ (.int .i64 p)).setCell ⟨B, 1, none⟩ v)) := by
        refine ⟨?_, ((hA.own.setOther (b := B) (j := 0) (by omega) (.int .i64 p)).setOther (b := B) (j := 1) (by omega) v).mono (by omega), (hA.below.setCell (Nat.le_refl _) _).setCell (Nat.le_refl _) _⟩
        rw [heap_setCell_same _ _ 1 _ _ _ (heap_setCell_same _ _ 0 _ _ _ hA.b0)]
        rfl
      clear hA HR
      subst hva
      go_wp2
      (try simp only [Exit.inBlock, Exit.then])
      refine bodyPost_ret (results_cell_row rfl _ _ B 39 _ (0, 0) _ rfl HX.out.1 Try.underlying39 rfl (by kernel_rfl)) rfl ?_
      exact ⟨_, rfl, HX.out.2.1, HX.out.2.2⟩
end Go.Proofs.Ytojkdmkeankcgaa
