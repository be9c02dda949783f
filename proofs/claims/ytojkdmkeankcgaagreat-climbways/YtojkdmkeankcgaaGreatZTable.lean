/-
  What the call of the document's Table does.
-/
import Derived.Test.YtojkdmkeankcgaaGreatAwake
import Derived.Test.YtojkdmkeankcgaaGreatTabP
import Derived.Test.YtojkdmkeankcgaaGreatZLeastC
namespace Go.Proofs.YtojkdmkeankcgaaGreat
open Go.RowKit Go.Sort

/-- While Table runs: r's box, the answer's, m's, and m's cells. -/
structure TabIn (B : Nat) (w : World) (r : Array Value) (n : Nat) (wr : World) (v : Value) (xs : List Int) : Prop where
  below : Below B w wr
  b0 : wr.heap[B]? = some (.cells r 24 (0, 0))
  b1 : wr.heap[B + 1]? = some (.cells #[.int .i64 0, .slice none 0 0] 29 (0, 0))
  b2 : wr.heap[B + 2]? = some (.cells #[.int .i64 n, v] 29 (0, 0))
  own : IRow wr (B + 3) v xs
section
variable {B n : Nat} {w wr : World} {r : Array Value} {v : Value} {xs : List Int}
theorem TabIn.lt (h : TabIn B w r n wr v xs) : B + 2 < wr.heap.size := by
  rcases Nat.lt_or_ge (B + 2) wr.heap.size with h' | h'
  · exact h'
  · have := h.b2; rw [Array.getElem?_eq_none h'] at this; cases this
theorem TabIn.more (h : TabIn B w r n wr v xs) {w1 w3 : World} {g cap : Nat} (o : Obj) (hw1 : w1 = wr.alloc o) (x : Int)
    (hown : w3.ownsRow (B + 3) 3 1 (.slice (some ⟨g, 0, none⟩) (xs.length + 1) cap) (xs.length + 1) (intsV xs ++ [.int .i64 x])) (hg : w1.grownBy w3 v.ownBlock) :
    TabIn B w r n (w3.setCell ⟨B + 2, 1, none⟩ (.slice (some ⟨g, 0, none⟩) (xs.length + 1) cap)) (.slice (some ⟨g, 0, none⟩) (xs.length + 1) cap) (xs ++ [x]) := by
  subst hw1
  have hlt := h.lt
  have hne : ∀ k, k < B + 3 → v.ownBlock ≠ some k := fun k hk e => by have := (h.own.lt k e).1; omega
  have keep : ∀ k, k < B + 3 → w3.heap[k]? = wr.heap[k]? := fun k hk => by
    rw [hg.block k (by simp; omega) (fun e => hne k hk e.symm), Below.heap_alloc _ _ _ (by omega)]
  have hb3 : Below B w w3 := (h.below.alloc (by omega) o).grown hg (by simp; omega) fun k hk => by have := (h.own.lt k hk).1; omega
  refine ⟨hb3.setCell (by show B ≤ B + 2; omega) _, ?_, ?_, ?_, ?_⟩
  · rw [heap_setCell_other _ _ _ _ (by show B ≠ B + 2; omega), keep _ (by omega)]; exact h.b0
  · rw [heap_setCell_other _ _ _ _ (by show B + 1 ≠ B + 2; omega), keep _ (by omega)]; exact h.b1
  · rw [heap_setCell_same w3 (B + 2) 1 _ _ _ ((keep _ (by omega)).trans h.b2)]; rfl
  · have : IRow w3 (B + 3) (.slice (some ⟨g, 0, none⟩) (xs.length + 1) cap) (xs ++ [x]) := by
      unfold IRow
      rw [List.length_append, intsV_app]
      exact hown
    exact this.setOther (by omega) _
theorem TabIn.alloc (h : TabIn B w r n wr v xs) (o : Obj) : TabIn B w r n (wr.alloc o) v xs := by
  have hlt := h.lt
  refine ⟨h.below.alloc (by omega) o, ?_, ?_, ?_, h.own.alloc o⟩
  · rw [Below.heap_alloc _ _ _ (by omega)]; exact h.b0
  · rw [Below.heap_alloc _ _ _ (by omega)]; exact h.b1
  · rw [Below.heap_alloc _ _ _ (by omega)]; exact h.b2
theorem TabIn.put {g m cap : Nat} (h : TabIn B w r n wr (.slice (some ⟨g, 0, none⟩) m cap) xs) (k : Nat) (x : Int) : TabIn B w r n (wr.setCell ⟨g, k, none⟩ (.int .i64 x)) (.slice (some ⟨g, 0, none⟩) m cap) (xs.set k x) := by
  have hg := (h.own.lt g rfl).1
  refine ⟨h.below.setCell (by show B ≤ g; omega) _, ?_, ?_, ?_, h.own.set k x⟩
  · rw [heap_setCell_other _ _ _ _ (by show B ≠ g; omega)]; exact h.b0
  · rw [heap_setCell_other _ _ _ _ (by show B + 1 ≠ g; omega)]; exact h.b1
  · rw [heap_setCell_other _ _ _ _ (by show B + 2 ≠ g; omega)]; exact h.b2
end
theorem tabin_start (w : World) (n : Nat) (r : Array Value) : TabIn w.heap.size w r n (((w.alloc (.cells r 24)).alloc (.cells #[.int .i64 0, .slice none 0 0] 29)).alloc (.cells #[.int .i64 n, .slice none 0 0] 29)) (.slice none 0 0) [] := by
  have h1 : (w.alloc (.cells r 24)).heap.size = w.heap.size + 1 := by simp
  have h2 : ((w.alloc (.cells r 24)).alloc (.cells #[.int .i64 0, .slice none 0 0] 29)).heap.size = w.heap.size + 2 := by simp
  refine ⟨(((Below.refl _ _).alloc (Nat.le_refl _) _).alloc (by simp) _).alloc (by simp; omega) _, ?_, ?_, ?_, irow_nil _ _⟩
  · rw [Below.heap_alloc _ _ _ (by rw [h2]; omega), Below.heap_alloc _ _ _ (by rw [h1]; omega)]; exact heap_alloc_new _ _
  · rw [Below.heap_alloc _ _ _ (by rw [h2]; omega), ← h1]; exact heap_alloc_new _ _
  · rw [← h2]; exact heap_alloc_new _ _
theorem rep_snoc (i : Nat) : List.replicate i (-1 : Int) ++ [-1] = List.replicate (i + 1) (-1) := by rw [List.replicate_succ']
/-- What one arc does to the cells. -/
theorem legs_cells (n : Nat) (mt : Arc → Int) (A : List Arc) (k : Nat) (hk : k < A.length) (hm : ∀ x ∈ A, 0 ≤ mt x) (p q : Nat) (x3 x4 : Int) (hx : A[k]! = ((p : Int), (q : Int), x3, x4)) (hpn : p < n) (hqn : q < n) :
    cellsM n (tab (legsM mt (A.take (k + 1)))) = if p ≠ q ∧ ((cellsM n (tab (legsM mt (A.take k))))[p * n + q]! < 0 ∨ mt A[k]! < (cellsM n (tab (legsM mt (A.take k))))[p * n + q]!) then (cellsM n (tab (legsM mt (A.take k)))).set (p * n + q) (mt A[k]!) else cellsM n (tab (legsM mt (A.take k))) := by
  have hs := legsM_snoc mt A k hk
  rw [hs]
  rw [hx]
  by_cases hpq : p = q
  · rw [if_pos (by simp [hpq]), if_neg (fun h => h.1 hpq)]
  · have hne : ¬ ((p : Int), (q : Int), x3, x4).1 = ((p : Int), (q : Int), x3, x4).2.1 := by simp only; omega
    rw [if_neg hne]
    have := cells_step n (legsM mt (A.take k)) p q (mt ((p : Int), (q : Int), x3, x4)) hpn hqn (fun v hv => by
      obtain ⟨⟨l, hl, _, _, h3⟩, _⟩ := tab_some.1 hv
      unfold legsM at hl
      rw [List.mem_map] at hl
      obtain ⟨y, hy, rfl⟩ := hl
      rw [← h3]
      exact hm y (List.mem_of_mem_take (List.mem_filter.1 hy).1))
    simp only at this ⊢
    rw [this]
    by_cases hc : (cellsM n (tab (legsM mt (A.take k))))[p * n + q]! < 0 ∨ mt ((p : Int), (q : Int), x3, x4) < (cellsM n (tab (legsM mt (A.take k))))[p * n + q]!
    · rw [if_pos hc, if_pos ⟨hpq, hc⟩]
    · rw [if_neg hc, if_neg (fun h => hc h.2)]
set_option maxRecDepth 100000 in
set_option maxHeartbeats 6400000 in
theorem table_any (n : Nat) (hn : 1 ≤ n ∧ n ≤ 32) (a : Option Addr) (m c : Nat) (A : List Arc) (d : Bool) (w : World) (h : ArcsAt w a m A) (hm : m ≤ 300) (hp : ∀ x ∈ A, placeOk (n : Int) x = true) (hw : ∀ x ∈ A, 0 ≤ mtM d x) :
    Calls Tryz.prog 28 #[.agg #[.int .i64 n, .slice a m c], .bool d] w fun e w' => ∃ v, e = .returned (.agg #[.int .i64 n, v]) ∧ IRow w' w.heap.size v (cellsM n (tab (legsM (mtM d) A))) ∧ Below w.heap.size w w' := by
  have HA := hide h
  have HP := hide hp
  have HW := hide hw
  have HLEN := hide h.len
  obtain ⟨i0, hi0, hy0, hy1, hy2⟩ := info_parts info3
  have HI := hide (And.intro hi0 (And.intro hy0 (And.intro hy1 hy2)))
  have HS := hide (tabin_start w n #[.int .i64 n, .slice a m c])
  obtain ⟨B, hB⟩ : ∃ B, w.heap.size = B := ⟨_, rfl⟩
  have HB := hide hB
  rw [hB] at HS ⊢
  obtain ⟨hmul, hQb⟩ := mul_wrap hn.2 hn.2
  obtain ⟨Q, hQ⟩ : ∃ Q, n * n = Q := ⟨_, rfl⟩
  rw [hQ] at hmul hQb
  have HQ := hide hQ
  clear h hp hw hB hi0 hy0 hy1 hy2 hQ
  go_enter Tryz.func28, Tryz.ntmps28
  go_wp2
  try rw [HB.out]
  generalize ((w.alloc (.cells #[.int .i64 n, .slice a m c] 24)).alloc (.cells #[.int .i64 0, .slice none 0 0] 29)).alloc (.cells #[.int .i64 n, .slice none 0 0] 29) = W0 at HS ⊢
  go_loopw [6] (fun vi wr => ∃ i : Nat, vi = .int .i64 i ∧ i ≤ Q ∧ Hid (∃ v, TabIn B w #[.int .i64 n, .slice a m c] n wr v (List.replicate i (-1)))) (fun vi _ => Q - (intOf vi).toNat)
  case atStart => exact ⟨0, rfl, Nat.zero_le _, _, HS.out⟩
  case round =>
    clear HS
    obtain ⟨i, rfl, hi, HR⟩ := hrel
    obtain ⟨v, hR⟩ := HR.out
    have r0 := cell_of_row wr B 0 _ _ _ hR.b0
    have r1 := cell_of_row wr B 1 _ _ _ hR.b0
    have r2 := cell_of_row wr (B + 2) 1 _ _ _ hR.b2
    have f2 := frozen_of_row wr (B + 2) 1 _ _ hR.b2
    simp only [List.getElem?_toArray, List.getElem?_cons_succ, List.getElem?_cons_zero] at r0 r1 r2
    by_cases hlt : i < Q
    · have i1 : (i : Int) < (Q : Int) := by omega
      have HRR := hide hR
      have hBz := hR.lt
      have HOW : Hid ((wr.alloc (.cells #[.int .i64 (-1)] 3)).ownsRow (B + 3) 3 1 v (List.replicate i (-1)).length (intsV (List.replicate i (-1)))) := hR.own.alloc _
      rw [List.length_replicate] at HOW
      have HNW : Hid (∀ j u, [Value.int .i64 (-1)][j]? = some u → (wr.alloc (.cells #[.int .i64 (-1)] 3)).cell? ((⟨wr.heap.size, 0, none⟩ : Addr).add j) = some u) := World.news_of_block (cs := #[.int .i64 (-1)]) (t := 3) (fr := (0, 0)) (heap_alloc_new _ _)
      clear hR
      go_wp2_with (at_builtin; refine wpList_append_lies _ rfl (.tmp 24) (.tmp 25) 27 rfl (B + 3) 3 i0 (.int .i64 0) 1 8 Tryz.underlying27 HI.out.1 HI.out.2.1 HI.out.2.2.1 HI.out.2.2.2 rfl (by decide) v i (intsV (List.replicate i (-1))) rfl HOW.out ⟨wr.heap.size, 0, none⟩ 1 1 [.int .i64 (-1)] rfl rfl HNW.out (by simp [Value.oneCell']) (by decide) (by unfold maxLen; omega) (by omega) (by simp; omega) (wr.heap.size + 1) (by simp) ?_)
      intro gg cap w3 hown1 hgrow hat hlt3
      have HST : Hid (TabIn B w #[.int .i64 n, .slice a m c] n (w3.setCell ⟨B + 2, 1, none⟩ (.slice (some ⟨gg, 0, none⟩) (i + 1) cap)) (.slice (some ⟨gg, 0, none⟩) (i + 1) cap) (List.replicate (i + 1) (-1))) := by
        have := HRR.out.more (.cells #[.int .i64 (-1)] 3) rfl (-1) (g := gg) (cap := cap) (w3 := w3) (by rw [List.length_replicate]; exact hown1) hgrow
        rw [rep_snoc, List.length_replicate] at this
        exact this
      have f3 : w3.frozen? ⟨B + 2, 1, none⟩ = false := by
        have := HST.out.b2
        have := frozen_of_row _ (B + 2) 1 _ _ this
        rw [World.frozen?_setCell] at this
        exact this
      have c3 : ∃ u, w3.cell? ⟨B + 2, 1, none⟩ = some u := by
        rw [hgrow.cell_far ⟨B + 2, 1, none⟩ (by show B + 2 < _; simp; omega) (fun e => by have := (HOW.out.lt _ e.symm).1; simp at this), World.cell?_alloc_lt _ _ _ (by show B + 2 < _; omega)]
        exact ⟨_, r2⟩
      obtain ⟨u3, c3⟩ := c3
      clear hown1 hgrow hat
      go_wp2
      go_roundw
      case rel => exact ⟨i + 1, by go_num, by omega, _, HST.out⟩
      case measure => simp [intOf]; omega
    · have hiQ : i = Q := by omega
      subst hiQ
      have HRR : Hid (TabIn B w #[.int .i64 n, .slice a m c] n wr v (cellsM n (tab (legsM (mtM d) (A.take 0))))) := by
        show TabIn _ _ _ _ _ _ _
        rw [List.take_zero, show legsM (mtM d) [] = [] from rfl, cellsM_none, HQ.out]
        exact hR
      clear hR HR
      go_wp2
      go_loopw [7] (fun vi wr => ∃ k : Nat, vi = .int .i64 k ∧ k ≤ m ∧ Hid (∃ v, TabIn B w #[.int .i64 n, .slice a m c] n wr v (cellsM n (tab (legsM (mtM d) (A.take k)))))) (fun vi _ => m - (intOf vi).toNat)
      case atStart => exact ⟨0, rfl, Nat.zero_le _, _, HRR.out⟩
      case round =>
        clear HRR r0 r1 r2 f2 hmul hQb
        obtain ⟨k, rfl, hk, HR⟩ := hrel
        obtain ⟨v, hR⟩ := HR.out
        have r0 := cell_of_row wr B 0 _ _ _ hR.b0
        have r1 := cell_of_row wr B 1 _ _ _ hR.b0
        have r2 := cell_of_row wr (B + 2) 1 _ _ _ hR.b2
        simp only [List.getElem?_toArray, List.getElem?_cons_succ, List.getElem?_cons_zero] at r0 r1 r2
        by_cases hlt : k < m
        · obtain ⟨b, off, rfl, d0, d1, d2, d3⟩ := (HA.out.later (Nat.le_of_eq HB.out) hR.below).cell k hlt
          have hkA : k < A.length := by rw [HLEN.out]; exact hlt
          have hmem : A[k]! ∈ A := by rw [getElem!_pos A k hkA]; exact List.getElem_mem _
          have hpl := of_decide_eq_true (HP.out A[k]! hmem)
          obtain ⟨x, hx⟩ : ∃ x, A[k]! = x := ⟨_, rfl⟩
          obtain ⟨x1, x2, x3, x4⟩ := x
          rw [hx] at d0 d1 d2 d3 hpl
          simp only at d0 d1 d2 d3 hpl
          obtain ⟨p, rfl⟩ : ∃ p : Nat, x1 = (p : Int) := ⟨x1.toNat, by omega⟩
          obtain ⟨q, rfl⟩ : ∃ q : Nat, x2 = (q : Int) := ⟨x2.toNat, by omega⟩
          have hpn : p < n := by omega
          have hqn : q < n := by omega
          have HLC := hide (legs_cells n (mtM d) A k hkA HW.out p q x3 x4 hx hpn hqn)
          rw [hx] at HLC
          obtain ⟨hmul, hmb⟩ := mul_wrap (show p ≤ 32 by omega) hn.2
          have hcl := cell_lt hpn hqn
          have hxl := cellsM_len n (tab (legsM (mtM d) (A.take k)))
          generalize cellsM n (tab (legsM (mtM d) (A.take k))) = xs at hR HLC hxl
          obtain ⟨g, cap, rfl, hg1, hg2, _, _⟩ := hR.own.form (by omega)
          have t0 := hR.own.cell (p * n + q) (by omega)
          have HR0 := hide hR
          have HRA := hide (hR.alloc (.cells #[.int .i64 p, .int .i64 q, .int .i64 x3, .int .i64 x4] 54))
          have hBz := hR.lt
          have r0a : (wr.alloc (.cells #[.int .i64 p, .int .i64 q, .int .i64 x3, .int .i64 x4] 54)).cell? ⟨B, 0, none⟩ = some (.int .i64 n) := by rw [World.cell?_alloc_lt _ _ _ (by show B < _; omega)]; exact r0
          have r2a : (wr.alloc (.cells #[.int .i64 p, .int .i64 q, .int .i64 x3, .int .i64 x4] 54)).cell? ⟨B + 2, 1, none⟩ = some (.slice (some ⟨g, 0, none⟩) xs.length cap) := by rw [World.cell?_alloc_lt _ _ _ (by show B + 2 < _; omega)]; exact r2
          have t0a : (wr.alloc (.cells #[.int .i64 p, .int .i64 q, .int .i64 x3, .int .i64 x4] 54)).cell? ⟨g, p * n + q, none⟩ = some (.int .i64 xs[p * n + q]!) := by rw [World.cell?_alloc_lt _ _ _ (by show g < _; omega)]; exact t0
          have fza := HRA.out.own.frozen (p * n + q)
          have i1 : (k : Int) < (m : Int) := by omega
          have i2 : ((p * n : Nat) : Int) + (q : Int) < (xs.length : Int) := by omega
          clear hR HR hmem hx hpl
          cases d
          · by_cases hpq : p = q
            · have HE : Hid (TabIn B w #[.int .i64 n, .slice (some ⟨b, off, none⟩) m c] n (wr.alloc (.cells #[.int .i64 p, .int .i64 q, .int .i64 x3, .int .i64 x4] 54)) (.slice (some ⟨g, 0, none⟩) xs.length cap) (cellsM n (tab (legsM (mtM false) (A.take (k + 1)))))) := by show TabIn _ _ _ _ _ _ _; rw [HLC.out, if_neg (fun h => h.1 hpq)]; exact HRA.out
              have hne : ((p : Int) != (q : Int)) = false := by simp [hpq]
              replace hpq := hide hpq
              clear HLC HRA
              go_wp2
              go_roundw
              case rel => exact ⟨k + 1, by go_num, by omega, _, HE.out⟩
              case measure => simp [intOf]; omega
            · have hne : ((p : Int) != (q : Int)) = true := by simp; omega
              by_cases h1 : xs[p * n + q]! < 0
              · have HE : Hid (TabIn B w #[.int .i64 n, .slice (some ⟨b, off, none⟩) m c] n ((wr.setCell ⟨g, p * n + q, none⟩ (.int .i64 x3)).alloc (.cells #[.int .i64 p, .int .i64 q, .int .i64 x3, .int .i64 x4] 54)) (.slice (some ⟨g, 0, none⟩) xs.length cap) (cellsM n (tab (legsM (mtM false) (A.take (k + 1)))))) := by show TabIn _ _ _ _ _ _ _; rw [HLC.out, if_pos ⟨hpq, .inl h1⟩]; exact (HR0.out.put _ _).alloc _
                generalize xs[p * n + q]! = z at *
                clear HLC HRA
                go_wp2
                go_roundw
                case rel => exact ⟨k + 1, by go_num, by omega, _, HE.out⟩
                case measure => simp [intOf]; omega
              · by_cases h2 : x3 < xs[p * n + q]!
                · have HE : Hid (TabIn B w #[.int .i64 n, .slice (some ⟨b, off, none⟩) m c] n ((wr.setCell ⟨g, p * n + q, none⟩ (.int .i64 x3)).alloc (.cells #[.int .i64 p, .int .i64 q, .int .i64 x3, .int .i64 x4] 54)) (.slice (some ⟨g, 0, none⟩) xs.length cap) (cellsM n (tab (legsM (mtM false) (A.take (k + 1)))))) := by show TabIn _ _ _ _ _ _ _; rw [HLC.out, if_pos ⟨hpq, .inr h2⟩]; exact (HR0.out.put _ _).alloc _
                  generalize xs[p * n + q]! = z at *
                  clear HLC HRA
                  go_wp2
                  go_roundw
                  case rel => exact ⟨k + 1, by go_num, by omega, _, HE.out⟩
                  case measure => simp [intOf]; omega
                · have HE : Hid (TabIn B w #[.int .i64 n, .slice (some ⟨b, off, none⟩) m c] n (wr.alloc (.cells #[.int .i64 p, .int .i64 q, .int .i64 x3, .int .i64 x4] 54)) (.slice (some ⟨g, 0, none⟩) xs.length cap) (cellsM n (tab (legsM (mtM false) (A.take (k + 1)))))) := by show TabIn _ _ _ _ _ _ _; rw [HLC.out, if_neg (fun h => h.2.elim h1 h2)]; exact HRA.out
                  generalize xs[p * n + q]! = z at *
                  clear HLC HRA
                  go_wp2
                  go_roundw
                  case rel => exact ⟨k + 1, by go_num, by omega, _, HE.out⟩
                  case measure => simp [intOf]; omega
          · by_cases hpq : p = q
            · have HE : Hid (TabIn B w #[.int .i64 n, .slice (some ⟨b, off, none⟩) m c] n (wr.alloc (.cells #[.int .i64 p, .int .i64 q, .int .i64 x3, .int .i64 x4] 54)) (.slice (some ⟨g, 0, none⟩) xs.length cap) (cellsM n (tab (legsM (mtM true) (A.take (k + 1)))))) := by show TabIn _ _ _ _ _ _ _; rw [HLC.out, if_neg (fun h => h.1 hpq)]; exact HRA.out
              have hne : ((p : Int) != (q : Int)) = false := by simp [hpq]
              replace hpq := hide hpq
              clear HLC HRA
              go_wp2
              go_roundw
              case rel => exact ⟨k + 1, by go_num, by omega, _, HE.out⟩
              case measure => simp [intOf]; omega
            · have hne : ((p : Int) != (q : Int)) = true := by simp; omega
              by_cases h1 : xs[p * n + q]! < 0
              · have HE : Hid (TabIn B w #[.int .i64 n, .slice (some ⟨b, off, none⟩) m c] n ((wr.setCell ⟨g, p * n + q, none⟩ (.int .i64 x4)).alloc (.cells #[.int .i64 p, .int .i64 q, .int .i64 x3, .int .i64 x4] 54)) (.slice (some ⟨g, 0, none⟩) xs.length cap) (cellsM n (tab (legsM (mtM true) (A.take (k + 1)))))) := by show TabIn _ _ _ _ _ _ _; rw [HLC.out, if_pos ⟨hpq, .inl h1⟩]; exact (HR0.out.put _ _).alloc _
                generalize xs[p * n + q]! = z at *
                clear HLC HRA
                go_wp2
                go_roundw
                case rel => exact ⟨k + 1, by go_num, by omega, _, HE.out⟩
                case measure => simp [intOf]; omega
              · by_cases h2 : x4 < xs[p * n + q]!
                · have HE : Hid (TabIn B w #[.int .i64 n, .slice (some ⟨b, off, none⟩) m c] n ((wr.setCell ⟨g, p * n + q, none⟩ (.int .i64 x4)).alloc (.cells #[.int .i64 p, .int .i64 q, .int .i64 x3, .int .i64 x4] 54)) (.slice (some ⟨g, 0, none⟩) xs.length cap) (cellsM n (tab (legsM (mtM true) (A.take (k + 1)))))) := by show TabIn _ _ _ _ _ _ _; rw [HLC.out, if_pos ⟨hpq, .inr h2⟩]; exact (HR0.out.put _ _).alloc _
                  generalize xs[p * n + q]! = z at *
                  clear HLC HRA
                  go_wp2
                  go_roundw
                  case rel => exact ⟨k + 1, by go_num, by omega, _, HE.out⟩
                  case measure => simp [intOf]; omega
                · have HE : Hid (TabIn B w #[.int .i64 n, .slice (some ⟨b, off, none⟩) m c] n (wr.alloc (.cells #[.int .i64 p, .int .i64 q, .int .i64 x3, .int .i64 x4] 54)) (.slice (some ⟨g, 0, none⟩) xs.length cap) (cellsM n (tab (legsM (mtM true) (A.take (k + 1)))))) := by show TabIn _ _ _ _ _ _ _; rw [HLC.out, if_neg (fun h => h.2.elim h1 h2)]; exact HRA.out
                  generalize xs[p * n + q]! = z at *
                  clear HLC HRA
                  go_wp2
                  go_roundw
                  case rel => exact ⟨k + 1, by go_num, by omega, _, HE.out⟩
                  case measure => simp [intOf]; omega
        · have hkm : k = m := by omega
          subst hkm
          have m0 := cell_of_row wr (B + 2) 0 _ _ _ hR.b2
          have m2 := cell_of_row wr (B + 1) 0 _ _ _ hR.b1
          have m3 := cell_of_row wr (B + 1) 1 _ _ _ hR.b1
          simp only [List.getElem?_toArray, List.getElem?_cons_succ, List.getElem?_cons_zero] at m0 m2 m3
          have f2 := frozen_of_row wr (B + 1) 0 _ _ hR.b1
          have f3 := frozen_of_row wr (B + 1) 1 _ _ hR.b1
          have hv := hR.own.shape
          obtain ⟨va, vc, hva⟩ := hv
          have HX : Hid (((wr.setCell ⟨B + 1, 0, none⟩ (.int .i64 n)).setCell ⟨B + 1, 1, none⟩ v).heap[B + 1]? = some (.cells #[.int .i64 n, v] 29 (0, 0)) ∧ IRow ((wr.setCell ⟨B + 1, 0, none⟩ (.int .i64 n)).setCell ⟨B + 1, 1, none⟩ v) B v (cellsM n (tab (legsM (mtM d) A))) ∧ Below B w ((wr.setCell ⟨B + 1, 0, none⟩ (.int .i64 n)).setCell ⟨B + 1, 1, none⟩ v)) := by
            refine ⟨?_, ?_, (hR.below.setCell (by show B ≤ B + 1; omega) _).setCell (by show B ≤ B + 1; omega) _⟩
            · rw [heap_setCell_same _ _ 1 _ _ _ (heap_setCell_same _ _ 0 _ _ _ hR.b1)]
              rfl
            · have := ((hR.own.setOther (b := B + 1) (j := 0) (by omega) (.int .i64 n)).setOther (b := B + 1) (j := 1) (by omega) v).mono (show B ≤ B + 3 by omega)
              rw [List.take_of_length_le (by rw [HLEN.out]; exact Nat.le_refl _)] at this
              exact this
          clear hR HR
          subst hva
          go_wp2
          (try simp only [Exit.inBlock, Exit.then])
          refine bodyPost_ret (results_cell_row rfl _ _ (B + 1) 29 _ (0, 0) _ rfl HX.out.1 Tryz.underlying29 rfl (by kernel_rfl)) rfl ?_
          exact ⟨_, rfl, HX.out.2.1, HX.out.2.2⟩
end Go.Proofs.YtojkdmkeankcgaaGreat
