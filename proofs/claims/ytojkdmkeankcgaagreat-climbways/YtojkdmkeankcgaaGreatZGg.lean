/-
  Several texts in one.
-/
import Derived.Test.YtojkdmkeankcgaaGreatLeastP
import Derived.Test.YtojkdmkeankcgaaGreatZGraphs
import Derived.Test.YtojkdmkeankcgaaGreatZLeastC
import Derived.Deep.CutRange
/-  The road of chapter 6's example. -/
namespace Go.Proofs.YtojkdmkeankcgaaGreat
open Go.RowKit Go.Sort

def exB : List Arc := [(0, 1, 4, 0), (1, 2, 0, 0)]
def exW : Nat → Nat → Option Int := tab (legsM timeM exB)
theorem exB_check : (checkM ((3 : Nat) : Int) exB).2 = 0 := by decide
theorem exW_all : ∀ a : Nat, a < 3 → ∀ b : Nat, b < 3 → exW a b = if a = 0 ∧ b = 1 then some 4 else if a = 1 ∧ b = 2 then some 0 else none := by decide
theorem exW_at (a b : Nat) (ha : a < 3) (hb : b < 3) : exW a b = if a = 0 ∧ b = 1 then some 4 else if a = 1 ∧ b = 2 then some 0 else none := exW_all a ha b hb
theorem exW_ok : WOk 3 exW := fun a b v ha hb h => by
  rw [exW_at a b ha hb] at h
  split at h
  · cases h; omega
  · split at h
    · cases h; omega
    · cases h
theorem exW_least : least 3 exW 0 2 = some 4 := by decide
theorem exB_at (w : World) : ArcsAt (w.alloc (.cells #[.int .i64 0, .int .i64 1, .int .i64 4, .int .i64 0, .int .i64 1, .int .i64 2, .int .i64 0, .int .i64 0] 54)) (some ⟨w.heap.size, 0, none⟩) 2 exB := by
  refine ⟨rfl, by omega, fun k hk => ⟨w.heap.size, 0, rfl, ?_⟩⟩
  have h := heap_alloc_new w (.cells #[.int .i64 0, .int .i64 1, .int .i64 4, .int .i64 0, .int .i64 1, .int .i64 2, .int .i64 0, .int .i64 0] 54)
  have hk4 : k = 0 ∨ k = 1 := by omega
  rcases hk4 with rfl | rfl <;> exact ⟨by rw [cell_of_row _ _ _ _ _ _ h]; rfl, by rw [cell_of_row _ _ _ _ _ _ h]; rfl, by rw [cell_of_row _ _ _ _ _ _ h]; rfl, by rw [cell_of_row _ _ _ _ _ _ h]; rfl⟩
theorem exB_new (w : World) : Calls Tryz.prog 26 #[.agg #[.int .i64 3, .slice (some ⟨w.heap.size, 0, none⟩) 2 2], .func (.func 24) #[] #[]] (w.alloc (.cells #[.int .i64 0, .int .i64 1, .int .i64 4, .int .i64 0, .int .i64 1, .int .i64 2, .int .i64 0, .int .i64 0] 54))
    fun e w' => ∃ g, e = .returned (.tuple #[.pointer (some ⟨g, 0, none⟩), .int .i64 0]) ∧ GAt w' g 3 exW ∧ Below w.heap.size w w' := by
  have h := new_good 3 _ 2 2 exB 24 timeM _ (exB_at w) exB_check (time_any _) enters22
  refine Calls.mono h ?_
  rintro e w' ⟨g, rfl, h1, h2, _⟩
  exact ⟨g, rfl, h1, ((Below.refl w.heap.size w).alloc (Nat.le_refl _) _).trans (h2.mono (by simp))⟩
end Go.Proofs.YtojkdmkeankcgaaGreat
/-  What the call of the statements' Graph does: a road's graph, the table of its edges, and the least weights. -/
namespace Go.Proofs.YtojkdmkeankcgaaGreat
open Go.RowKit Go.Sort

/-- A store into a block that is none of a graph's. -/
theorem GAt.put2 {w : World} {g n b j t : Nat} {W : Nat → Nat → Option Int} {cur : Array Value} {fr : Nat × Nat} (h : GAt w g n W) (hb : w.heap[b]? = some (.cells cur t fr)) (h1 : t ≠ 73) (h2 : t ≠ 75) (h3 : t ≠ 100) (u : Value) : GAt (w.setCell ⟨b, j, none⟩ u) g n W := by
  obtain ⟨O, vs, hg, hO⟩ := h
  have hbg : g ≠ b := fun e => by subst e; rw [hg] at hb; simp at hb; exact h3 hb.2.1.symm
  have hbO : O ≠ b := fun e => by have := hO.blk; subst e; rw [this] at hb; simp at hb; exact h1 hb.2.1.symm
  refine ⟨O, vs, by rw [heap_setCell_other _ _ _ _ hbg]; exact hg, hO.len, by rw [heap_setCell_other _ _ _ _ hbO]; exact hO.blk, fun p hp => own_of_block (hO.row p hp) (fun k hk => ?_), hO.dis⟩
  obtain ⟨c2, hc2⟩ := own_tag (hO.row p hp) hk
  have : k ≠ b := fun e => by subst e; rw [hc2] at hb; simp at hb; exact h2 hb.2.1.symm
  rw [heap_setCell_other _ _ _ _ this]
theorem load41 (w : World) (g : Nat) (u v : Value) (h : w.heap[g]? = some (.cells #[u, v] 29 (0, 0))) : (loadVar 29 ⟨g, 0, none⟩).run Tryz.prog w = .ok (.agg #[u, v]) w := run_loadVar_row w g 29 29 _ (0, 0) _ h Tryz.underlying29 rfl (by kernel_rfl)
theorem results_four {fn : Func} {a b p q : Tmp} (h : fn.results = #[.tmp a, .cell p 29, .cell q 29, .tmp b]) (tmps : Array Value) (w : World) (g1 g2 : Nat) (u1 v1 u2 v2 : Value)
    (hp : tmps.getD p undef = .pointer (some ⟨g1, 0, none⟩)) (hq : tmps.getD q undef = .pointer (some ⟨g2, 0, none⟩)) (hg1 : w.heap[g1]? = some (.cells #[u1, v1] 29 (0, 0))) (hg2 : w.heap[g2]? = some (.cells #[u2, v2] 29 (0, 0))) :
    (results fn tmps).run Tryz.prog w = .ok (.tuple #[tmps.getD a undef, .agg #[u1, v1], .agg #[u2, v2], tmps.getD b undef]) w := by
  have hp' : tmps[p]?.getD undef = .pointer (some ⟨g1, 0, none⟩) := by simpa using hp
  have hq' : tmps[q]?.getD undef = .pointer (some ⟨g2, 0, none⟩) := by simpa using hq
  simp [results, h, hp', hq', asAddr, load41 w g1 u1 v1 hg1, load41 w g2 u2 v2 hg2]
/-- While Graph runs: the road's box, and the two answers'. -/
structure GrIn (B : Nat) (w : World) (n : Int) (a : Option Addr) (m c : Nat) (A : List Arc) (wr : World) : Prop where
  rin : RIn B w n a m c A wr
  b1 : wr.heap[B + 1]? = some (.cells #[.int .i64 0, .slice none 0 0] 29 (0, 0))
  b2 : wr.heap[B + 2]? = some (.cells #[.int .i64 0, .slice none 0 0] 29 (0, 0))
section
variable {B m c : Nat} {w wr w' : World} {n : Int} {a : Option Addr} {A : List Arc}
theorem GrIn.lt (h : GrIn B w n a m c A wr) : B + 2 < wr.heap.size := (Array.getElem?_eq_some_iff.1 h.b2).1
theorem GrIn.later (h : GrIn B w n a m c A wr) (f : Below wr.heap.size wr w') : GrIn B w n a m c A w' := by
  have := h.lt
  exact ⟨h.rin.later f, (f.block _ (by omega)).trans h.b1, (f.block _ h.lt).trans h.b2⟩
end
theorem grin_start (w : World) (n : Int) (a : Option Addr) (m c : Nat) (A : List Arc) (h : ArcsAt w a m A) : GrIn w.heap.size w n a m c A (((w.alloc (.cells #[.int .i64 n, .slice a m c] 24)).alloc (.cells #[.int .i64 0, .slice none 0 0] 29)).alloc (.cells #[.int .i64 0, .slice none 0 0] 29)) := by
  have h1 : (w.alloc (.cells #[.int .i64 n, .slice a m c] 24)).heap.size = w.heap.size + 1 := by simp
  have h2 : ((w.alloc (.cells #[.int .i64 n, .slice a m c] 24)).alloc (.cells #[.int .i64 0, .slice none 0 0] 29)).heap.size = w.heap.size + 2 := by simp
  refine ⟨((rin_start w n a m c A h).later ((Below.refl _ _).alloc (Nat.le_refl _) _)).later ((Below.refl _ _).alloc (Nat.le_refl _) _), ?_, ?_⟩
  · rw [Below.heap_alloc _ _ _ (by rw [h2]; omega), ← h1]; exact heap_alloc_new _ _
  · rw [← h2]; exact heap_alloc_new _ _
set_option maxRecDepth 100000 in
set_option maxHeartbeats 3200000 in
theorem graph_many (n : Int) (a : Option Addr) (m c : Nat) (A : List Arc) (d : Bool) (w : World) (h : ArcsAt w a m A) (hm : 300 < m) :
    Calls Tryz.prog 10 #[.agg #[.int .i64 n, .slice a m c], .bool d] w fun e w' => e = .returned (.tuple #[.pointer none, .agg #[.int .i64 0, .slice none 0 0], .agg #[.int .i64 0, .slice none 0 0], .bool false]) ∧ Below w.heap.size w w' := by
  have HS := hide (grin_start w n a m c A h)
  have hm2 : (300 : Int) < (m : Int) := by omega
  have hm3 := h.max
  clear h
  go_enter Tryz.func10, Tryz.ntmps10
  go_wp2
  (try simp only [Exit.inBlock, Exit.then])
  refine bodyPost_ret (results_four rfl _ _ (w.heap.size + 1) (w.heap.size + 2) _ _ _ _ rfl rfl HS.out.b1 HS.out.b2) rfl ?_
  exact ⟨rfl, HS.out.rin.below⟩
theorem grin_put {B m c : Nat} {w wr : World} {n : Int} {a : Option Addr} {A : List Arc} (h : GrIn B w n a m c A wr) (u1 v1 u2 v2 : Value) :
    ((((wr.setCell ⟨B + 1, 0, none⟩ u1).setCell ⟨B + 1, 1, none⟩ v1).setCell ⟨B + 2, 0, none⟩ u2).setCell ⟨B + 2, 1, none⟩ v2).heap[B + 1]? = some (.cells #[u1, v1] 29 (0, 0)) ∧ ((((wr.setCell ⟨B + 1, 0, none⟩ u1).setCell ⟨B + 1, 1, none⟩ v1).setCell ⟨B + 2, 0, none⟩ u2).setCell ⟨B + 2, 1, none⟩ v2).heap[B + 2]? = some (.cells #[u2, v2] 29 (0, 0)) ∧
    Below B w ((((wr.setCell ⟨B + 1, 0, none⟩ u1).setCell ⟨B + 1, 1, none⟩ v1).setCell ⟨B + 2, 0, none⟩ u2).setCell ⟨B + 2, 1, none⟩ v2) := by
  have e1 : ((wr.setCell ⟨B + 1, 0, none⟩ u1).setCell ⟨B + 1, 1, none⟩ v1).heap[B + 1]? = some (.cells #[u1, v1] 29 (0, 0)) := by
    rw [heap_setCell_same _ _ 1 _ _ _ (heap_setCell_same _ _ 0 _ _ _ h.b1)]; rfl
  have e2 : ((wr.setCell ⟨B + 1, 0, none⟩ u1).setCell ⟨B + 1, 1, none⟩ v1).heap[B + 2]? = some (.cells #[.int .i64 0, .slice none 0 0] 29 (0, 0)) := by
    rw [heap_setCell_other _ _ _ _ (by show B + 2 ≠ B + 1; omega), heap_setCell_other _ _ _ _ (by show B + 2 ≠ B + 1; omega)]; exact h.b2
  refine ⟨?_, ?_, (((h.rin.below.setCell (by show B ≤ B + 1; omega) _).setCell (by show B ≤ B + 1; omega) _).setCell (by show B ≤ B + 2; omega) _).setCell (by show B ≤ B + 2; omega) _⟩
  · rw [heap_setCell_other _ _ _ _ (by show B + 1 ≠ B + 2; omega), heap_setCell_other _ _ _ _ (by show B + 1 ≠ B + 2; omega)]; exact e1
  · rw [heap_setCell_same _ _ 1 _ _ _ (heap_setCell_same _ _ 0 _ _ _ e2)]; rfl
set_option maxRecDepth 100000 in
set_option maxHeartbeats 3200000 in
theorem graph_bad (n : Int) (a : Option Addr) (m c : Nat) (A : List Arc) (d : Bool) (w : World) (h : ArcsAt w a m A) (hc : a = none → c = 0) (hm : m ≤ 300) (he : (checkM n A).2 ≠ 0) :
    Calls Tryz.prog 10 #[.agg #[.int .i64 n, .slice a m c], .bool d] w fun e w' => e = .returned (.tuple #[.pointer none, .agg #[.int .i64 0, .slice none 0 0], .agg #[.int .i64 0, .slice none 0 0], .bool false]) ∧ Below w.heap.size w w' := by
  have HC := hide hc
  have HS := hide (grin_start w n a m c A h)
  have hm2 : ¬ (300 : Int) < (m : Int) := by omega
  have HNB := hide (fun (mv : Value) (a' : Option Addr) (c' : Nat) (w' : World) (h' : ArcsAt w' a' m A) => new_bad n a' m c' A mv w' h' he)
  generalize (checkM n A).2 = ce at HNB he
  have hq3 : (ce != 0) = true := by simp [he]
  have HLEN := hide h.len
  have n1 : ¬ w.heap.size + 1 = w.heap.size + 2 := by omega
  have n2 : ¬ w.heap.size + 2 = w.heap.size + 1 := by omega
  replace he := hide he
  clear h hc
  cases d
  · go_enter Tryz.func10, Tryz.ntmps10
    go_wp2_with (first
      | (go_at_call 23; refine (awake_any _).mono ?_; rintro e w1 ⟨rfl, h1⟩; have H1 := hide (HS.out.later h1); have c0 := H1.out.rin.c0; have c1 := H1.out.rin.c1; clear h1)
      | (go_at_call 27; refine (copied_any n a m c A _ H1.out.rin.arcs HC.out (by omega)).mono ?_; rintro e w2 ⟨v, rfl, h2, h3⟩; obtain ⟨a2, c2, rfl, h4⟩ := own_arcs h2 HLEN.out; have H2 : Hid (GrIn w.heap.size w n a m c A w2 ∧ ArcsAt w2 a2 m A) := ⟨H1.out.later h3, h4⟩; clear h2 h3 h4)
      | (go_at_call 26; refine (HNB.out _ a2 c2 _ H2.out.2).mono ?_; rintro e w7 ⟨rfl, h5⟩; have H7 := hide (H2.out.1.later h5); have k0 := cell_of_row w7 (w.heap.size + 1) 0 _ _ _ H7.out.b1; have k1 := cell_of_row w7 (w.heap.size + 1) 1 _ _ _ H7.out.b1; have k2 := cell_of_row w7 (w.heap.size + 2) 0 _ _ _ H7.out.b2; have k3 := cell_of_row w7 (w.heap.size + 2) 1 _ _ _ H7.out.b2; simp only [List.getElem?_toArray, List.getElem?_cons_succ, List.getElem?_cons_zero] at k0 k1 k2 k3; have f0 := frozen_of_row w7 (w.heap.size + 1) 0 _ _ H7.out.b1; have f1 := frozen_of_row w7 (w.heap.size + 1) 1 _ _ H7.out.b1; have f2 := frozen_of_row w7 (w.heap.size + 2) 0 _ _ H7.out.b2; have f3 := frozen_of_row w7 (w.heap.size + 2) 1 _ _ H7.out.b2; clear h5))
    (try simp only [Exit.inBlock, Exit.then])
    have HPT := grin_put H7.out (.int .i64 0) (.slice none 0 0) (.int .i64 0) (.slice none 0 0)
    refine bodyPost_ret (results_four rfl _ _ (w.heap.size + 1) (w.heap.size + 2) _ _ _ _ rfl rfl HPT.1 HPT.2.1) rfl ?_
    exact ⟨rfl, HPT.2.2⟩
  · go_enter Tryz.func10, Tryz.ntmps10
    go_wp2_with (first
      | (go_at_call 23; refine (awake_any _).mono ?_; rintro e w1 ⟨rfl, h1⟩; have H1 := hide (HS.out.later h1); have c0 := H1.out.rin.c0; have c1 := H1.out.rin.c1; clear h1)
      | (go_at_call 27; refine (copied_any n a m c A _ H1.out.rin.arcs HC.out (by omega)).mono ?_; rintro e w2 ⟨v, rfl, h2, h3⟩; obtain ⟨a2, c2, rfl, h4⟩ := own_arcs h2 HLEN.out; have H2 : Hid (GrIn w.heap.size w n a m c A w2 ∧ ArcsAt w2 a2 m A) := ⟨H1.out.later h3, h4⟩; clear h2 h3 h4)
      | (go_at_call 26; refine (HNB.out _ a2 c2 _ H2.out.2).mono ?_; rintro e w7 ⟨rfl, h5⟩; have H7 := hide (H2.out.1.later h5); have k0 := cell_of_row w7 (w.heap.size + 1) 0 _ _ _ H7.out.b1; have k1 := cell_of_row w7 (w.heap.size + 1) 1 _ _ _ H7.out.b1; have k2 := cell_of_row w7 (w.heap.size + 2) 0 _ _ _ H7.out.b2; have k3 := cell_of_row w7 (w.heap.size + 2) 1 _ _ _ H7.out.b2; simp only [List.getElem?_toArray, List.getElem?_cons_succ, List.getElem?_cons_zero] at k0 k1 k2 k3; have f0 := frozen_of_row w7 (w.heap.size + 1) 0 _ _ H7.out.b1; have f1 := frozen_of_row w7 (w.heap.size + 1) 1 _ _ H7.out.b1; have f2 := frozen_of_row w7 (w.heap.size + 2) 0 _ _ H7.out.b2; have f3 := frozen_of_row w7 (w.heap.size + 2) 1 _ _ H7.out.b2; clear h5))
    (try simp only [Exit.inBlock, Exit.then])
    have HPT := grin_put H7.out (.int .i64 0) (.slice none 0 0) (.int .i64 0) (.slice none 0 0)
    refine bodyPost_ret (results_four rfl _ _ (w.heap.size + 1) (w.heap.size + 2) _ _ _ _ rfl rfl HPT.1 HPT.2.1) rfl ?_
    exact ⟨rfl, HPT.2.2⟩
theorem IRow.put41 {w : World} {base b j : Nat} {v : Value} {xs : List Int} {cur : Array Value} {fr : Nat × Nat} (h : IRow w base v xs) (hb : w.heap[b]? = some (.cells cur 29 fr)) (u : Value) : IRow (w.setCell ⟨b, j, none⟩ u) base v xs := own_of_block h (fun k hk => by
  obtain ⟨c2, hc2⟩ := own_tag h hk
  have : k ≠ b := fun e => by subst e; rw [hc2] at hb; simp at hb
  rw [heap_setCell_other _ _ _ _ this])
theorem grin_keep {B m c g N : Nat} {w wr : World} {n : Int} {a : Option Addr} {A : List Arc} {W : Nat → Nat → Option Int} (h : GrIn B w n a m c A wr) (hg : GAt wr g N W) (u1 v1 u2 v2 : Value) :
    GAt ((((wr.setCell ⟨B + 1, 0, none⟩ u1).setCell ⟨B + 1, 1, none⟩ v1).setCell ⟨B + 2, 0, none⟩ u2).setCell ⟨B + 2, 1, none⟩ v2) g N W ∧ ∀ base v xs, IRow wr base v xs → IRow ((((wr.setCell ⟨B + 1, 0, none⟩ u1).setCell ⟨B + 1, 1, none⟩ v1).setCell ⟨B + 2, 0, none⟩ u2).setCell ⟨B + 2, 1, none⟩ v2) base v xs := by
  have e1 := heap_setCell_same _ _ 0 _ _ u1 h.b1
  have e2 : ((wr.setCell ⟨B + 1, 0, none⟩ u1).setCell ⟨B + 1, 1, none⟩ v1).heap[B + 2]? = some (.cells #[.int .i64 0, .slice none 0 0] 29 (0, 0)) := by
    rw [heap_setCell_other _ _ _ _ (by show B + 2 ≠ B + 1; omega), heap_setCell_other _ _ _ _ (by show B + 2 ≠ B + 1; omega)]; exact h.b2
  have e3 := heap_setCell_same _ _ 0 _ _ u2 e2
  exact ⟨(((hg.put2 h.b1 (by decide) (by decide) (by decide) u1).put2 e1 (by decide) (by decide) (by decide) v1).put2 e2 (by decide) (by decide) (by decide) u2).put2 e3 (by decide) (by decide) (by decide) v2,
    fun base v xs hr => (((hr.put41 h.b1 u1).put41 e1 v1).put41 e2 u2).put41 e3 v2⟩
set_option maxRecDepth 100000 in
set_option maxHeartbeats 6400000 in
theorem graph_good (n : Nat) (a : Option Addr) (m c : Nat) (A : List Arc) (d : Bool) (w : World) (h : ArcsAt w a m A) (hc : a = none → c = 0) (hm : m ≤ 300) (he : (checkM n A).2 = 0) :
    Calls Tryz.prog 10 #[.agg #[.int .i64 n, .slice a m c], .bool d] w fun e w' => ∃ g vt vl, e = .returned (.tuple #[.pointer (some ⟨g, 0, none⟩), .agg #[.int .i64 n, vt], .agg #[.int .i64 n, vl], .bool true]) ∧ GAt w' g n (tab (legsM (mtM d) A)) ∧ IRow w' w.heap.size vt (cellsM n (tab (legsM (mtM d) A))) ∧ IRow w' w.heap.size vl (cellsM n (least n (tab (legsM (mtM d) A)))) ∧ Below w.heap.size w w' := by
  obtain ⟨hn0, hl, hok⟩ := checkM_ok he
  have hn : 1 ≤ n ∧ n ≤ 32 := by omega
  have HN := hide hn
  have HC := hide hc
  have HE := hide he
  have HP : Hid (∀ x ∈ A, placeOk (n : Int) x = true) := fun x hx => (hok x hx).1
  have HM := hide (mt_pos he d)
  have HWO : Hid (WOk n (tab (legsM (mtM d) A))) := fun p q x _ _ hx => tab_pos HM.out p q x hx
  have HS := hide (grin_start w n a m c A h)
  have hm2 : ¬ (300 : Int) < (m : Int) := by omega
  have HLEN := hide h.len
  clear h hc he hn0 hok
  cases d
  · go_enter Tryz.func10, Tryz.ntmps10
    go_upto_region 10 with (first
      | (go_at_call 23; refine (awake_any _).mono ?_; rintro e w1 ⟨rfl, h1⟩; have H1 := hide (HS.out.later h1); have c0 := H1.out.rin.c0; have c1 := H1.out.rin.c1; clear h1)
      | (go_at_call 27; refine (copied_any n a m c A _ H1.out.rin.arcs HC.out (by omega)).mono ?_; rintro e w2 ⟨v, rfl, h2, h3⟩; obtain ⟨a2, c2, rfl, h4⟩ := own_arcs h2 HLEN.out; have H2 : Hid (GrIn w.heap.size w n a m c A w2 ∧ ArcsAt w2 a2 m A) := ⟨H1.out.later h3, h4⟩; clear h2 h3 h4)
      | (go_at_call 26; refine (new_good n a2 m c2 A (mtF false) (mtM false) _ H2.out.2 HE.out (mt_any false A) (mt_enters false)).mono ?_; rintro e w7 ⟨g1, rfl, h4, h5, _⟩; have H7 : Hid (GrIn w.heap.size w n a m c A w7 ∧ GAt w7 g1 n (tab (legsM (mtM false) A))) := ⟨H2.out.1.later h5, h4⟩; have c0 := H7.out.1.rin.c0; have c1 := H7.out.1.rin.c1; clear h4 h5)
      | (go_at_call 28; refine (table_any n HN.out a m c A false _ H7.out.1.rin.arcs (by omega) HP.out (fun x hx => (HM.out x hx).1)).mono ?_; rintro e w8 ⟨v8, rfl, h4, h5⟩; obtain ⟨ta, tc, rfl⟩ := h4.shape; rw [cellsM_len] at h4 ⊢; have H8 : Hid (GrIn w.heap.size w n a m c A w8 ∧ GAt w8 g1 n (tab (legsM (mtM false) A)) ∧ IRow w8 w7.heap.size (.slice ta (n * n) tc) (cellsM n (tab (legsM (mtM false) A)))) := ⟨H7.out.1.later h5, H7.out.2.later h5, h4⟩; clear h4 h5))
    have hA8 : Below w8.heap.size w8 (w8.alloc (.cells #[.int .i64 n, .slice ta (n * n) tc] 29)) := (Below.refl _ _).alloc (Nat.le_refl _) _
    have H9 : Hid (GrIn w.heap.size w n a m c A (w8.alloc (.cells #[.int .i64 n, .slice ta (n * n) tc] 29)) ∧ GAt (w8.alloc (.cells #[.int .i64 n, .slice ta (n * n) tc] 29)) g1 n (tab (legsM (mtM false) A)) ∧ IRow (w8.alloc (.cells #[.int .i64 n, .slice ta (n * n) tc] 29)) w.heap.size (.slice ta (n * n) tc) (cellsM n (tab (legsM (mtM false) A)))) := ⟨H8.out.1.later hA8, H8.out.2.1.later hA8, (H8.out.2.2.later (Nat.le_refl _) hA8).mono H7.out.1.rin.below.size⟩
    have hnew := heap_alloc_new w8 (.cells #[.int .i64 n, .slice ta (n * n) tc] 29)
    have hsz : (w8.alloc (.cells #[.int .i64 n, .slice ta (n * n) tc] 29)).heap.size = w8.heap.size + 1 := by simp
    obtain ⟨M, hM⟩ : ∃ M, w8.heap.size = M := ⟨_, rfl⟩
    rw [hM] at hnew hsz
    try rw [hM]
    have hMB : w.heap.size + 2 < M := by rw [← hM]; exact H8.out.1.lt
    generalize w8.alloc (.cells #[.int .i64 n, .slice ta (n * n) tc] 29) = W9 at H9 hnew hsz ⊢
    have x0 := cell_of_row W9 M 0 _ _ _ hnew
    have x1 := cell_of_row W9 M 1 _ _ _ hnew
    simp only [List.getElem?_toArray, List.getElem?_cons_succ, List.getElem?_cons_zero] at x0 x1
    have HZ := hide hsz
    have q1 : ¬ w.heap.size + 1 = M := by omega
    have q2 : ¬ M = w.heap.size + 1 := by omega
    have q3 : ¬ w.heap.size + 1 + 1 = M := by omega
    have q4 : ¬ M = w.heap.size + 1 + 1 := by omega
    have q5 : ¬ w.heap.size + 1 = w.heap.size + 1 + 1 := by omega
    have q6 : ¬ w.heap.size + 1 + 1 = w.heap.size + 1 := by omega
    have HLE := hide (fun (w' : World) (hr : IRow w' w.heap.size (.slice ta (n * n) tc) (cellsM n (tab (legsM (mtM false) A)))) => least_any HN.out HWO.out hr)
    clear hA8 hnew hsz hM H8 H7 H2 H1 c0 c1
    first | (go_region_held (fun w' => w'.cell? ⟨M, 0, none⟩ = some (.int .i64 n) ∧ w'.cell? ⟨M, 1, none⟩ = some (.slice ta (n * n) tc)) (go_keep) (first | (go_at_call 20; refine (HLE.out _ (H9.out.2.2.later (Nat.le_refl _) (Below.refl _ _).drew)).mono ?_; rintro e w10 ⟨v10, rfl, h4, h50⟩; have h5 : Below W9.heap.size W9 w10 := (Below.refl W9.heap.size W9).drew.trans h50; clear h50; obtain ⟨la, lc, rfl⟩ := h4.shape; rw [cellsM_len] at h4 ⊢; have y0 : w10.cell? ⟨M, 0, none⟩ = some (.int .i64 n) := (h5.cell (p := ⟨M, 0, none⟩) (by show M < W9.heap.size; rw [HZ.out]; omega)).trans x0; have y1 : w10.cell? ⟨M, 1, none⟩ = some (.slice ta (n * n) tc) := (h5.cell (p := ⟨M, 1, none⟩) (by show M < W9.heap.size; rw [HZ.out]; omega)).trans x1; have H10 : Hid (GrIn w.heap.size w n a m c A w10 ∧ GAt w10 g1 n (tab (legsM (mtM false) A)) ∧ IRow w10 w.heap.size (.slice ta (n * n) tc) (cellsM n (tab (legsM (mtM false) A))) ∧ IRow w10 W9.heap.size (.slice la (n * n) lc) (cellsM n (least n (tab (legsM (mtM false) A))))) := ⟨H9.out.1.later h5, H9.out.2.1.later h5, H9.out.2.2.later (Nat.le_refl _) h5, h4⟩; have k0 := cell_of_row w10 (w.heap.size + 1) 0 _ _ _ H10.out.1.b1; have k1 := cell_of_row w10 (w.heap.size + 1) 1 _ _ _ H10.out.1.b1; have k2 := cell_of_row w10 (w.heap.size + 2) 0 _ _ _ H10.out.1.b2; have k3 := cell_of_row w10 (w.heap.size + 2) 1 _ _ _ H10.out.1.b2; simp only [List.getElem?_toArray, List.getElem?_cons_succ, List.getElem?_cons_zero] at k0 k1 k2 k3; have f0 := frozen_of_row w10 (w.heap.size + 1) 0 _ _ H10.out.1.b1; have f1 := frozen_of_row w10 (w.heap.size + 1) 1 _ _ H10.out.1.b1; have f2 := frozen_of_row w10 (w.heap.size + 2) 0 _ _ H10.out.1.b2; have f3 := frozen_of_row w10 (w.heap.size + 2) 1 _ _ H10.out.1.b2; clear h4 h5)))
    all_goals
      go_wp2
      (try simp only [Exit.inBlock, Exit.then])
      have HPT := grin_put H10.out.1 (.int .i64 n) (.slice ta (n * n) tc) (.int .i64 n) (.slice la (n * n) lc)
      have HKP := grin_keep H10.out.1 H10.out.2.1 (.int .i64 n) (.slice ta (n * n) tc) (.int .i64 n) (.slice la (n * n) lc)
      refine bodyPost_ret (results_four rfl _ _ (w.heap.size + 1) (w.heap.size + 2) _ _ _ _ rfl rfl HPT.1 HPT.2.1) rfl ?_
      exact ⟨g1, _, _, rfl, HKP.1, HKP.2 _ _ _ H10.out.2.2.1, HKP.2 _ _ _ (H10.out.2.2.2.mono (by have := HZ.out; omega)), HPT.2.2⟩
  · go_enter Tryz.func10, Tryz.ntmps10
    go_upto_region 10 with (first
      | (go_at_call 23; refine (awake_any _).mono ?_; rintro e w1 ⟨rfl, h1⟩; have H1 := hide (HS.out.later h1); have c0 := H1.out.rin.c0; have c1 := H1.out.rin.c1; clear h1)
      | (go_at_call 27; refine (copied_any n a m c A _ H1.out.rin.arcs HC.out (by omega)).mono ?_; rintro e w2 ⟨v, rfl, h2, h3⟩; obtain ⟨a2, c2, rfl, h4⟩ := own_arcs h2 HLEN.out; have H2 : Hid (GrIn w.heap.size w n a m c A w2 ∧ ArcsAt w2 a2 m A) := ⟨H1.out.later h3, h4⟩; clear h2 h3 h4)
      | (go_at_call 26; refine (new_good n a2 m c2 A (mtF true) (mtM true) _ H2.out.2 HE.out (mt_any true A) (mt_enters true)).mono ?_; rintro e w7 ⟨g1, rfl, h4, h5, _⟩; have H7 : Hid (GrIn w.heap.size w n a m c A w7 ∧ GAt w7 g1 n (tab (legsM (mtM true) A))) := ⟨H2.out.1.later h5, h4⟩; have c0 := H7.out.1.rin.c0; have c1 := H7.out.1.rin.c1; clear h4 h5)
      | (go_at_call 28; refine (table_any n HN.out a m c A true _ H7.out.1.rin.arcs (by omega) HP.out (fun x hx => (HM.out x hx).1)).mono ?_; rintro e w8 ⟨v8, rfl, h4, h5⟩; obtain ⟨ta, tc, rfl⟩ := h4.shape; rw [cellsM_len] at h4 ⊢; have H8 : Hid (GrIn w.heap.size w n a m c A w8 ∧ GAt w8 g1 n (tab (legsM (mtM true) A)) ∧ IRow w8 w7.heap.size (.slice ta (n * n) tc) (cellsM n (tab (legsM (mtM true) A)))) := ⟨H7.out.1.later h5, H7.out.2.later h5, h4⟩; clear h4 h5))
    have hA8 : Below w8.heap.size w8 (w8.alloc (.cells #[.int .i64 n, .slice ta (n * n) tc] 29)) := (Below.refl _ _).alloc (Nat.le_refl _) _
    have H9 : Hid (GrIn w.heap.size w n a m c A (w8.alloc (.cells #[.int .i64 n, .slice ta (n * n) tc] 29)) ∧ GAt (w8.alloc (.cells #[.int .i64 n, .slice ta (n * n) tc] 29)) g1 n (tab (legsM (mtM true) A)) ∧ IRow (w8.alloc (.cells #[.int .i64 n, .slice ta (n * n) tc] 29)) w.heap.size (.slice ta (n * n) tc) (cellsM n (tab (legsM (mtM true) A)))) := ⟨H8.out.1.later hA8, H8.out.2.1.later hA8, (H8.out.2.2.later (Nat.le_refl _) hA8).mono H7.out.1.rin.below.size⟩
    have hnew := heap_alloc_new w8 (.cells #[.int .i64 n, .slice ta (n * n) tc] 29)
    have hsz : (w8.alloc (.cells #[.int .i64 n, .slice ta (n * n) tc] 29)).heap.size = w8.heap.size + 1 := by simp
    obtain ⟨M, hM⟩ : ∃ M, w8.heap.size = M := ⟨_, rfl⟩
    rw [hM] at hnew hsz
    try rw [hM]
    have hMB : w.heap.size + 2 < M := by rw [← hM]; exact H8.out.1.lt
    generalize w8.alloc (.cells #[.int .i64 n, .slice ta (n * n) tc] 29) = W9 at H9 hnew hsz ⊢
    have x0 := cell_of_row W9 M 0 _ _ _ hnew
    have x1 := cell_of_row W9 M 1 _ _ _ hnew
    simp only [List.getElem?_toArray, List.getElem?_cons_succ, List.getElem?_cons_zero] at x0 x1
    have HZ := hide hsz
    have q1 : ¬ w.heap.size + 1 = M := by omega
    have q2 : ¬ M = w.heap.size + 1 := by omega
    have q3 : ¬ w.heap.size + 1 + 1 = M := by omega
    have q4 : ¬ M = w.heap.size + 1 + 1 := by omega
    have q5 : ¬ w.heap.size + 1 = w.heap.size + 1 + 1 := by omega
    have q6 : ¬ w.heap.size + 1 + 1 = w.heap.size + 1 := by omega
    have HLE := hide (fun (w' : World) (hr : IRow w' w.heap.size (.slice ta (n * n) tc) (cellsM n (tab (legsM (mtM true) A)))) => least_any HN.out HWO.out hr)
    clear hA8 hnew hsz hM H8 H7 H2 H1 c0 c1
    first | (go_region_held (fun w' => w'.cell? ⟨M, 0, none⟩ = some (.int .i64 n) ∧ w'.cell? ⟨M, 1, none⟩ = some (.slice ta (n * n) tc)) (go_keep) (first | (go_at_call 20; refine (HLE.out _ (H9.out.2.2.later (Nat.le_refl _) (Below.refl _ _).drew)).mono ?_; rintro e w10 ⟨v10, rfl, h4, h50⟩; have h5 : Below W9.heap.size W9 w10 := (Below.refl W9.heap.size W9).drew.trans h50; clear h50; obtain ⟨la, lc, rfl⟩ := h4.shape; rw [cellsM_len] at h4 ⊢; have y0 : w10.cell? ⟨M, 0, none⟩ = some (.int .i64 n) := (h5.cell (p := ⟨M, 0, none⟩) (by show M < W9.heap.size; rw [HZ.out]; omega)).trans x0; have y1 : w10.cell? ⟨M, 1, none⟩ = some (.slice ta (n * n) tc) := (h5.cell (p := ⟨M, 1, none⟩) (by show M < W9.heap.size; rw [HZ.out]; omega)).trans x1; have H10 : Hid (GrIn w.heap.size w n a m c A w10 ∧ GAt w10 g1 n (tab (legsM (mtM true) A)) ∧ IRow w10 w.heap.size (.slice ta (n * n) tc) (cellsM n (tab (legsM (mtM true) A))) ∧ IRow w10 W9.heap.size (.slice la (n * n) lc) (cellsM n (least n (tab (legsM (mtM true) A))))) := ⟨H9.out.1.later h5, H9.out.2.1.later h5, H9.out.2.2.later (Nat.le_refl _) h5, h4⟩; have k0 := cell_of_row w10 (w.heap.size + 1) 0 _ _ _ H10.out.1.b1; have k1 := cell_of_row w10 (w.heap.size + 1) 1 _ _ _ H10.out.1.b1; have k2 := cell_of_row w10 (w.heap.size + 2) 0 _ _ _ H10.out.1.b2; have k3 := cell_of_row w10 (w.heap.size + 2) 1 _ _ _ H10.out.1.b2; simp only [List.getElem?_toArray, List.getElem?_cons_succ, List.getElem?_cons_zero] at k0 k1 k2 k3; have f0 := frozen_of_row w10 (w.heap.size + 1) 0 _ _ H10.out.1.b1; have f1 := frozen_of_row w10 (w.heap.size + 1) 1 _ _ H10.out.1.b1; have f2 := frozen_of_row w10 (w.heap.size + 2) 0 _ _ H10.out.1.b2; have f3 := frozen_of_row w10 (w.heap.size + 2) 1 _ _ H10.out.1.b2; clear h4 h5)))
    all_goals
      go_wp2
      (try simp only [Exit.inBlock, Exit.then])
      have HPT := grin_put H10.out.1 (.int .i64 n) (.slice ta (n * n) tc) (.int .i64 n) (.slice la (n * n) lc)
      have HKP := grin_keep H10.out.1 H10.out.2.1 (.int .i64 n) (.slice ta (n * n) tc) (.int .i64 n) (.slice la (n * n) lc)
      refine bodyPost_ret (results_four rfl _ _ (w.heap.size + 1) (w.heap.size + 2) _ _ _ _ rfl rfl HPT.1 HPT.2.1) rfl ?_
      exact ⟨g1, _, _, rfl, HKP.1, HKP.2 _ _ _ H10.out.2.2.1, HKP.2 _ _ _ (H10.out.2.2.2.mono (by have := HZ.out; omega)), HPT.2.2⟩
end Go.Proofs.YtojkdmkeankcgaaGreat
/-  What the laws of chapter 6 share: a matrix in its box, the call of Graph, ways the other way round. -/
namespace Go.Proofs.YtojkdmkeankcgaaGreat
open Go.RowKit Go.Sort

/-- A matrix in a box. -/
structure MBox (wr : World) (b n tg tc Q : Nat) (xs : List Int) : Prop where
  box : wr.heap[b]? = some (.cells #[.int .i64 n, .slice (some ⟨tg, 0, none⟩) Q tc] 29 (0, 0))
  cells : ∀ k, k < Q → wr.cell? ⟨tg, k, none⟩ = some (.int .i64 xs[k]!)
section
variable {w w' : World} {b n tg tc Q : Nat} {xs : List Int}
theorem MBox.later (h : MBox w b n tg tc Q xs) (f : Below w.heap.size w w') : MBox w' b n tg tc Q xs :=
  ⟨(f.block b (Array.getElem?_eq_some_iff.1 h.box).1).trans h.box, fun k hk => (f.cell (p := ⟨tg, k, none⟩) (block_lt_of_cell (h.cells k hk))).trans (h.cells k hk)⟩
theorem MBox.drewN (h : MBox w b n tg tc Q xs) (q : Nat) : MBox (w.drewN q) b n tg tc Q xs := h.later (Qu.below_drewN (Below.refl _ _) q)
theorem MBox.c0 (h : MBox w b n tg tc Q xs) : w.cell? ⟨b, 0, none⟩ = some (.int .i64 n) := by rw [cell_of_row _ b 0 _ _ _ h.box]; rfl
theorem MBox.c1 (h : MBox w b n tg tc Q xs) : w.cell? ⟨b, 1, none⟩ = some (.slice (some ⟨tg, 0, none⟩) Q tc) := by rw [cell_of_row _ b 1 _ _ _ h.box]; rfl
theorem MBox.mk' {base : Nat} (hr : IRow w base (.slice (some ⟨tg, 0, none⟩) Q tc) xs) (hl : xs.length = Q) (hb : w.heap[b]? = some (.cells #[.int .i64 n, .slice (some ⟨tg, 0, none⟩) Q tc] 29 (0, 0))) : MBox w b n tg tc Q xs := ⟨hb, fun k hk => hr.cell k (by omega)⟩
end
/-! ### ways the other way round -/
section
variable {n : Nat} {W V : Nat → Nat → Option Int}
theorem Way.lt {p q : Nat} {d : Int} (h : Way n W p q d) (hp : p < n) : q < n := by
  cases h with
  | here => exact hp
  | on _ _ hv _ => exact hv
theorem Way.turn (hV : ∀ a b, a < n → b < n → V b a = W a b) {p q : Nat} {d : Int} (h : Way n W p q d) : Way n V q p d := by
  induction h with
  | here => exact .here
  | @on u v d x h hu hv hx ih =>
    have h1 : Way n V v u x := by
      have := (Way.here (n := n) (W := V) (p := v)).on hv hu (by rw [hV u v hu hv]; exact hx)
      rw [Int.zero_add] at this
      exact this
    have := h1.trans ih
    rw [Int.add_comm] at this
    exact this
theorem least_turn (hW : WOk n W) (hV : ∀ a b, a < n → b < n → V b a = W a b) {p q : Nat} (hp : p < n) (hq : q < n) : least n W p q = least n V q p := by
  have hVo : WOk n V := fun a b v ha hb h => hW b a v hb ha (by rw [← hV b a hb ha]; exact h)
  have hV' : ∀ a b, a < n → b < n → W b a = V a b := fun a b ha hb => (hV b a hb ha).symm
  have h1 := least_is hW p hp
  have h2 := least_is hVo q hq
  cases e1 : least n W p q with
  | none =>
    cases e2 : least n V q p with
    | none => rfl
    | some d =>
      obtain ⟨d', h3, _⟩ := h1.le ((h2.way p d hp e2).turn hV')
      rw [e1] at h3; cases h3
  | some d =>
    obtain ⟨d', h3, h4⟩ := h2.le ((h1.way q d hq e1).turn hV)
    obtain ⟨d'', h5, h6⟩ := h1.le ((h2.way p d' hp h3).turn hV')
    rw [e1] at h5
    cases h5
    rw [h3]
    congr 1
    omega
end
/-- Behind the call of Graph: the road, the graph, its table and its least weights. -/
structure G3 (B : Nat) (w : World) (n : Nat) (a : Option Addr) (m c : Nat) (A : List Arc) (g : Nat) (W : Nat → Nat → Option Int) (b tg tc lg lc Q : Nat) (wr : World) : Prop where
  rin : RIn B w n a m c A wr
  gr : GAt wr g n W
  mt : MBox wr b n tg tc Q (cellsM n W)
  ml : MBox wr (b + 1) n lg lc Q (cellsM n (least n W))
section
variable {B n m c g b tg tc lg lc Q b3 b4 : Nat} {w wr w' w2 : World} {a : Option Addr} {A : List Arc} {W : Nat → Nat → Option Int}
theorem G3.later (h : G3 B w n a m c A g W b tg tc lg lc Q wr) (f : Below wr.heap.size wr w') : G3 B w n a m c A g W b tg tc lg lc Q w' := ⟨h.rin.later f, h.gr.later f, h.mt.later f, h.ml.later f⟩
theorem G3.drewN (h : G3 B w n a m c A g W b tg tc lg lc Q wr) (q : Nat) : G3 B w n a m c A g W b tg tc lg lc Q (wr.drewN q) := h.later (Qu.below_drewN (Below.refl _ _) q)
theorem g3_mk (hR : RIn B w n a m c A w2) (hG : GAt w2 g n W) (h3 : IRow w2 b3 (.slice (some ⟨tg, 0, none⟩) Q tc) (cellsM n W)) (h4 : IRow w2 b4 (.slice (some ⟨lg, 0, none⟩) Q lc) (cellsM n (least n W))) (hQ : n * n = Q) :
    G3 B w n a m c A g W w2.heap.size tg tc lg lc Q ((w2.alloc (.cells #[.int .i64 n, .slice (some ⟨tg, 0, none⟩) Q tc] 29)).alloc (.cells #[.int .i64 n, .slice (some ⟨lg, 0, none⟩) Q lc] 29)) := by
  have f1 : Below w2.heap.size w2 (w2.alloc (.cells #[.int .i64 n, .slice (some ⟨tg, 0, none⟩) Q tc] 29)) := (Below.refl _ _).alloc (Nat.le_refl _) _
  have f2 : Below (w2.alloc (.cells #[.int .i64 n, .slice (some ⟨tg, 0, none⟩) Q tc] 29)).heap.size (w2.alloc (.cells #[.int .i64 n, .slice (some ⟨tg, 0, none⟩) Q tc] 29)) ((w2.alloc (.cells #[.int .i64 n, .slice (some ⟨tg, 0, none⟩) Q tc] 29)).alloc (.cells #[.int .i64 n, .slice (some ⟨lg, 0, none⟩) Q lc] 29)) := (Below.refl _ _).alloc (Nat.le_refl _) _
  have hs : (w2.alloc (.cells #[.int .i64 n, .slice (some ⟨tg, 0, none⟩) Q tc] 29)).heap.size = w2.heap.size + 1 := by simp
  refine ⟨(hR.later f1).later f2, (hG.later f1).later f2, MBox.later (MBox.mk' (h3.later (Nat.le_refl _) f1) (by rw [cellsM_len]; exact hQ) (heap_alloc_new _ _)) f2, MBox.mk' ((h4.later (Nat.le_refl _) f1).later (Nat.le_refl _) f2) (by rw [cellsM_len]; exact hQ) (by rw [← hs]; exact heap_alloc_new _ _)⟩
end
/-- Two matrices, each in its box. -/
structure M2 (B : Nat) (w : World) (n b ga ca gb cb Q : Nat) (xs ys : List Int) (wr : World) : Prop where
  below : Below B w wr
  a : MBox wr b n ga ca Q xs
  b : MBox wr (b + 1) n gb cb Q ys
theorem M2.drewN {B n b ga ca gb cb Q : Nat} {w wr : World} {xs ys : List Int} (h : M2 B w n b ga ca gb cb Q xs ys wr) (q : Nat) : M2 B w n b ga ca gb cb Q xs ys (wr.drewN q) := ⟨Qu.below_drewN h.below q, h.a.drewN q, h.b.drewN q⟩
theorem m2_mk {B n ga ca gb cb Q b3 b4 : Nat} {w w2 : World} {xs ys : List Int} (hb : Below B w w2) (hB : B ≤ w2.heap.size) (h3 : IRow w2 b3 (.slice (some ⟨ga, 0, none⟩) Q ca) xs) (h4 : IRow w2 b4 (.slice (some ⟨gb, 0, none⟩) Q cb) ys) (hx : xs.length = Q) (hy : ys.length = Q) :
    M2 B w n w2.heap.size ga ca gb cb Q xs ys ((w2.alloc (.cells #[.int .i64 n, .slice (some ⟨ga, 0, none⟩) Q ca] 29)).alloc (.cells #[.int .i64 n, .slice (some ⟨gb, 0, none⟩) Q cb] 29)) := by
  have f1 : Below w2.heap.size w2 (w2.alloc (.cells #[.int .i64 n, .slice (some ⟨ga, 0, none⟩) Q ca] 29)) := (Below.refl _ _).alloc (Nat.le_refl _) _
  have f2 : Below (w2.alloc (.cells #[.int .i64 n, .slice (some ⟨ga, 0, none⟩) Q ca] 29)).heap.size (w2.alloc (.cells #[.int .i64 n, .slice (some ⟨ga, 0, none⟩) Q ca] 29)) ((w2.alloc (.cells #[.int .i64 n, .slice (some ⟨ga, 0, none⟩) Q ca] 29)).alloc (.cells #[.int .i64 n, .slice (some ⟨gb, 0, none⟩) Q cb] 29)) := (Below.refl _ _).alloc (Nat.le_refl _) _
  have hs : (w2.alloc (.cells #[.int .i64 n, .slice (some ⟨ga, 0, none⟩) Q ca] 29)).heap.size = w2.heap.size + 1 := by simp
  exact ⟨(hb.alloc hB _).alloc (by rw [hs]; omega) _, MBox.later (MBox.mk' (h3.later (Nat.le_refl _) f1) hx (heap_alloc_new _ _)) f2, MBox.mk' ((h4.later (Nat.le_refl _) f1).later (Nat.le_refl _) f2) hy (by rw [← hs]; exact heap_alloc_new _ _)⟩
end Go.Proofs.YtojkdmkeankcgaaGreat
