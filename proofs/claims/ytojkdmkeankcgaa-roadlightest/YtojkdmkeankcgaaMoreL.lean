/-
  What the law ShortMore does.
-/
import Derived.Test.YtojkdmkeankcgaaLawM
import Derived.Test.YtojkdmkeankcgaaMoreP
import Derived.Deep.RegionHeld3
namespace Go.Proofs.Ytojkdmkeankcgaa
open Go.RowKit Go.Sort

/-- Graph, whatever it answers. -/
theorem graph_some (n : Int) (a : Option Addr) (m c : Nat) (A : List Arc) (d : Bool) (w : World) (h : ArcsAt w a m A) (hc : a = none → c = 0) :
    Calls Try.prog 16 #[.agg #[.int .i64 n, .slice a m c], .bool d] w fun e w' => ∃ og n1 a1 m1 c1 n2 a2 m2 c2 ok, e = .returned (.tuple #[.pointer og, .agg #[.int .i64 n1, .slice a1 m1 c1], .agg #[.int .i64 n2, .slice a2 m2 c2], .bool ok]) ∧ Below w.heap.size w w' := by
  by_cases hm : 300 < m
  · refine (graph_many n a m c A d w h hm).mono ?_
    rintro e w' ⟨rfl, hb⟩
    exact ⟨none, 0, none, 0, 0, 0, none, 0, 0, false, rfl, hb⟩
  · by_cases he : (checkM n A).2 = 0
    · obtain ⟨hn, _⟩ := checkM_ok he
      obtain ⟨k, rfl⟩ : ∃ k : Nat, n = (k : Int) := ⟨n.toNat, by omega⟩
      refine (graph_good k a m c A d w h hc (by omega) he).mono ?_
      rintro e w' ⟨g, vt, vl, rfl, _, h3, h4, hb⟩
      obtain ⟨a1, c1, rfl⟩ := h3.shape
      obtain ⟨a2, c2, rfl⟩ := h4.shape
      exact ⟨_, _, a1, _, c1, _, a2, _, c2, true, rfl, hb⟩
    · refine (graph_bad n a m c A d w h hc (by omega) he).mono ?_
      rintro e w' ⟨rfl, hb⟩
      exact ⟨none, 0, none, 0, 0, 0, none, 0, 0, false, rfl, hb⟩
/-- The road's box and the arc's. -/
structure RMx (B : Nat) (w : World) (n : Int) (a : Option Addr) (m c : Nat) (A : List Arc) (x : Arc) (wr : World) : Prop where
  below : Below B w wr
  hB : B ≤ wr.heap.size
  b0 : wr.heap[B]? = some (.cells #[.int .i64 n, .slice a m c] 24 (0, 0))
  b1 : wr.heap[B + 1]? = some (.cells #[.int .i64 x.1, .int .i64 x.2.1, .int .i64 x.2.2.1, .int .i64 x.2.2.2] 33 (0, 0))
  arcs : ArcsAt wr a m A
section
variable {B m c : Nat} {w wr w' : World} {n : Int} {a : Option Addr} {A : List Arc} {x : Arc}
theorem RMx.later (h : RMx B w n a m c A x wr) (f : Below wr.heap.size wr w') : RMx B w n a m c A x w' :=
  ⟨h.below.trans (f.mono h.hB), Nat.le_trans h.hB f.size, (f.block _ (Array.getElem?_eq_some_iff.1 h.b0).1).trans h.b0, (f.block _ (Array.getElem?_eq_some_iff.1 h.b1).1).trans h.b1, h.arcs.later (Nat.le_refl _) f⟩
theorem RMx.cr (h : RMx B w n a m c A x wr) : wr.cell? ⟨B, 0, none⟩ = some (.int .i64 n) ∧ wr.cell? ⟨B, 1, none⟩ = some (.slice a m c) := ⟨by rw [cell_of_row _ B 0 _ _ _ h.b0]; rfl, by rw [cell_of_row _ B 1 _ _ _ h.b0]; rfl⟩
theorem RMx.cx (h : RMx B w n a m c A x wr) : wr.cell? ⟨B + 1, 0, none⟩ = some (.int .i64 x.1) ∧ wr.cell? ⟨B + 1, 1, none⟩ = some (.int .i64 x.2.1) ∧ wr.cell? ⟨B + 1, 2, none⟩ = some (.int .i64 x.2.2.1) ∧ wr.cell? ⟨B + 1, 3, none⟩ = some (.int .i64 x.2.2.2) :=
  ⟨by rw [cell_of_row _ (B + 1) 0 _ _ _ h.b1]; rfl, by rw [cell_of_row _ (B + 1) 1 _ _ _ h.b1]; rfl, by rw [cell_of_row _ (B + 1) 2 _ _ _ h.b1]; rfl, by rw [cell_of_row _ (B + 1) 3 _ _ _ h.b1]; rfl⟩
end
theorem rmx_start (w : World) (n : Int) (a : Option Addr) (m c : Nat) (A : List Arc) (x : Arc) (h : ArcsAt w a m A) : RMx w.heap.size w n a m c A x ((w.alloc (.cells #[.int .i64 n, .slice a m c] 24)).alloc (.cells #[.int .i64 x.1, .int .i64 x.2.1, .int .i64 x.2.2.1, .int .i64 x.2.2.2] 33)) := by
  have f := below_two (Below.refl w.heap.size w) (Nat.le_refl _) (.cells #[.int .i64 n, .slice a m c] 24) (.cells #[.int .i64 x.1, .int .i64 x.2.1, .int .i64 x.2.2.1, .int .i64 x.2.2.2] 33)
  have h1 := heap_alloc_new (w.alloc (.cells #[.int .i64 n, .slice a m c] 24)) (.cells #[.int .i64 x.1, .int .i64 x.2.1, .int .i64 x.2.2.1, .int .i64 x.2.2.2] 33)
  rw [show (w.alloc (.cells #[.int .i64 n, .slice a m c] 24)).heap.size = w.heap.size + 1 by simp] at h1
  refine ⟨f, f.size, ?_, h1, h.later (Nat.le_refl _) f⟩
  rw [Below.heap_alloc _ _ _ (by simp)]
  exact heap_alloc_new _ _
/-- Behind the append: the box holds the longer row. -/
theorem more_box {w3 w6 : World} {B3 m vc c6 : Nat} {n : Int} {va a6 : Option Addr} {A : List Arc} {x : Arc}
    (hown0 : w3.ownsRow B3 33 4 (.slice va m vc) m (flatA A)) (hlen : A.length = m)
    (hown : w6.ownsRow B3 33 4 (.slice a6 (m + 1) c6) (m + 1) (flatA (A ++ [x])))
    (hg : ((w3.alloc (.cells #[.int .i64 n, .slice va m vc] 24)).alloc (.cells #[.int .i64 x.1, .int .i64 x.2.1, .int .i64 x.2.2.1, .int .i64 x.2.2.2] 33)).grownBy w6 (Value.slice va m vc).ownBlock) :
    w6.heap[w3.heap.size]? = some (.cells #[.int .i64 n, .slice va m vc] 24 (0, 0)) ∧ ArcsAt (w6.setCell ⟨w3.heap.size, 1, none⟩ (.slice a6 (m + 1) c6)) a6 (m + 1) (A ++ [x]) ∧ (B3 ≤ w3.heap.size → Below B3 w3 (w6.setCell ⟨w3.heap.size, 1, none⟩ (.slice a6 (m + 1) c6))) ∧ (a6 = none → c6 = 0) := by
  have hT : ((w3.alloc (.cells #[.int .i64 n, .slice va m vc] 24)).alloc (.cells #[.int .i64 x.1, .int .i64 x.2.1, .int .i64 x.2.2.1, .int .i64 x.2.2.2] 33)).heap[w3.heap.size]? = some (.cells #[.int .i64 n, .slice va m vc] 24 (0, 0)) := by
    rw [Below.heap_alloc _ _ _ (by simp)]; exact heap_alloc_new _ _
  have h6 : w6.heap[w3.heap.size]? = some (.cells #[.int .i64 n, .slice va m vc] 24 (0, 0)) := by
    rw [hg.block w3.heap.size (by simp; omega) (fun e => by have := (hown0.lt _ e.symm).2; omega)]
    exact hT
  have hown' : (w6.setCell ⟨w3.heap.size, 1, none⟩ (.slice a6 (m + 1) c6)).ownsRow B3 33 4 (.slice a6 (m + 1) c6) (m + 1) (flatA (A ++ [x])) := own_of_block hown fun k hk => heap_setCell_other _ _ _ _ fun e => by
    obtain ⟨cur, hc⟩ := own_tag hown hk
    rw [show k = w3.heap.size from e, h6] at hc
    simp at hc
  obtain ⟨a', c', e, hA⟩ := own_arcs hown' (by simp [hlen])
  injection e with e1 e2 e3
  subst e1 e3
  refine ⟨h6, hA, fun hB => ?_, fun e => by subst e; have := arcs_none hA; omega⟩
  have f2 : Below B3 w3 ((w3.alloc (.cells #[.int .i64 n, .slice va m vc] 24)).alloc (.cells #[.int .i64 x.1, .int .i64 x.2.1, .int .i64 x.2.2.1, .int .i64 x.2.2.2] 33)) := below_two (Below.refl _ _) hB _ _
  exact (f2.grown hg (by simp; omega) fun k hk => (hown0.lt k hk).1).setCell hB _
theorem size_alloc7 (w : World) (o : Obj) : (w.alloc o).heap.size = w.heap.size + 1 := by simp
theorem one_arc (w : World) (x : Arc) : ArcsAt (w.alloc (.cells #[.int .i64 x.1, .int .i64 x.2.1, .int .i64 x.2.2.1, .int .i64 x.2.2.2] 33)) (some ⟨w.heap.size, 0, none⟩) 1 [x] := by
  have h := heap_alloc_new w (.cells #[.int .i64 x.1, .int .i64 x.2.1, .int .i64 x.2.2.1, .int .i64 x.2.2.2] 33)
  refine ⟨rfl, by omega, fun k hk => ⟨w.heap.size, 0, rfl, ?_⟩⟩
  have hk0 : k = 0 := by omega
  subst hk0
  exact ⟨by rw [cell_of_row _ _ _ _ _ _ h]; rfl, by rw [cell_of_row _ _ _ _ _ _ h]; rfl, by rw [cell_of_row _ _ _ _ _ _ h]; rfl, by rw [cell_of_row _ _ _ _ _ _ h]; rfl⟩
theorem more_cell {n : Nat} {V W : Nat → Nat → Option Int} (hV : WOk n V) (hW : WOk n W) (h : ∀ a b, a < n → b < n → Ole (V a b) (W a b)) {i : Nat} (hi : i < n * n) : (cellsM n (least n W))[i]! < 0 ∨ (0 ≤ (cellsM n (least n W))[i]! ∧ 0 ≤ (cellsM n (least n V))[i]! ∧ (cellsM n (least n V))[i]! ≤ (cellsM n (least n W))[i]!) := by
  have hn : 0 < n := by
    rcases Nat.eq_zero_or_pos n with e | e
    · subst e; omega
    · exact e
  have ha : i / n < n := Nat.div_lt_of_lt_mul hi
  have hb : i % n < n := Nat.mod_lt _ hn
  have e : i = i / n * n + i % n := by rw [Nat.mul_comm]; exact (Nat.div_add_mod i n).symm
  generalize i / n = a at ha e
  generalize i % n = b at hb e
  subst e
  rw [cellsM_at _ ha hb, cellsM_at _ ha hb]
  cases ew : least n W a b with
  | none => left; show (-1 : Int) < 0; omega
  | some x =>
    obtain ⟨y, e1, e2⟩ := least_more hV hW h ha hb x ew
    rw [e1]
    right
    have h1 := (least_pos hW ha hb ew).1
    have h2 := (least_pos hV ha hb e1).1
    exact ⟨h1, h2, e2⟩
theorem load24b (w : World) (g : Nat) (u v : Value) (h : w.heap[g]? = some (.cells #[u, v] 24 (0, 0))) : (loadVar 24 ⟨g, 0, none⟩).run Try.prog w = .ok (.agg #[u, v]) w := run_loadVar_row w g 24 24 _ (0, 0) _ h Try.underlying24 rfl (by kernel_rfl)
set_option maxRecDepth 100000
set_option maxHeartbeats 12800000
theorem more_bad (n : Int) (a : Option Addr) (m c : Nat) (A : List Arc) (x : Arc) (d : Bool) (w : World) (h : ArcsAt w a m A) (hc : a = none → c = 0) (hz : (m + 1) * 32 ≤ 140737488355328) (hb : 300 < m ∨ (m ≤ 300 ∧ (checkM n A).2 ≠ 0)) :
    Calls Try.prog 4 #[.agg #[.int .i64 n, .slice a m c], .agg #[.int .i64 x.1, .int .i64 x.2.1, .int .i64 x.2.2.1, .int .i64 x.2.2.2], .bool d] w fun e w' => e = .returned (.bool true) ∧ Below w.heap.size w w' := by
  have HS := hide (rmx_start w n a m c A x h)
  have hlen := h.len
  have HGR : Hid (∀ w', ArcsAt w' a m A → Calls Try.prog 16 #[.agg #[.int .i64 n, .slice a m c], .bool d] w' fun e w'' => e = .returned (.tuple #[.pointer none, .agg #[.int .i64 0, .slice none 0 0], .agg #[.int .i64 0, .slice none 0 0], .bool false]) ∧ Below w'.heap.size w' w'') := fun w' h' => by
    rcases hb with hm | ⟨hm, he⟩
    · exact graph_many n a m c A d w' h' hm
    · exact graph_bad n a m c A d w' h' hc hm he
  have HC := hide hc
  have HZ := hide hz
  have HLEN := hide hlen
  obtain ⟨i0, hi0, hy0, hy1, hy2⟩ := info_parts info50
  have HI := hide (And.intro hi0 (And.intro hy0 (And.intro hy1 hy2)))
  clear h hc hb hz hlen hi0 hy0 hy1 hy2
  go_enter Try.func4, Try.ntmps4
  go_wp2_with (first
    | (go_at_call 15; refine (awakeS_any _).mono ?_; rintro e w1 ⟨rfl, h1⟩; have H1 := hide (HS.out.later h1); obtain ⟨c0, c1⟩ := H1.out.cr; clear h1)
    | (go_at_call 16; refine (HGR.out _ H1.out.arcs).mono ?_; rintro e w2 ⟨rfl, h2⟩; have H2 := hide ((H1.out.later h2).later (below_two (Below.refl _ _) (Nat.le_refl _) (.cells #[.int .i64 0, .slice none 0 0] 39) (.cells #[.int .i64 0, .slice none 0 0] 39))); obtain ⟨c0, c1⟩ := H2.out.cr; clear h2)
    | (go_at_call 9; refine (copied_any n a m c A _ H2.out.arcs HC.out (by have := HZ.out; omega)).mono ?_; rintro e w3 ⟨v3, rfl, h3, h4⟩; obtain ⟨va, vc, rfl, _⟩ := own_arcs h3 HLEN.out; have h5 := h4.size; generalize hB3e : ((w2.alloc (.cells #[.int .i64 0, .slice none 0 0] 39)).alloc (.cells #[.int .i64 0, .slice none 0 0] 39)).heap.size = B3 at h3 h5; have HWB : Hid (w.heap.size ≤ B3) := (by have := H2.out.below.size; rw [hB3e] at this; exact this); have H3 := hide (And.intro h3 (And.intro (H2.out.later h4) h5)); obtain ⟨x0, x1, x2, x3⟩ := (H3.out.2.1.later ((Below.refl _ _).alloc (Nat.le_refl _) (.cells #[.int .i64 n, .slice va m vc] 24))).cx; have HOW : Hid (((w3.alloc (.cells #[.int .i64 n, .slice va m vc] 24)).alloc (.cells #[.int .i64 x.1, .int .i64 x.2.1, .int .i64 x.2.2.1, .int .i64 x.2.2.2] 33)).ownsRow B3 33 4 (.slice va m vc) m (flatA A)) := World.ownsRow.alloc (World.ownsRow.alloc H3.out.1 _) _; have HNW := hide (one_arc (w3.alloc (.cells #[.int .i64 n, .slice va m vc] 24)) x); rw [size_alloc7] at HNW; have HB3 : Hid (B3 ≤ ((w3.alloc (.cells #[.int .i64 n, .slice va m vc] 24)).alloc (.cells #[.int .i64 x.1, .int .i64 x.2.1, .int .i64 x.2.2.1, .int .i64 x.2.2.2] 33)).heap.size) := (by have := H3.out.2.2; show _ ≤ _; simp; omega); clear h3 h4 h5)
    | (at_builtin; refine app_arcs (.tmp 32) (.tmp 34) i0 HI.out.1 HI.out.2.1 HI.out.2.2.1 HI.out.2.2.2 rfl rfl B3 (.slice va m vc) m A rfl HOW.out (some ⟨w3.heap.size + 1, 0, none⟩) 1 1 [x] rfl HNW.out (fun e => by cases e) HZ.out HB3.out ?_))
  intro v6 w6 hown6 hgrow6
  obtain ⟨a6, c6, rfl, _⟩ := own_arcs hown6 (by rw [List.length_append, HLEN.out]; rfl)
  have H6 := hide (more_box (n := n) H3.out.1 HLEN.out hown6 hgrow6)
  have y0 := cell_of_row w6 w3.heap.size 0 _ _ _ H6.out.1
  have y1 := cell_of_row w6 w3.heap.size 1 _ _ _ H6.out.1
  have yf := frozen_of_row w6 w3.heap.size 1 _ _ H6.out.1
  simp only [List.getElem?_toArray, List.getElem?_cons_succ, List.getElem?_cons_zero] at y0 y1
  have HB7 : Hid (Below w.heap.size w (w6.setCell ⟨w3.heap.size, 1, none⟩ (.slice a6 (m + 1) c6))) := H3.out.2.1.below.trans ((H6.out.2.2.1 H3.out.2.2).mono HWB.out)
  clear hown6 hgrow6 HOW HNW x0 x1 x2 x3 c0 c1
  go_wp2_with (go_at_call 16; refine (graph_some n a6 (m + 1) c6 (A ++ [x]) d _ H6.out.2.1 H6.out.2.2.2).mono ?_; rintro e w8 ⟨og, n1, a1, m1, c1, n2, a2, m2, c2, ok, rfl, h8⟩; have H8 := hide (HB7.out.trans (h8.mono HB7.out.size)); clear h8)
  go_ret
  exact ⟨rfl, (H8.out.alloc H8.out.size _).alloc (by have := H8.out.size; simp; omega) _⟩
theorem more_good (n : Nat) (a : Option Addr) (m c : Nat) (A : List Arc) (x : Arc) (d : Bool) (w : World) (h : ArcsAt w a m A) (hc : a = none → c = 0) (hm : m ≤ 300) (he : (checkM n A).2 = 0) :
    Calls Try.prog 4 #[.agg #[.int .i64 n, .slice a m c], .agg #[.int .i64 x.1, .int .i64 x.2.1, .int .i64 x.2.2.1, .int .i64 x.2.2.2], .bool d] w fun e w' => e = .returned (.bool true) ∧ Below w.heap.size w w' := by
  have HS := hide (rmx_start w n a m c A x h)
  have hlen := h.len
  obtain ⟨hn0, hl, hok⟩ := checkM_ok he
  have hn : 1 ≤ n ∧ n ≤ 32 := by omega
  have HN := hide hn
  have HM := hide (mt_pos he d)
  have HWO : Hid (WOk n (tab (legsM (mtM d) A))) := fun p q x _ _ hx => tab_pos HM.out p q x hx
  have HGR := hide (fun (w' : World) (h' : ArcsAt w' a m A) => graph_good n a m c A d w' h' hc hm he)
  obtain ⟨Q, hQ⟩ : ∃ Q, n * n = Q := ⟨_, rfl⟩
  have HQ := hide hQ
  have hQb : Q ≤ 1024 := by rw [← hQ]; exact (mul_wrap hn.2 hn.2).2
  have HQ0 : Hid (0 < n * n) := Nat.mul_pos (by omega) (by omega)
  have HC := hide hc
  have HZ : Hid ((m + 1) * 32 ≤ 140737488355328) := by show _ ≤ _; omega
  have HLEN := hide hlen
  have HMO : Hid (∀ V, V = tab (legsM (mtM d) (A ++ [x])) → ∀ a b, a < n → b < n → Ole (V a b) (tab (legsM (mtM d) A) a b)) := fun V hV p q _ _ => by rw [hV]; exact tab_more (legs_more (mtM d) fun y hy => List.mem_append.2 (.inl hy)) p q
  obtain ⟨i0, hi0, hy0, hy1, hy2⟩ := info_parts info50
  have HI := hide (And.intro hi0 (And.intro hy0 (And.intro hy1 hy2)))
  clear h hc hlen hi0 hy0 hy1 hy2 he hn0 hok hQ
  generalize tab (legsM (mtM d) A) = W at HWO HGR HMO
  go_enter Try.func4, Try.ntmps4
  go_wp2_with (first
    | (go_at_call 15; refine (awakeS_any _).mono ?_; rintro e w1 ⟨rfl, h1⟩; have H1 := hide (HS.out.later h1); obtain ⟨c0, c1⟩ := H1.out.cr; clear h1)
    | (go_at_call 16; refine (HGR.out _ H1.out.arcs).mono ?_; rintro e w2 ⟨g, vt, vl, rfl, h2, h3, h4, h5⟩; obtain ⟨ta, tc, rfl⟩ := h3.shape; obtain ⟨la, lc, rfl⟩ := h4.shape; have hf := below_two (Below.refl w2.heap.size w2) (Nat.le_refl _) (.cells #[.int .i64 n, .slice ta (cellsM n W).length tc] 39) (.cells #[.int .i64 n, .slice la (cellsM n (least n W)).length lc] 39); have H2 := hide (And.intro ((H1.out.later h5).later hf) (h2.later hf)); obtain ⟨c0, c1⟩ := H2.out.1.cr; clear h2 h3 h4 h5 hf)
    | (go_at_call 9; refine (copied_any n a m c A _ H2.out.1.arcs HC.out (by have := HZ.out; omega)).mono ?_; rintro e w3 ⟨v3, rfl, h3, h4⟩; obtain ⟨va, vc, rfl, _⟩ := own_arcs h3 HLEN.out; obtain ⟨B3, h3, h5, hWB, hG3⟩ : ∃ B3, w3.ownsRow B3 33 4 (.slice va m vc) m (flatA A) ∧ B3 ≤ w3.heap.size ∧ w.heap.size ≤ B3 ∧ ∀ W7, Below B3 w3 W7 → GAt W7 g n W := ⟨_, h3, h4.size, H2.out.1.below.size, fun W7 f => H2.out.2.later (h4.trans f)⟩; have HWB := hide hWB; have HG3 := hide hG3; have H3 := hide (And.intro h3 (And.intro (H2.out.1.later h4) h5)); obtain ⟨x0, x1, x2, x3⟩ := (H3.out.2.1.later ((Below.refl _ _).alloc (Nat.le_refl _) (.cells #[.int .i64 n, .slice va m vc] 24))).cx; have HOW : Hid (((w3.alloc (.cells #[.int .i64 n, .slice va m vc] 24)).alloc (.cells #[.int .i64 x.1, .int .i64 x.2.1, .int .i64 x.2.2.1, .int .i64 x.2.2.2] 33)).ownsRow B3 33 4 (.slice va m vc) m (flatA A)) := World.ownsRow.alloc (World.ownsRow.alloc H3.out.1 _) _; have HNW := hide (one_arc (w3.alloc (.cells #[.int .i64 n, .slice va m vc] 24)) x); rw [size_alloc7] at HNW; have HB3 : Hid (B3 ≤ ((w3.alloc (.cells #[.int .i64 n, .slice va m vc] 24)).alloc (.cells #[.int .i64 x.1, .int .i64 x.2.1, .int .i64 x.2.2.1, .int .i64 x.2.2.2] 33)).heap.size) := (by have := H3.out.2.2; show _ ≤ _; simp; omega); clear h3 h4 h5 hWB hG3)
    | (at_builtin; refine app_arcs (.tmp 32) (.tmp 34) i0 HI.out.1 HI.out.2.1 HI.out.2.2.1 HI.out.2.2.2 rfl rfl B3 (.slice va m vc) m A rfl HOW.out (some ⟨w3.heap.size + 1, 0, none⟩) 1 1 [x] rfl HNW.out (fun e => by cases e) HZ.out HB3.out ?_))
  intro v6 w6 hown6 hgrow6
  obtain ⟨a6, c6, rfl, _⟩ := own_arcs hown6 (by rw [List.length_append, HLEN.out]; rfl)
  have H6 := hide (more_box (n := n) H3.out.1 HLEN.out hown6 hgrow6)
  have y0 := cell_of_row w6 w3.heap.size 0 _ _ _ H6.out.1
  have y1 := cell_of_row w6 w3.heap.size 1 _ _ _ H6.out.1
  have yf := frozen_of_row w6 w3.heap.size 1 _ _ H6.out.1
  simp only [List.getElem?_toArray, List.getElem?_cons_succ, List.getElem?_cons_zero] at y0 y1
  have HB7 : Hid (Below w.heap.size w (w6.setCell ⟨w3.heap.size, 1, none⟩ (.slice a6 (m + 1) c6))) := H3.out.2.1.below.trans ((H6.out.2.2.1 H3.out.2.2).mono HWB.out)
  clear hown6 hgrow6 HOW HNW x0 x1 x2 x3 c0 c1
  have HG7 := hide (HG3.out _ (H6.out.2.2.1 H3.out.2.2))
  by_cases h2 : m + 1 ≤ 300 ∧ (checkM (n : Int) (A ++ [x])).2 = 0
  · have HGR2 := hide (graph_good n a6 (m + 1) c6 (A ++ [x]) d _ H6.out.2.1 H6.out.2.2.2 h2.1 h2.2)
    have HM2 := hide (mt_pos h2.2 d)
    have HWO2 : Hid (WOk n (tab (legsM (mtM d) (A ++ [x])))) := fun p q x _ _ hx => tab_pos HM2.out p q x hx
    have HMO2 := hide (HMO.out _ rfl)
    clear h2 HMO
    generalize tab (legsM (mtM d) (A ++ [x])) = V at HGR2 HWO2 HMO2
    have HED : Hid (∀ i, i < Q → (cellsM n (least n W))[i]! < 0 ∨ (0 ≤ (cellsM n (least n W))[i]! ∧ 0 ≤ (cellsM n (least n V))[i]! ∧ (cellsM n (least n V))[i]! ≤ (cellsM n (least n W))[i]!)) := fun i hi => more_cell HWO2.out HWO.out HMO2.out (by rw [HQ.out]; exact hi)
    have HL1 : Hid ((cellsM n (least n W)).length = Q) := (cellsM_len n (least n W)).trans HQ.out
    have HL2 : Hid ((cellsM n (least n V)).length = Q) := (cellsM_len n (least n V)).trans HQ.out
    go_wp2_with (first
      | (go_at_call 16; refine HGR2.out.mono ?_; rintro e w8 ⟨g2, vt2, vl2, rfl, h2, h3, h4, h5⟩; obtain ⟨ta2, tc2, rfl⟩ := h3.shape; obtain ⟨la2, lc2, rfl⟩ := h4.shape; have hf := below_two (Below.refl w8.heap.size w8) (Nat.le_refl _) (.cells #[.int .i64 n, .slice ta2 (cellsM n V).length tc2] 39) (.cells #[.int .i64 n, .slice la2 (cellsM n (least n V)).length lc2] 39); have H8 := hide (And.intro ((HG7.out.later h5).later hf) (And.intro (h2.later hf) ((HB7.out.trans (h5.mono HB7.out.size)).trans (hf.mono (Nat.le_trans HB7.out.size h5.size))))); clear h2 h3 h4 h5 hf)
      | (go_at_call 17; have := H9; refine (all_any (H8.out.2.1.later H9.out.2) HN.out HWO2.out).mono ?_; rintro e w10 ⟨v10, rfl, h1, h2⟩; obtain ⟨gb, cb, rfl, _⟩ := h1.form (by rw [cellsM_len]; exact HQ0.out); rw [HL2.out] at h1 ⊢; have H10 := hide (And.intro h1 (And.intro (H9.out.1.later (Nat.le_refl _) h2) (H8.out.2.2.trans ((H9.out.2.trans (h2.mono H9.out.2.size)).mono H8.out.2.2.size)))); clear h1 h2)
      | (go_at_call 17; refine (all_any H8.out.1 HN.out HWO.out).mono ?_; rintro e w9 ⟨v9, rfl, h1, h2⟩; obtain ⟨ga, ca, rfl, _⟩ := h1.form (by rw [cellsM_len]; exact HQ0.out); rw [HL1.out] at h1 ⊢; have H9 := hide (And.intro h1 h2); clear h1 h2))
    have HZ2 := hide (m2_mk (n := n) H10.out.2.2 H10.out.2.2.size H10.out.2.1 H10.out.1 HL1.out HL2.out)
    obtain ⟨b, hb⟩ : ∃ b, w10.heap.size = b := ⟨_, rfl⟩
    rw [hb] at HZ2
    try rw [hb]
    generalize (w10.alloc (.cells #[.int .i64 n, .slice (some ⟨ga, 0, none⟩) Q ca] 39)).alloc (.cells #[.int .i64 n, .slice (some ⟨gb, 0, none⟩) Q cb] 39) = W0 at HZ2 ⊢
    clear hb H1 H2 H3 H6 H8 H9 H10 HG7 HB7 HG3 HS HGR HGR2 y0 y1 yf
    generalize cellsM n (least n W) = xs at HZ2 HED
    generalize cellsM n (least n V) = ys at HZ2 HED
    go_loopw [58] (fun vi wr => ∃ i : Nat, vi = .int .i64 i ∧ i ≤ Q ∧ Hid (M2 w.heap.size w n b ga ca gb cb Q xs ys wr)) (fun vi _ => Q - (intOf vi).toNat)
    case atStart => exact ⟨0, rfl, Nat.zero_le _, HZ2.out⟩
    case round =>
      clear HZ2
      obtain ⟨j, rfl, hj, HR⟩ := hrel
      have za := HR.out.a.c1
      have zb := HR.out.b.c1
      by_cases hjq : j < Q
      · have j1 : (j : Int) < (Q : Int) := by omega
        have ha := HR.out.a.cells j hjq
        have hb := HR.out.b.cells j hjq
        have HE := hide (HED.out j hjq)
        generalize xs[j]! = s at ha HE
        generalize ys[j]! = r at hb HE
        have HR2 : Hid (∀ u, M2 w.heap.size w n b ga ca gb cb Q xs ys (wr.drewN u)) := fun u => HR.out.drewN u
        clear HR
        rcases HE.out with h1 | ⟨h1, h2, h3⟩
        · have d1 : decide (0 ≤ s) = false := decide_eq_false (by omega)
          go_wp2
          go_quiet (fail)
          go_wp2
          go_roundw
          case rel => exact ⟨j + 1, by go_num, by omega, HR2.out _⟩
          case measure => simp [intOf]; omega
        · have d1 : decide (0 ≤ s) = true := decide_eq_true h1
          have d2 : decide (r < 0) = false := decide_eq_false (by omega)
          have d3 : decide (s < r) = false := decide_eq_false (by omega)
          go_wp2
          go_quiet (fail)
          go_wp2
          go_roundw
          case rel => exact ⟨j + 1, by go_num, by omega, HR2.out _⟩
          case measure => simp [intOf]; omega
      · have j1 : ¬ (j : Int) < (Q : Int) := by omega
        go_wp2
        go_ret
        exact ⟨by simp, HR.out.below⟩
  · have HGS := hide (graph_some (n : Int) a6 (m + 1) c6 (A ++ [x]) d _ H6.out.2.1 H6.out.2.2.2)
    have HGB : Hid (Calls Try.prog 16 #[.agg #[.int .i64 n, .slice a6 (m + 1) c6], .bool d] (w6.setCell ⟨w3.heap.size, 1, none⟩ (.slice a6 (m + 1) c6)) fun e w'' => e = .returned (.tuple #[.pointer none, .agg #[.int .i64 0, .slice none 0 0], .agg #[.int .i64 0, .slice none 0 0], .bool false]) ∧ Below (w6.setCell ⟨w3.heap.size, 1, none⟩ (.slice a6 (m + 1) c6)).heap.size (w6.setCell ⟨w3.heap.size, 1, none⟩ (.slice a6 (m + 1) c6)) w'') := by
      show Calls _ _ _ _ _
      by_cases h3 : 300 < m + 1
      · exact graph_many n a6 (m + 1) c6 (A ++ [x]) d _ H6.out.2.1 h3
      · exact graph_bad n a6 (m + 1) c6 (A ++ [x]) d _ H6.out.2.1 H6.out.2.2.2 (by omega) (fun e => h2 ⟨by omega, e⟩)
    replace h2 := hide h2
    go_wp2_with (go_at_call 16; refine HGB.out.mono ?_; rintro e w8 ⟨rfl, h8⟩; have H8 := hide (HB7.out.trans (h8.mono HB7.out.size)); clear h8)
    go_ret
    exact ⟨rfl, (H8.out.alloc H8.out.size _).alloc (by have := H8.out.size; simp; omega) _⟩
theorem more_any (n : Int) (a : Option Addr) (m c : Nat) (A : List Arc) (x : Arc) (d : Bool) (w : World) (h : ArcsAt w a m A) (hc : a = none → c = 0) (hz : (m + 1) * 32 ≤ 140737488355328) :
    Calls Try.prog 4 #[.agg #[.int .i64 n, .slice a m c], .agg #[.int .i64 x.1, .int .i64 x.2.1, .int .i64 x.2.2.1, .int .i64 x.2.2.2], .bool d] w fun e w' => e = .returned (.bool true) ∧ Below w.heap.size w w' := by
  by_cases hm : 300 < m
  · exact more_bad n a m c A x d w h hc hz (.inl hm)
  · by_cases he : (checkM n A).2 = 0
    · obtain ⟨hn, _⟩ := checkM_ok he
      obtain ⟨k, rfl⟩ : ∃ k : Nat, n = (k : Int) := ⟨n.toNat, by omega⟩
      exact more_good k a m c A x d w h hc (by omega) he
    · exact more_bad n a m c A x d w h hc hz (.inr ⟨by omega, he⟩)
end Go.Proofs.Ytojkdmkeankcgaa
