/-
  What the law RoadGraphs does.
-/
import Derived.Test.YtkgpjhechopfhaaSame
namespace Go.Proofs.Ytkgpjhechopfhaa
open Go.RowKit Go.Sort

/-- A road that was handed in: its box, and its arcs. -/
structure RIn (B : Nat) (w : World) (n : Int) (a : Option Addr) (m c : Nat) (A : List Arc) (wr : World) : Prop where
  below : Below B w wr
  b0 : wr.heap[B]? = some (.cells #[.int .i64 n, .slice a m c] 24 (0, 0))
  arcs : ArcsAt wr a m A
section
variable {B m c : Nat} {w wr w' : World} {n : Int} {a : Option Addr} {A : List Arc}
theorem RIn.lt (h : RIn B w n a m c A wr) : B < wr.heap.size := by
  rcases Nat.lt_or_ge B wr.heap.size with h' | h'
  · exact h'
  · have := h.b0; rw [Array.getElem?_eq_none h'] at this; cases this
theorem RIn.later (h : RIn B w n a m c A wr) (f : Below wr.heap.size wr w') : RIn B w n a m c A w' := ⟨h.below.trans (f.mono (Nat.le_of_lt h.lt)), (f.block B h.lt).trans h.b0, h.arcs.later (Nat.le_refl _) f⟩
theorem RIn.c0 (h : RIn B w n a m c A wr) : wr.cell? ⟨B, 0, none⟩ = some (.int .i64 n) := by rw [cell_of_row _ B 0 _ _ _ h.b0]; rfl
theorem RIn.c1 (h : RIn B w n a m c A wr) : wr.cell? ⟨B, 1, none⟩ = some (.slice a m c) := by rw [cell_of_row _ B 1 _ _ _ h.b0]; rfl
end
theorem rin_start (w : World) (n : Int) (a : Option Addr) (m c : Nat) (A : List Arc) (h : ArcsAt w a m A) : RIn w.heap.size w n a m c A (w.alloc (.cells #[.int .i64 n, .slice a m c] 24)) :=
  ⟨(Below.refl _ _).alloc (Nat.le_refl _) _, heap_alloc_new _ _, h.later (Nat.le_refl _) ((Below.refl _ _).alloc (Nat.le_refl _) _)⟩
theorem mt_pos {n : Int} {A : List Arc} (he : (checkM n A).2 = 0) (d : Bool) : ∀ x ∈ A, 0 ≤ mtM d x ∧ mtM d x ≤ 1000000 := fun x hx => by
  have := of_decide_eq_true ((checkM_ok he).2.2 x hx).2
  cases d
  · show 0 ≤ x.2.2.1 ∧ x.2.2.1 ≤ 1000000; omega
  · show 0 ≤ x.2.2.2 ∧ x.2.2.2 ≤ 1000000; omega
theorem tab_pos {mt : Arc → Int} {A : List Arc} {k : Int} (h : ∀ x ∈ A, 0 ≤ mt x ∧ mt x ≤ k) (p q : Nat) (v : Int) (hv : tab (legsM mt A) p q = some v) : 0 ≤ v ∧ v ≤ k := by
  obtain ⟨⟨l, hl, _, _, h3⟩, _⟩ := tab_some.1 hv
  unfold legsM at hl
  rw [List.mem_map] at hl
  obtain ⟨y, hy, rfl⟩ := hl
  rw [← h3]
  exact h y (List.mem_filter.1 hy).1
theorem wt_far (n : Nat) (W : Nat → Nat → Option Int) : wt n W 0 n = -1 := by unfold wt; rw [if_neg (by omega)]
theorem rowZ_low (n : Nat) (W : Nat → Nat → Option Int) : rowZ n W (-1) = [] := by unfold rowZ; rw [if_neg (by omega)]
theorem rowZ_far (n : Nat) (W : Nat → Nat → Option Int) : rowZ n W n = [] := by unfold rowZ; rw [if_neg (by omega)]
theorem out_none {w : World} {g n : Nat} {W : Nat → Nat → Option Int} (h : GAt w g n W) (hn : 1 ≤ n ∧ n ≤ 32) (p : Int) (hp : rowZ n W p = []) :
    Calls Try.prog 23 #[.pointer (some ⟨g, 0, none⟩), .int .i64 p] w fun e w' => ∃ a c, e = .returned (.slice a 0 c) ∧ Below w.heap.size w w' := by
  refine (out_any h hn p).mono ?_
  rintro e w' ⟨v, rfl, h1, h2⟩
  rw [hp] at h1
  rcases h1.2 with ⟨e, e2⟩ | ⟨g, cap, cur, e, _⟩
  · exact ⟨none, 0, by rw [e], h2⟩
  · exact ⟨_, cap, by rw [e]; rfl, h2⟩
set_option maxRecDepth 100000 in
set_option maxHeartbeats 6400000 in
theorem graphs_good (n : Nat) (a : Option Addr) (m c : Nat) (A : List Arc) (d : Bool) (w : World) (h : ArcsAt w a m A) (hc : a = none → c = 0) (hm : m ≤ 300) (he : (checkM n A).2 = 0) :
    Calls Try.prog 3 #[.agg #[.int .i64 n, .slice a m c], .bool d] w fun e w' => e = .returned (.bool true) ∧ Below w.heap.size w w' := by
  obtain ⟨hn0, hl, hok⟩ := checkM_ok he
  have hn : 1 ≤ n ∧ n ≤ 32 := by omega
  have HN := hide hn
  have HC := hide hc
  have HE := hide he
  have HP : Hid (∀ x ∈ A, placeOk (n : Int) x = true) := fun x hx => (hok x hx).1
  have HM := hide (mt_pos he d)
  have HW : Hid (∀ p q x, p < n → q < n → tab (legsM (mtM d) A) p q = some x → 0 ≤ x) := fun p q x _ _ hx => (tab_pos HM.out p q x hx).1
  have HS := hide (rin_start w n a m c A h)
  have hm2 : ¬ (300 : Int) < (m : Int) := by omega
  have HCK := hide (fun (a' : Option Addr) (c' : Nat) (w' : World) (h' : ArcsAt w' a' m A) => check_any n a' m c' A w' h')
  have HRK := hide (fun (a' : Option Addr) (c' : Nat) (w' : World) (h' : ArcsAt w' a' m A) => rcheck_any n a' m c' A w' h')
  rw [he] at HCK HRK
  generalize (checkM n A).1 = ci at HCK HRK
  have hq : (ci != ci) = false := by simp
  have HLEN := hide h.len
  clear h hc he hn0 hok
  go_enter Try.func3, Try.ntmps3
  go_wp2_with (first
    | (go_at_call 15; refine (awake_any _).mono ?_; rintro e w1 ⟨rfl, h1⟩; have H1 : Hid (RIn w.heap.size w n a m c A w1) := HS.out.later h1; have c0 := H1.out.c0; have c1 := H1.out.c1; clear h1)
    | (go_at_call 17; have := H4; refine (copied_any n a m c A _ H4.out.arcs HC.out (by omega)).mono ?_; rintro e w5 ⟨v, rfl, h2, h3⟩; obtain ⟨a5, c5, rfl, h4⟩ := own_arcs h2 HLEN.out; have H5 : Hid (RIn w.heap.size w n a m c A w5 ∧ ArcsAt w5 a5 m A) := ⟨H4.out.later h3, h4⟩; clear h2 h3 h4)
    | (go_at_call 17; refine (copied_any n a m c A _ H1.out.arcs HC.out (by omega)).mono ?_; rintro e w2 ⟨v, rfl, h2, h3⟩; obtain ⟨a2, c2, rfl, h4⟩ := own_arcs h2 HLEN.out; have H2 : Hid (RIn w.heap.size w n a m c A w2 ∧ ArcsAt w2 a2 m A) := ⟨H1.out.later h3, h4⟩; clear h2 h3 h4)
    | (go_at_call 16; refine (HCK.out a2 c2 _ H2.out.2).mono ?_; rintro e w3 ⟨rfl, h3⟩; have H3 : Hid (RIn w.heap.size w n a m c A w3) := H2.out.1.later h3; have c0 := H3.out.c0; have c1 := H3.out.c1; clear h3)
    | (go_at_call 18; refine (HRK.out a c _ H3.out.arcs).mono ?_; rintro e w4 ⟨rfl, h4⟩; have H4 : Hid (RIn w.heap.size w n a m c A w4) := H3.out.later h4; have c0 := H4.out.c0; have c1 := H4.out.c1; clear h4)
    | (go_at_call 20; refine (metric_any d _).mono ?_; rintro e w6 ⟨rfl, rfl⟩)
    | (go_at_call 19; refine (new_good n a5 m c5 A (mtF d) (mtM d) _ H5.out.2 HE.out (mt_any d A) (mt_enters d)).mono ?_; rintro e w7 ⟨g1, rfl, h4, h5, _⟩; have H7 : Hid (RIn w.heap.size w n a m c A w7 ∧ GAt w7 g1 n (tab (legsM (mtM d) A))) := ⟨H5.out.1.later h5, h4⟩; have c0 := H7.out.1.c0; have c1 := H7.out.1.c1; clear h4 h5)
    | (go_at_call 22; refine (table_any n HN.out a m c A d _ H7.out.1.arcs (by omega) HP.out (fun x hx => (HM.out x hx).1)).mono ?_; rintro e w8 ⟨v8, rfl, h4, h5⟩; have H8 : Hid (RIn w.heap.size w n a m c A w8 ∧ GAt w8 g1 n (tab (legsM (mtM d) A)) ∧ IRow w8 w7.heap.size v8 (cellsM n (tab (legsM (mtM d) A)))) := ⟨H7.out.1.later h5, H7.out.2.later h5, h4⟩; clear h4 h5)
    | (go_at_call 21; refine (sameG_any H8.out.2.1 HN.out HW.out H8.out.2.2).mono ?_; rintro e w9 ⟨rfl, h5⟩; have H9 : Hid (RIn w.heap.size w n a m c A w9 ∧ GAt w9 g1 n (tab (legsM (mtM d) A))) := ⟨H8.out.1.later h5, H8.out.2.1.later h5⟩; clear h5)
    | (go_at_call 23; have := H10; refine (out_none H10.out.2 HN.out n (rowZ_far _ _)).mono ?_; rintro e w11 ⟨a11, c11, rfl, h5⟩; have H11 : Hid (RIn w.heap.size w n a m c A w11 ∧ GAt w11 g1 n (tab (legsM (mtM d) A))) := ⟨H10.out.1.later h5, H10.out.2.later h5⟩; have c0 := H11.out.1.c0; clear h5)
    | (go_at_call 23; refine (out_none H9.out.2 HN.out (-1) (rowZ_low _ _)).mono ?_; rintro e w10 ⟨a10, c10, rfl, h5⟩; have H10 : Hid (RIn w.heap.size w n a m c A w10 ∧ GAt w10 g1 n (tab (legsM (mtM d) A))) := ⟨H9.out.1.later h5, H9.out.2.later h5⟩; have c0 := H10.out.1.c0; clear h5)
    | (go_at_call 24; refine (weight_any H11.out.2 HN.out 0 n).mono ?_; rw [wt_far]; rintro e w12 ⟨rfl, h5⟩; have H12 : Hid (RIn w.heap.size w n a m c A w12) := H11.out.1.later h5; clear h5))
  go_ret
  exact ⟨rfl, H12.out.below⟩
set_option maxRecDepth 100000 in
set_option maxHeartbeats 6400000 in
theorem graphs_bad (n : Int) (a : Option Addr) (m c : Nat) (A : List Arc) (d : Bool) (w : World) (h : ArcsAt w a m A) (hc : a = none → c = 0) (hm : m ≤ 300) (he : (checkM n A).2 ≠ 0) :
    Calls Try.prog 3 #[.agg #[.int .i64 n, .slice a m c], .bool d] w fun e w' => e = .returned (.bool true) ∧ Below w.heap.size w w' := by
  have HC := hide hc
  have HS := hide (rin_start w n a m c A h)
  have hm2 : ¬ (300 : Int) < (m : Int) := by omega
  have HCK := hide (fun (a' : Option Addr) (c' : Nat) (w' : World) (h' : ArcsAt w' a' m A) => check_any n a' m c' A w' h')
  have HRK := hide (fun (a' : Option Addr) (c' : Nat) (w' : World) (h' : ArcsAt w' a' m A) => rcheck_any n a' m c' A w' h')
  have HNB := hide (fun (mv : Value) (a' : Option Addr) (c' : Nat) (w' : World) (h' : ArcsAt w' a' m A) => new_bad n a' m c' A mv w' h' he)
  generalize checkM n A = ck at HCK HRK HNB he
  obtain ⟨ci, ce⟩ := ck
  simp only at HCK HRK HNB he
  have hq : (ci != ci) = false := by simp
  have hq2 : (ce != ce) = false := by simp
  have hq3 : (ce != 0) = true := by simp [he]
  have HLEN := hide h.len
  replace he := hide he
  clear h hc
  go_enter Try.func3, Try.ntmps3
  go_wp2_with (first
    | (go_at_call 15; refine (awake_any _).mono ?_; rintro e w1 ⟨rfl, h1⟩; have H1 : Hid (RIn w.heap.size w n a m c A w1) := HS.out.later h1; have c0 := H1.out.c0; have c1 := H1.out.c1; clear h1)
    | (go_at_call 17; have := H4; refine (copied_any n a m c A _ H4.out.arcs HC.out (by omega)).mono ?_; rintro e w5 ⟨v, rfl, h2, h3⟩; obtain ⟨a5, c5, rfl, h4⟩ := own_arcs h2 HLEN.out; have H5 : Hid (RIn w.heap.size w n a m c A w5 ∧ ArcsAt w5 a5 m A) := ⟨H4.out.later h3, h4⟩; clear h2 h3 h4)
    | (go_at_call 17; refine (copied_any n a m c A _ H1.out.arcs HC.out (by omega)).mono ?_; rintro e w2 ⟨v, rfl, h2, h3⟩; obtain ⟨a2, c2, rfl, h4⟩ := own_arcs h2 HLEN.out; have H2 : Hid (RIn w.heap.size w n a m c A w2 ∧ ArcsAt w2 a2 m A) := ⟨H1.out.later h3, h4⟩; clear h2 h3 h4)
    | (go_at_call 16; refine (HCK.out a2 c2 _ H2.out.2).mono ?_; rintro e w3 ⟨rfl, h3⟩; have H3 : Hid (RIn w.heap.size w n a m c A w3) := H2.out.1.later h3; have c0 := H3.out.c0; have c1 := H3.out.c1; clear h3)
    | (go_at_call 18; refine (HRK.out a c _ H3.out.arcs).mono ?_; rintro e w4 ⟨rfl, h4⟩; have H4 : Hid (RIn w.heap.size w n a m c A w4) := H3.out.later h4; have c0 := H4.out.c0; have c1 := H4.out.c1; clear h4)
    | (go_at_call 20; refine (metric_any d _).mono ?_; rintro e w6 ⟨rfl, rfl⟩)
    | (go_at_call 19; refine (HNB.out _ a5 c5 _ H5.out.2).mono ?_; rintro e w7 ⟨rfl, h5⟩; have H7 : Hid (RIn w.heap.size w n a m c A w7) := H5.out.1.later h5; clear h5))
  go_ret
  exact ⟨rfl, H7.out.below⟩
set_option maxRecDepth 100000 in
set_option maxHeartbeats 1600000 in
theorem graphs_many (n : Int) (a : Option Addr) (m c : Nat) (A : List Arc) (d : Bool) (w : World) (h : ArcsAt w a m A) (hm : 300 < m) :
    Calls Try.prog 3 #[.agg #[.int .i64 n, .slice a m c], .bool d] w fun e w' => e = .returned (.bool true) ∧ Below w.heap.size w w' := by
  have HS := hide (rin_start w n a m c A h)
  have hm2 : (300 : Int) < (m : Int) := by omega
  have hm3 := h.max
  clear h
  go_enter Try.func3, Try.ntmps3
  go_wp2_with (go_at_call 15; refine (awake_any _).mono ?_; rintro e w1 ⟨rfl, h1⟩; have H1 : Hid (RIn w.heap.size w n a m c A w1) := HS.out.later h1; have c0 := H1.out.c0; have c1 := H1.out.c1; clear h1)
  go_ret
  exact ⟨rfl, H1.out.below⟩
theorem graphs_any (n : Int) (a : Option Addr) (m c : Nat) (A : List Arc) (d : Bool) (w : World) (h : ArcsAt w a m A) (hc : a = none → c = 0) :
    Calls Try.prog 3 #[.agg #[.int .i64 n, .slice a m c], .bool d] w fun e w' => e = .returned (.bool true) ∧ Below w.heap.size w w' := by
  by_cases hm : 300 < m
  · exact graphs_many n a m c A d w h hm
  · by_cases he : (checkM n A).2 = 0
    · obtain ⟨hn, _⟩ := checkM_ok he
      obtain ⟨k, rfl⟩ : ∃ k : Nat, n = (k : Int) := ⟨n.toNat, by omega⟩
      exact graphs_good k a m c A d w h hc (by omega) he
    · exact graphs_bad n a m c A d w h hc (by omega) he
end Go.Proofs.Ytkgpjhechopfhaa
