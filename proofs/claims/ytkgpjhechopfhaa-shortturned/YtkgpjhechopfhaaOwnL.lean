/-
  What the law RoadOwn does.
-/
import Derived.Test.YtkgpjhechopfhaaMetrics
import Derived.Test.YtkgpjhechopfhaaTurn
namespace Go.Proofs.Ytkgpjhechopfhaa
open Go.RowKit Go.Sort

theorem leaving_nil (p : Int) (w : World) : Calls Try.prog 44 #[.pointer none, .int .i64 p] w fun e w' => e = .returned (.slice none 0 0) ∧ Below w.heap.size w w' := by
  have HP := hide (places_nil w)
  have HB : Hid (Below w.heap.size w ((w.alloc (.cells #[.int .i64 0] 3)).alloc (.cells #[.int .i64 (-1)] 3))) := below_two (Below.refl _ _) (Nat.le_refl _) _ _
  have HL := hide (leave_two w p (-1) false (decide_eq_false (by omega)))
  go_enter Try.func44, Try.ntmps44
  go_wp2_with (first | (go_at_call 26; refine HP.out.mono ?_; rintro e w' ⟨rfl, rfl⟩) | (go_at_call 39; refine (within_any _ _ _).mono ?_; rintro e w' ⟨rfl, rfl⟩) | (go_at_call 52; refine HL.out.mono ?_; rintro e w' ⟨rfl, rfl⟩))
  go_ret
  exact ⟨rfl, HB.out⟩
theorem clone_none (w : World) : Calls Try.prog 43 #[.slice none 0 0] w fun e w' => e = .returned (.slice none 0 0) ∧ w' = w := by
  have hq := fun w => Lib.run_eql_slice_nil (P := Try.prog) w 43 53 none 0 0 0 0 Try.underlying43
  go_enter Try.func43, Try.ntmps43
  go_wp2
  go_ret
  exact ⟨rfl, rfl⟩
theorem out_nil (p : Int) (w : World) : Calls Try.prog 23 #[.pointer none, .int .i64 p] w fun e w' => e = .returned (.slice none 0 0) ∧ Below w.heap.size w w' := by
  have HL := hide (leaving_nil p w)
  go_enter Try.func23, Try.ntmps23
  go_wp2_with (first | (go_at_call 44; refine HL.out.mono ?_; rintro e w1 ⟨rfl, h1⟩; have H1 := hide h1; clear h1) | (go_at_call 43; refine (clone_none _).mono ?_; rintro e w2 ⟨rfl, rfl⟩))
  go_ret
  exact ⟨rfl, H1.out⟩
theorem weight_nil (p q : Int) (w : World) : Calls Try.prog 24 #[.pointer none, .int .i64 p, .int .i64 q] w fun e w' => e = .returned (.int .i64 (-1)) ∧ Below w.heap.size w w' := by
  have HL := hide (leaving_nil p w)
  go_enter Try.func24, Try.ntmps24
  go_wp2_with (go_at_call 44; refine HL.out.mono ?_; rintro e w1 ⟨rfl, h1⟩; have H1 := hide h1; clear h1)
  go_loopw [13] (fun vi wr => vi = .int .i64 0 ∧ wr = w1) (fun _ _ => 0)
  case atStart => exact ⟨rfl, rfl⟩
  case round =>
    obtain ⟨rfl, rfl⟩ := hrel
    go_wp2
    go_ret
    exact ⟨rfl, H1.out⟩
theorem flatA_set4 : ∀ (A : List Arc) (k : Nat) (x : Arc), k < A.length → ((((flatA A).set (k * 4) (.int .i64 x.1)).set (k * 4 + 1) (.int .i64 x.2.1)).set (k * 4 + 2) (.int .i64 x.2.2.1)).set (k * 4 + 3) (.int .i64 x.2.2.2) = flatA (A.set k x)
  | [], _, _, h => by simp at h
  | y :: r, 0, x, _ => by simp [flatA, encA]
  | y :: r, k + 1, x, h => by
    have := flatA_set4 r k x (by simpa using h)
    rw [show flatA (y :: r) = encA y ++ flatA r from rfl, show (k + 1) * 4 = k * 4 + 4 by omega, show k * 4 + 4 + 1 = (k * 4 + 1) + 4 by omega, show k * 4 + 4 + 2 = (k * 4 + 2) + 4 by omega, show k * 4 + 4 + 3 = (k * 4 + 3) + 4 by omega, List.set_cons_succ, show flatA (y :: r.set k x) = encA y ++ flatA (r.set k x) from rfl, ← this]
    simp [encA]
theorem own_set53 {w : World} {base g m cap j : Nat} {xs : List Value} (h : w.ownsRow base 53 2 (.slice (some ⟨g, 0, none⟩) m cap) m xs) (u : Value) : (w.setCell ⟨g, j, none⟩ u).ownsRow base 53 2 (.slice (some ⟨g, 0, none⟩) m cap) m (xs.set j u) := by
  obtain ⟨h1, h2⟩ := h
  refine ⟨by simpa using h1, ?_⟩
  rcases h2 with ⟨h2, _⟩ | ⟨g2, cap2, cur, e, a, hb, r1, r2, r3, r4⟩
  · cases h2
  · cases e
    refine .inr ⟨g, cap, cur.setIfInBounds j u, rfl, a, heap_setCell_same w g j _ _ u hb, r1, r2, by simpa using r3, ?_⟩
    rw [← r4, Array.toList_setIfInBounds, List.take_set]
/-- A store into a block that is none of a graph's. -/
theorem GAt.put {w : World} {g n b j t : Nat} {W : Nat → Nat → Option Int} {cur : Array Value} {fr : Nat × Nat} (h : GAt w g n W) (hb : w.heap[b]? = some (.cells cur t fr)) (h1 : t ≠ 43) (h2 : t ≠ 53) (h3 : t ≠ 82) (u : Value) : GAt (w.setCell ⟨b, j, none⟩ u) g n W := by
  obtain ⟨O, vs, hg, hO⟩ := h
  have hbg : g ≠ b := fun e => by subst e; rw [hg] at hb; simp at hb; exact h3 hb.2.1.symm
  have hbO : O ≠ b := fun e => by have := hO.blk; subst e; rw [this] at hb; simp at hb; exact h1 hb.2.1.symm
  refine ⟨O, vs, by rw [heap_setCell_other _ _ _ _ hbg]; exact hg, hO.len, by rw [heap_setCell_other _ _ _ _ hbO]; exact hO.blk, fun p hp => own_of_block (hO.row p hp) (fun k hk => ?_), hO.dis⟩
  obtain ⟨c2, hc2⟩ := own_tag (hO.row p hp) hk
  have : k ≠ b := fun e => by subst e; rw [hc2] at hb; simp at hb; exact h2 hb.2.1.symm
  rw [heap_setCell_other _ _ _ _ this]
def nines (A : List Arc) (k : Nat) : List Arc := List.replicate k (0, 0, 99, 0) ++ A.drop k
theorem nines_at (A : List Arc) (k : Nat) (hk : k < A.length) : (nines A k)[k]! = A[k]! ∧ (nines A k).length = A.length := by
  have hl : (nines A k).length = A.length := by unfold nines; simp; omega
  refine ⟨?_, hl⟩
  rw [getElem!_pos _ k (by omega), getElem!_pos A k hk]
  unfold nines
  rw [List.getElem_append_right (by simp)]
  simp
theorem nines_step (A : List Arc) (k : Nat) (hk : k < A.length) : (nines A k).set k (0, 0, 99, 0) = nines A (k + 1) := by
  unfold nines
  rw [List.replicate_succ', List.set_append_right _ _ (by simp), List.drop_eq_getElem_cons hk, List.append_assoc]
  congr 1
  rw [show k - (List.replicate k ((0, 0, 99, 0) : Arc)).length = 0 by simp]
  rfl
/-- While the law runs: w3's things below, in's box at Ib, its arcs, and the graph. -/
structure OIn (w3 : World) (Ib : Nat) (n : Nat) (v : Value) (L : List Arc) (g : Nat) (W : Nat → Nat → Option Int) (wr : World) : Prop where
  below : Below w3.heap.size w3 wr
  hM : w3.heap.size ≤ Ib
  box : wr.heap[Ib]? = some (.cells #[.int .i64 n, v] 24 (0, 0))
  row : ARow wr w3.heap.size v L
  gr : GAt wr g n W
section
variable {w3 wr w' : World} {Ib n g : Nat} {v : Value} {L : List Arc} {W : Nat → Nat → Option Int}
theorem OIn.c (h : OIn w3 Ib n v L g W wr) : wr.cell? ⟨Ib, 1, none⟩ = some v := by rw [cell_of_row _ Ib 1 _ _ _ h.box]; rfl
theorem OIn.lt (h : OIn w3 Ib n v L g W wr) : Ib < wr.heap.size := by
  rcases Nat.lt_or_ge Ib wr.heap.size with h' | h'
  · exact h'
  · have := h.box; rw [Array.getElem?_eq_none h'] at this; cases this
theorem OIn.later (h : OIn w3 Ib n v L g W wr) (f : Below wr.heap.size wr w') : OIn w3 Ib n v L g W w' :=
  ⟨h.below.trans (f.mono h.below.size), h.hM, (f.block _ h.lt).trans h.box, h.row.later (Nat.le_refl _) f, h.gr.later f⟩
theorem OIn.drewN (h : OIn w3 Ib n v L g W wr) (q : Nat) : OIn w3 Ib n v L g W (wr.drewN q) := h.later (Qu.below_drewN (Below.refl _ _) q)
theorem OIn.put1 {gb m cap : Nat} {xs : List Value} (hb : Below w3.heap.size w3 wr) (hbox : wr.heap[Ib]? = some (.cells #[.int .i64 n, .slice (some ⟨gb, 0, none⟩) m cap] 24 (0, 0))) (hr : wr.ownsRow w3.heap.size 48 4 (.slice (some ⟨gb, 0, none⟩) m cap) m xs) (hg : GAt wr g n W) (j : Nat) (u : Value) :
    Below w3.heap.size w3 (wr.setCell ⟨gb, j, none⟩ u) ∧ (wr.setCell ⟨gb, j, none⟩ u).heap[Ib]? = some (.cells #[.int .i64 n, .slice (some ⟨gb, 0, none⟩) m cap] 24 (0, 0)) ∧ (wr.setCell ⟨gb, j, none⟩ u).ownsRow w3.heap.size 48 4 (.slice (some ⟨gb, 0, none⟩) m cap) m (xs.set j u) ∧ GAt (wr.setCell ⟨gb, j, none⟩ u) g n W := by
  have h1 := (hr.lt gb rfl).1
  obtain ⟨cur, hc⟩ := own_tag hr rfl
  have hne : Ib ≠ gb := fun e => by rw [← e, hbox] at hc; simp at hc
  exact ⟨hb.setCell h1 _, by rw [heap_setCell_other _ _ _ _ hne]; exact hbox, own_setA hr u, hg.put hc (by decide) (by decide) (by decide) u⟩
theorem OIn.put {gb m cap : Nat} (h : OIn w3 Ib n (.slice (some ⟨gb, 0, none⟩) m cap) L g W wr) (hm : L.length = m) (k : Nat) (hk : k < m) (x : Arc) :
    OIn w3 Ib n (.slice (some ⟨gb, 0, none⟩) m cap) (L.set k x) g W ((((wr.setCell ⟨gb, k * 4, none⟩ (.int .i64 x.1)).setCell ⟨gb, k * 4 + 1, none⟩ (.int .i64 x.2.1)).setCell ⟨gb, k * 4 + 2, none⟩ (.int .i64 x.2.2.1)).setCell ⟨gb, k * 4 + 3, none⟩ (.int .i64 x.2.2.2)) := by
  have hr := h.row
  unfold ARow at hr
  rw [hm] at hr
  obtain ⟨a1, a2, a3, a4⟩ := OIn.put1 h.below h.box hr h.gr (k * 4) (.int .i64 x.1)
  obtain ⟨b1, b2, b3, b4⟩ := OIn.put1 a1 a2 a3 a4 (k * 4 + 1) (.int .i64 x.2.1)
  obtain ⟨c1, c2, c3, c4⟩ := OIn.put1 b1 b2 b3 b4 (k * 4 + 2) (.int .i64 x.2.2.1)
  obtain ⟨d1, d2, d3, d4⟩ := OIn.put1 c1 c2 c3 c4 (k * 4 + 3) (.int .i64 x.2.2.2)
  refine ⟨d1, h.hM, d2, ?_, d4⟩
  unfold ARow
  rw [← flatA_set4 L k x (by omega), List.length_set, hm]
  exact d3
end
set_option maxRecDepth 100000 in
set_option maxHeartbeats 6400000 in
theorem own_good (n : Nat) (a : Option Addr) (m c : Nat) (A : List Arc) (w : World) (h : ArcsAt w a m A) (hc : a = none → c = 0) (hm : m ≤ 300) (he : (checkM n A).2 = 0) :
    Calls Try.prog 5 #[.agg #[.int .i64 n, .slice a m c]] w fun e w' => e = .returned (.bool true) ∧ Below w.heap.size w w' := by
  obtain ⟨hn0, hl, hok⟩ := checkM_ok he
  have hn : 1 ≤ n ∧ n ≤ 32 := by omega
  have HN := hide hn
  have HC := hide hc
  have HE := hide he
  have HP : Hid (∀ x ∈ A, placeOk (n : Int) x = true) := fun x hx => (hok x hx).1
  have HM := hide (mt_pos he false)
  have HW : Hid (∀ p q x, p < n → q < n → tab (legsM timeM A) p q = some x → 0 ≤ x) := fun p q x _ _ hx => (tab_pos HM.out p q x hx).1
  have HS := hide (rin_start w n a m c A h)
  have hm2 : ¬ (300 : Int) < (m : Int) := by omega
  have HLEN := hide h.len
  clear h hc he hn0 hok
  go_enter Try.func5, Try.ntmps5
  go_wp2_with (first
    | (go_at_call 15; refine (awake_any _).mono ?_; rintro e w1 ⟨rfl, h1⟩; have H1 : Hid (RIn w.heap.size w n a m c A w1) := HS.out.later h1; clear h1)
    | (go_at_call 26; refine (places_nil _).mono ?_; rintro e w' ⟨rfl, rfl⟩)
    | (go_at_call 27; refine (len_nil _).mono ?_; rintro e w' ⟨rfl, rfl⟩)
    | (go_at_call 23; refine (out_nil _ _).mono ?_; rintro e w2 ⟨rfl, h1⟩; have H2 : Hid (RIn w.heap.size w n a m c A w2) := H1.out.later h1; clear h1)
    | (go_at_call 24; refine (weight_nil _ _ _).mono ?_; rintro e w3 ⟨rfl, h1⟩; have H3 : Hid (RIn w.heap.size w n a m c A w3) := H2.out.later h1; have c0 := H3.out.c0; have c1 := H3.out.c1; clear h1)
    | (go_at_call 28; refine (turned_nil _).mono ?_; rintro e w4 ⟨rfl, rfl⟩)
    | (go_at_call 17; refine (copied_any n a m c A _ H3.out.arcs HC.out (by omega)).mono ?_; rintro e w5 ⟨v, rfl, h2, h3⟩; obtain ⟨va, vc, rfl, h4⟩ := own_arcs h2 HLEN.out; have H5 : Hid (Below w4.heap.size w4 w5 ∧ ARow w5 w4.heap.size (.slice va m vc) A ∧ ArcsAt w5 va m A) := ⟨h3, by unfold ARow; rw [HLEN.out]; exact h2, h4⟩; clear h2 h3 h4)
    | (go_at_call 19; refine (new_good n va m vc A 29 timeM _ (H5.out.2.2.later (Nat.le_refl _) ((Below.refl _ _).alloc (Nat.le_refl _) _)) HE.out (time_any A) enters22).mono ?_; rintro e w7 ⟨g1, rfl, h4, h5, _⟩; have cI : w7.cell? ⟨w5.heap.size, 1, none⟩ = some (.slice va m vc) := (h5.cell (p := ⟨w5.heap.size, 1, none⟩) (by simp)).trans (by rw [cell_of_row _ _ 1 _ _ _ (heap_alloc_new _ _)]; rfl); have H7 := hide (And.intro h4 h5); clear h4 h5))
  have HO : Hid (OIn w4 w5.heap.size n (.slice va m vc) (nines A 0) g1 (tab (legsM timeM A)) w7) := by
    have hz : w5.heap.size < (w5.alloc (.cells #[.int .i64 n, .slice va m vc] 24)).heap.size := by simp
    refine ⟨(H5.out.1.alloc H5.out.1.size _).trans (H7.out.2.mono (by have := H5.out.1.size; omega)), H5.out.1.size, (H7.out.2.block _ hz).trans (heap_alloc_new _ _), ?_, H7.out.1⟩
    have e : nines A 0 = A := by simp [nines]
    rw [e]
    exact (H5.out.2.1.later (Nat.le_refl _) ((Below.refl _ _).alloc (Nat.le_refl _) _)).later (Nat.le_refl _) H7.out.2
  have HRI := hide H3.out
  clear H5 H7 c0 c1 H1 H2 H3
  go_loopw [53] (fun vi wr => ∃ k : Nat, vi = .int .i64 k ∧ k ≤ m ∧ Hid (OIn w4 w5.heap.size n (.slice va m vc) (nines A k) g1 (tab (legsM timeM A)) wr)) (fun vi _ => m - (intOf vi).toNat)
  case atStart => exact ⟨0, rfl, Nat.zero_le _, HO.out⟩
  case round =>
    clear HO cI
    obtain ⟨k, rfl, hk, HR⟩ := hrel
    have cI := HR.out.c
    by_cases hlt : k < m
    · have i1 : (k : Int) < (m : Int) := by omega
      have hkA : k < A.length := by rw [HLEN.out]; exact hlt
      obtain ⟨hat, hle⟩ := nines_at A k hkA
      have HST := hide (nines_step A k hkA)
      have hrow := HR.out.row
      obtain ⟨gb, cap, hv, _, hg, _, _⟩ := hrow.form (by rw [hle]; omega)
      rw [hle, HLEN.out] at hv
      cases hv
      have e0 := hrow.cell k 0 (by omega) (by omega)
      have e1 := hrow.cell k 1 (by omega) (by omega)
      have e2 := hrow.cell k 2 (by omega) (by omega)
      have e3 := hrow.cell k 3 (by omega) (by omega)
      have f0 := hrow.frozen (k * 4)
      have f1 := hrow.frozen (k * 4 + 1)
      have f2 := hrow.frozen (k * 4 + 2)
      have f3 := hrow.frozen (k * 4 + 3)
      rw [HLEN.out] at hle
      have HPT := hide (fun q => (HR.out.drewN q).put hle k hlt (0, 0, 99, 0))
      have hRI := HRI.out.later HR.out.below
      have cr := hRI.c1
      obtain ⟨b, off, hab, d0, d1, d2, d3⟩ := hRI.arcs.cell k hlt
      subst hab
      rw [hat] at e0 e1 e2 e3
      obtain ⟨x, hx⟩ : ∃ x, A[k]! = x := ⟨_, rfl⟩
      rw [hx] at e0 e1 e2 e3 d0 d1 d2 d3
      obtain ⟨x1, x2, x3, x4⟩ := x
      have e0' : wr.cell? ⟨gb, k * 4, none⟩ = some (.int .i64 x1) := e0
      have e1' : wr.cell? ⟨gb, k * 4 + 1, none⟩ = some (.int .i64 x2) := e1
      have e2' : wr.cell? ⟨gb, k * 4 + 2, none⟩ = some (.int .i64 x3) := e2
      have e3' : wr.cell? ⟨gb, k * 4 + 3, none⟩ = some (.int .i64 x4) := e3
      simp only at d0 d1 d2 d3
      have n1 : (x1 != x1) = false := by simp
      have n2 : (x2 != x2) = false := by simp
      have n3 : (x3 != x3) = false := by simp
      have n4 : (x4 != x4) = false := by simp
      clear e0 e1 e2 e3 hrow hat hle hx HR hkA hRI
      go_wp2
      go_quiet (fail)
      go_wp2
      go_roundw
      case rel => exact ⟨k + 1, by go_num, by omega, by show OIn _ _ _ _ _ _ _ _; rw [← HST.out]; exact HPT.out nq⟩
      case measure => simp [intOf]; omega
    · have hkm : k = m := by omega
      subst hkm
      have HQ : Hid (RIn w.heap.size w n a k c A wr ∧ GAt wr g1 n (tab (legsM timeM A))) := ⟨HRI.out.later HR.out.below, HR.out.gr⟩
      clear HR cI HRI
      go_wp2
      go_loopw [8] (fun vi wr => ∃ p : Nat, vi = .int .i64 p ∧ p ≤ n ∧ Hid (RIn w.heap.size w n a k c A wr ∧ GAt wr g1 n (tab (legsM timeM A)))) (fun vi _ => n - (intOf vi).toNat)
      case atStart => exact ⟨0, rfl, Nat.zero_le _, HQ.out⟩
      case round =>
        clear HQ
        obtain ⟨p, rfl, hp, HR⟩ := hrel
        have HPL := hide (places_any HR.out.2)
        by_cases hpn : p < n
        · have i1 : (p : Int) < (n : Int) := by omega
          generalize hwo : wr = wo at *
          clear hwo
          have HOU := hide (out_any HR.out.2 HN.out p)
          have hRl := rowZ_len n (tab (legsM timeM A)) p
          generalize rowZ n (tab (legsM timeM A)) p = R at HOU hRl
          go_wp2_with (first | (go_at_call 26; refine HPL.out.mono ?_; rintro e w' ⟨rfl, hw⟩; rw [hw]; clear hw) | (go_at_call 23; refine HOU.out.mono ?_; rintro e w2 ⟨v2, rfl, h2, h3⟩; obtain ⟨ra, rc, rfl⟩ : ∃ a c, v2 = .slice a R.length c := (by rcases h2.2 with ⟨e, e2⟩ | ⟨g, cap, cur, e, _⟩; exact ⟨none, 0, by rw [e, e2]⟩; exact ⟨_, cap, e⟩); have H2 := hide (And.intro h2 h3); clear h2 h3))
          go_loopw [84] (fun vi wr => ∃ j : Nat, vi = .int .i64 j ∧ j ≤ R.length ∧ Hid (∃ xs, wr.ownsRow wo.heap.size 53 2 (.slice ra R.length rc) R.length xs ∧ Below wo.heap.size wo wr)) (fun vi _ => R.length - (intOf vi).toNat)
          case atStart => exact ⟨0, rfl, Nat.zero_le _, _, H2.out⟩
          case round =>
            obtain ⟨j, rfl, hj, HJ⟩ := hrel
            obtain ⟨xs, hx1, hx2⟩ := HJ.out
            have hxl := hx1.1
            by_cases hjl : j < R.length
            · rcases hx1.2 with ⟨_, e2⟩ | ⟨gb, cap0, cur0, e0, _⟩
              · omega
              · cases e0
                have i2 : (j : Int) < (R.length : Int) := by omega
                obtain ⟨u0, hu0⟩ : ∃ u, xs[j * 2]? = some u := ⟨_, List.getElem?_eq_getElem (by omega)⟩
                obtain ⟨u1, hu1⟩ : ∃ u, xs[j * 2 + 1]? = some u := ⟨_, List.getElem?_eq_getElem (by omega)⟩
                have q0 : wr.cell? ⟨gb, j * 2, none⟩ = some u0 := by rw [hx1.cellAt _ (by omega)]; exact hu0
                have q1 : wr.cell? ⟨gb, j * 2 + 1, none⟩ = some u1 := by rw [hx1.cellAt _ (by omega)]; exact hu1
                obtain ⟨cur, hcur⟩ := own_tag hx1 rfl
                have f0 := frozen_of_row wr gb (j * 2) _ _ hcur
                have f1 := frozen_of_row wr gb (j * 2 + 1) _ _ hcur
                have hgb := (hx1.lt gb rfl).1
                have HE : Hid (∃ xs, ((wr.setCell ⟨gb, j * 2, none⟩ (.int .i64 (-7))).setCell ⟨gb, j * 2 + 1, none⟩ (.int .i64 (-7))).ownsRow wo.heap.size 53 2 (.slice (some ⟨gb, 0, none⟩) R.length rc) R.length xs ∧ Below wo.heap.size wo ((wr.setCell ⟨gb, j * 2, none⟩ (.int .i64 (-7))).setCell ⟨gb, j * 2 + 1, none⟩ (.int .i64 (-7)))) := ⟨_, own_set53 (own_set53 hx1 _) _, (hx2.setCell hgb _).setCell hgb _⟩
                clear hx1 hx2 HJ hcur hu0 hu1
                go_wp2
                go_roundw
                case rel => exact ⟨j + 1, by go_num, by omega, HE.out⟩
                case measure => simp [intOf]; omega
            · have hz := hx2.size
              have HOW : Hid ((wr.alloc (.cells #[.int .i64 (-8), .int .i64 0] 53)).ownsRow wo.heap.size 53 2 (.slice ra R.length rc) R.length xs) := hx1.alloc _
              have HNW : Hid (∀ j u, [Value.int .i64 (-8), Value.int .i64 0][j]? = some u → (wr.alloc (.cells #[.int .i64 (-8), .int .i64 0] 53)).cell? ((⟨wr.heap.size, 0, none⟩ : Addr).add j) = some u) := World.news_of_block (cs := #[.int .i64 (-8), .int .i64 0]) (t := 53) (fr := (0, 0)) (heap_alloc_new _ _)
              have HBA : Hid (Below wo.heap.size wo (wr.alloc (.cells #[.int .i64 (-8), .int .i64 0] 53))) := hx2.alloc hz _
              obtain ⟨i0, hi0, hy0, hy1, hy2⟩ := info_parts info53
              have HI := hide (And.intro hi0 (And.intro hy0 (And.intro hy1 hy2)))
              clear hx1 hx2 HJ hi0 hy0 hy1 hy2
              go_wp2_with (at_builtin; refine wpList_append_lies _ rfl (.tmp 92) (.tmp 94) 43 rfl wo.heap.size 53 i0 (.agg #[.int .i64 0, .int .i64 0]) 2 16 Try.underlying43 HI.out.1 HI.out.2.1 HI.out.2.2.1 HI.out.2.2.2 rfl (by decide) (.slice ra R.length rc) R.length xs rfl HOW.out ⟨wr.heap.size, 0, none⟩ 1 1 [.int .i64 (-8), .int .i64 0] rfl rfl HNW.out (by simp [Value.oneCell']) (by decide) (by unfold maxLen; omega) (by omega) (by simp; omega) (wr.heap.size + 1) (by simp) ?_)
              intro gg cap w3 hown1 hgrow hat hlt3
              have HB3 : Hid (Below wo.heap.size wo w3) := HBA.out.grown hgrow (by simp; omega) fun k hk => (HOW.out.lt k hk).1
              clear hown1 hgrow hat
              go_wp2
              go_roundw
              case rel => exact ⟨p + 1, by go_num, by omega, HR.out.1.later HB3.out, HR.out.2.later HB3.out⟩
              case measure => simp [intOf]; omega
        · have hpe : p = n := by omega
          have HT := hide (table_any n HN.out a k c A false wr HR.out.1.arcs (by omega) HP.out (fun x hx => (HM.out x hx).1))
          rw [show mtM false = timeM from rfl] at HT
          have c0 := HR.out.1.c0
          have c1 := HR.out.1.c1
          have i1 : ¬ (p : Int) < (n : Int) := by omega
          go_wp2_with (first
            | (go_at_call 26; refine HPL.out.mono ?_; rintro e w' ⟨rfl, hw⟩; rw [hw]; clear hw)
            | (go_at_call 22; refine HT.out.mono ?_; rintro e w9 ⟨v9, rfl, h4, h5⟩; have H9 : Hid (RIn w.heap.size w n a k c A w9 ∧ GAt w9 g1 n (tab (legsM timeM A)) ∧ IRow w9 wr.heap.size v9 (cellsM n (tab (legsM timeM A)))) := ⟨HR.out.1.later h5, HR.out.2.later h5, h4⟩; clear h4 h5)
            | (go_at_call 21; refine (sameG_any H9.out.2.1 HN.out HW.out H9.out.2.2).mono ?_; rintro e w10 ⟨rfl, h5⟩; have H10 : Hid (RIn w.heap.size w n a k c A w10) := H9.out.1.later h5; clear h5))
          go_ret
          exact ⟨rfl, H10.out.below⟩
set_option maxRecDepth 100000 in
set_option maxHeartbeats 3200000 in
theorem own_bad (n : Int) (a : Option Addr) (m c : Nat) (A : List Arc) (w : World) (h : ArcsAt w a m A) (hc : a = none → c = 0) (hm : m ≤ 300) (he : (checkM n A).2 ≠ 0) :
    Calls Try.prog 5 #[.agg #[.int .i64 n, .slice a m c]] w fun e w' => e = .returned (.bool true) ∧ Below w.heap.size w w' := by
  have HC := hide hc
  have HS := hide (rin_start w n a m c A h)
  have hm2 : ¬ (300 : Int) < (m : Int) := by omega
  have HNB := hide (fun (mv : Value) (a' : Option Addr) (c' : Nat) (w' : World) (h' : ArcsAt w' a' m A) => new_bad n a' m c' A mv w' h' he)
  generalize (checkM n A).2 = ce at HNB he
  have hq3 : (ce != 0) = true := by simp [he]
  have HLEN := hide h.len
  replace he := hide he
  clear h hc
  go_enter Try.func5, Try.ntmps5
  go_wp2_with (first
    | (go_at_call 15; refine (awake_any _).mono ?_; rintro e w1 ⟨rfl, h1⟩; have H1 : Hid (RIn w.heap.size w n a m c A w1) := HS.out.later h1; clear h1)
    | (go_at_call 26; refine (places_nil _).mono ?_; rintro e w' ⟨rfl, rfl⟩)
    | (go_at_call 27; refine (len_nil _).mono ?_; rintro e w' ⟨rfl, rfl⟩)
    | (go_at_call 23; refine (out_nil _ _).mono ?_; rintro e w2 ⟨rfl, h1⟩; have H2 : Hid (RIn w.heap.size w n a m c A w2) := H1.out.later h1; clear h1)
    | (go_at_call 24; refine (weight_nil _ _ _).mono ?_; rintro e w3 ⟨rfl, h1⟩; have H3 : Hid (RIn w.heap.size w n a m c A w3) := H2.out.later h1; have c0 := H3.out.c0; have c1 := H3.out.c1; clear h1)
    | (go_at_call 28; refine (turned_nil _).mono ?_; rintro e w4 ⟨rfl, rfl⟩)
    | (go_at_call 17; refine (copied_any n a m c A _ H3.out.arcs HC.out (by omega)).mono ?_; rintro e w5 ⟨v, rfl, h2, h3⟩; obtain ⟨va, vc, rfl, h4⟩ := own_arcs h2 HLEN.out; have H5 : Hid (RIn w.heap.size w n a m c A (w5.alloc (.cells #[.int .i64 n, .slice va m vc] 24)) ∧ ArcsAt (w5.alloc (.cells #[.int .i64 n, .slice va m vc] 24)) va m A) := ⟨(H3.out.later h3).later ((Below.refl _ _).alloc (Nat.le_refl _) _), h4.later (Nat.le_refl _) ((Below.refl _ _).alloc (Nat.le_refl _) _)⟩; clear h2 h3 h4)
    | (go_at_call 19; refine (HNB.out _ va vc _ H5.out.2).mono ?_; rintro e w7 ⟨rfl, h5⟩; have H7 : Hid (RIn w.heap.size w n a m c A w7) := H5.out.1.later h5; clear h5))
  go_ret
  exact ⟨rfl, H7.out.below⟩
set_option maxRecDepth 100000 in
set_option maxHeartbeats 1600000 in
theorem own_many (n : Int) (a : Option Addr) (m c : Nat) (A : List Arc) (w : World) (h : ArcsAt w a m A) (hm : 300 < m) :
    Calls Try.prog 5 #[.agg #[.int .i64 n, .slice a m c]] w fun e w' => e = .returned (.bool true) ∧ Below w.heap.size w w' := by
  have HS := hide (rin_start w n a m c A h)
  have hm2 : (300 : Int) < (m : Int) := by omega
  have hm3 := h.max
  clear h
  go_enter Try.func5, Try.ntmps5
  go_wp2_with (first
    | (go_at_call 15; refine (awake_any _).mono ?_; rintro e w1 ⟨rfl, h1⟩; have H1 : Hid (RIn w.heap.size w n a m c A w1) := HS.out.later h1; clear h1)
    | (go_at_call 26; refine (places_nil _).mono ?_; rintro e w' ⟨rfl, rfl⟩)
    | (go_at_call 27; refine (len_nil _).mono ?_; rintro e w' ⟨rfl, rfl⟩)
    | (go_at_call 23; refine (out_nil _ _).mono ?_; rintro e w2 ⟨rfl, h1⟩; have H2 : Hid (RIn w.heap.size w n a m c A w2) := H1.out.later h1; clear h1)
    | (go_at_call 24; refine (weight_nil _ _ _).mono ?_; rintro e w3 ⟨rfl, h1⟩; have H3 : Hid (RIn w.heap.size w n a m c A w3) := H2.out.later h1; have c0 := H3.out.c0; have c1 := H3.out.c1; clear h1)
    | (go_at_call 28; refine (turned_nil _).mono ?_; rintro e w4 ⟨rfl, rfl⟩))
  go_ret
  exact ⟨rfl, H3.out.below⟩
theorem own_any (n : Int) (a : Option Addr) (m c : Nat) (A : List Arc) (w : World) (h : ArcsAt w a m A) (hc : a = none → c = 0) :
    Calls Try.prog 5 #[.agg #[.int .i64 n, .slice a m c]] w fun e w' => e = .returned (.bool true) ∧ Below w.heap.size w w' := by
  by_cases hm : 300 < m
  · exact own_many n a m c A w h hm
  · by_cases he : (checkM n A).2 = 0
    · obtain ⟨hn, _⟩ := checkM_ok he
      obtain ⟨k, rfl⟩ : ∃ k : Nat, n = (k : Int) := ⟨n.toNat, by omega⟩
      exact own_good k a m c A w h hc (by omega) he
    · exact own_bad n a m c A w h hc (by omega) he
end Go.Proofs.Ytkgpjhechopfhaa
