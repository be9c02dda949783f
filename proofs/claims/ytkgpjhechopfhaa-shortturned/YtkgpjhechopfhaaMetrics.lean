/-
  What the law RoadMetrics does.
-/
import Derived.Test.YtkgpjhechopfhaaGraphs
namespace Go.Proofs.Ytkgpjhechopfhaa
open Go.RowKit Go.Sort

def mixM (x : Arc) : Int := 2 * x.2.2.1 + x.2.2.2
def mixA (x : Arc) : Arc := (x.1, x.2.1, 2 * x.2.2.1 + x.2.2.2, x.2.2.2)
theorem legs_mix (A : List Arc) : legsM timeM (A.map mixA) = legsM mixM A := by
  unfold legsM
  rw [List.filter_map, List.map_map]
  rfl
theorem mix_any (A : List Arc) (h : ∀ x ∈ A, numOk x = true) : Metric 25 mixM A := by
  rintro ⟨x1, x2, x3, x4⟩ hx w
  have hb := of_decide_eq_true (h _ hx)
  simp only at hb
  show Calls Try.prog 25 #[.agg #[.int .i64 x1, .int .i64 x2, .int .i64 x3, .int .i64 x4]] w fun e w' => e = .returned (.int .i64 (2 * x3 + x4)) ∧ w' = w.alloc (.cells #[.int .i64 x1, .int .i64 x2, .int .i64 x3, .int .i64 x4] 48)
  go_enter Try.func25, Try.ntmps25
  go_wp2
  go_ret
  exact ⟨rfl, rfl⟩
theorem enters25 (args : Array Value) (w : World) : (callFunc 25 args).run Try.prog w = .ok (.enter 25 args) w := enters_of Try.func25 (by kernel_rfl) rfl args w
/-- A row of arcs of the call's own. -/
def ARow (w : World) (base : Nat) (v : Value) (A : List Arc) : Prop := w.ownsRow base 48 4 v A.length (flatA A)
section
variable {w w' : World} {base g cap m : Nat} {v : Value} {A : List Arc}
theorem ARow.form (h : ARow w base v A) (hn : 0 < A.length) : ∃ g cap, v = .slice (some ⟨g, 0, none⟩) A.length cap ∧ base ≤ g ∧ g < w.heap.size ∧ A.length ≤ cap ∧ cap ≤ 9223372036854775807 := by
  rcases h.2 with ⟨_, h0⟩ | ⟨g, cap, cur, hv, hb, hg, h1, h2, _⟩
  · omega
  · exact ⟨g, cap, hv, hb, (h.lt g (by rw [hv]; rfl)).2, h1, by unfold maxLen at h2; omega⟩
theorem ARow.cell (h : ARow w base (.slice (some ⟨g, 0, none⟩) m cap) A) (k c : Nat) (hk : k < A.length) (hc : c < 4) : w.cell? ⟨g, k * 4 + c, none⟩ = some ((encA A[k]!)[c]!) := by
  have := World.ownsRow.cells (g := g) h rfl (k * 4 + c) _ (flatA_get A k c hk hc)
  rw [add0] at this
  exact this
theorem ARow.frozen (h : ARow w base (.slice (some ⟨g, 0, none⟩) m cap) A) (k : Nat) : w.frozen? ⟨g, k, none⟩ = false := by
  rcases h.2 with ⟨h2, _⟩ | ⟨g2, cap2, cur, e, _, hb, _⟩
  · cases h2
  · cases e; exact frozen_of_row w g k _ _ hb
theorem own_setA {j : Nat} {xs : List Value} (h : w.ownsRow base 48 4 (.slice (some ⟨g, 0, none⟩) m cap) m xs) (u : Value) : (w.setCell ⟨g, j, none⟩ u).ownsRow base 48 4 (.slice (some ⟨g, 0, none⟩) m cap) m (xs.set j u) := by
  obtain ⟨h1, h2⟩ := h
  refine ⟨by simpa using h1, ?_⟩
  rcases h2 with ⟨h2, _⟩ | ⟨g2, cap2, cur, e, a, hb, r1, r2, r3, r4⟩
  · cases h2
  · cases e
    refine .inr ⟨g, cap, cur.setIfInBounds j u, rfl, a, heap_setCell_same w g j _ _ u hb, r1, r2, by simpa using r3, ?_⟩
    rw [← r4, Array.toList_setIfInBounds, List.take_set]
theorem ARow.later {B : Nat} (h : ARow w base v A) (hB : w.heap.size ≤ B) (f : Below B w w') : ARow w' base v A := own_of_block h (fun k hk => f.block k (Nat.lt_of_lt_of_le (h.lt k hk).2 hB))
theorem ARow.arcs (h : ARow w base v A) : ∃ a c, v = .slice a A.length c ∧ ArcsAt w a A.length A := by
  obtain ⟨a, c, e, h1⟩ := own_arcs h rfl
  exact ⟨a, c, e, h1⟩
end
theorem flatA_set2 : ∀ (A : List Arc) (k : Nat) (x : Int), k < A.length → (flatA A).set (k * 4 + 2) (.int .i64 x) = flatA (A.set k ((A[k]!).1, (A[k]!).2.1, x, (A[k]!).2.2.2))
  | [], _, _, h => by simp at h
  | y :: r, 0, x, _ => by simp [flatA, encA]
  | y :: r, k + 1, x, h => by
    have := flatA_set2 r k x (by simpa using h)
    rw [show flatA (y :: r) = encA y ++ flatA r from rfl, show (k + 1) * 4 + 2 = (k * 4 + 2) + 4 by omega, List.set_cons_succ, show flatA (y :: r.set k _) = encA y ++ flatA (r.set k _) from rfl]
    have e : ((y :: r)[k + 1]!) = r[k]! := by simp
    rw [e, ← this]
    simp [encA]
theorem mix_step (A : List Arc) (k : Nat) (hk : k < A.length) : ((A.take k).map mixA ++ A.drop k).set k (mixA A[k]!) = (A.take (k + 1)).map mixA ++ A.drop (k + 1) := by
  rw [List.take_succ_eq_append_getElem hk, List.map_append, getElem!_pos A k hk, List.set_append_right _ _ (by simp; omega), List.drop_eq_getElem_cons hk, List.append_assoc]
  congr 1
  rw [show k - ((A.take k).map mixA).length = 0 by rw [List.length_map, List.length_take]; omega]
  rfl
theorem mix_at (A : List Arc) (k : Nat) (hk : k < A.length) : ((A.take k).map mixA ++ A.drop k)[k]! = A[k]! ∧ ((A.take k).map mixA ++ A.drop k).length = A.length := by
  have hl : ((A.take k).map mixA ++ A.drop k).length = A.length := by simp; omega
  refine ⟨?_, hl⟩
  rw [getElem!_pos _ k (by omega), getElem!_pos A k hk, List.getElem_append_right (by simp; omega)]
  simp [Nat.min_eq_left (Nat.le_of_lt hk)]
/-- While the law runs: the graph's world w7 below, mixed's box at Mb, its arcs. -/
structure MxIn (w7 : World) (Mb : Nat) (n : Int) (v : Value) (A : List Arc) (wr : World) : Prop where
  below : Below w7.heap.size w7 wr
  hM : w7.heap.size ≤ Mb
  box : wr.heap[Mb]? = some (.cells #[.int .i64 n, v] 24 (0, 0))
  row : ARow wr w7.heap.size v A
section
variable {w7 wr w' : World} {Mb : Nat} {n : Int} {v : Value} {A : List Arc}
theorem MxIn.c (h : MxIn w7 Mb n v A wr) : wr.cell? ⟨Mb, 1, none⟩ = some v := by rw [cell_of_row _ Mb 1 _ _ _ h.box]; rfl
theorem MxIn.c0 (h : MxIn w7 Mb n v A wr) : wr.cell? ⟨Mb, 0, none⟩ = some (.int .i64 n) := by rw [cell_of_row _ Mb 0 _ _ _ h.box]; rfl
theorem MxIn.drewN (h : MxIn w7 Mb n v A wr) (q : Nat) : MxIn w7 Mb n v A (wr.drewN q) := by
  have e : (wr.drewN q).heap = wr.heap := Qu.drewN_heap wr q
  exact ⟨Qu.below_drewN h.below q, h.hM, by rw [e]; exact h.box, h.row.later (Nat.le_refl _) (Qu.below_drewN (Below.refl _ _) q)⟩
theorem MxIn.put {g m cap : Nat} (h : MxIn w7 Mb n (.slice (some ⟨g, 0, none⟩) m cap) A wr) (hm : A.length = m) (k : Nat) (hk : k < m) (x : Int) : MxIn w7 Mb n (.slice (some ⟨g, 0, none⟩) m cap) (A.set k ((A[k]!).1, (A[k]!).2.1, x, (A[k]!).2.2.2)) (wr.setCell ⟨g, k * 4 + 2, none⟩ (.int .i64 x)) := by
  have hg := (h.row.lt g rfl).1
  have hne : Mb ≠ g := fun e => by
    obtain ⟨cur, hc⟩ := own_tag h.row rfl
    rw [← e, h.box] at hc
    simp at hc
  refine ⟨h.below.setCell hg _, h.hM, by rw [heap_setCell_other _ _ _ _ hne]; exact h.box, ?_⟩
  unfold ARow
  rw [← flatA_set2 A k x (by omega), List.length_set, hm]
  have := h.row
  unfold ARow at this
  rw [hm] at this
  exact own_setA this _
end
set_option maxRecDepth 100000 in
set_option maxHeartbeats 6400000 in
theorem metrics_good (n : Nat) (a : Option Addr) (m c : Nat) (A : List Arc) (w : World) (h : ArcsAt w a m A) (hc : a = none → c = 0) (hm : m ≤ 300) (he : (checkM n A).2 = 0) :
    Calls Try.prog 4 #[.agg #[.int .i64 n, .slice a m c]] w fun e w' => e = .returned (.bool true) ∧ Below w.heap.size w w' := by
  obtain ⟨hn0, hl, hok⟩ := checkM_ok he
  have hn : 1 ≤ n ∧ n ≤ 32 := by omega
  have HN := hide hn
  have HC := hide hc
  have HE := hide he
  have HP : Hid (∀ x ∈ A, placeOk (n : Int) x = true) := fun x hx => (hok x hx).1
  have HNU : Hid (∀ x ∈ A, numOk x = true) := fun x hx => (hok x hx).2
  have HW : Hid (∀ p q x, p < n → q < n → tab (legsM mixM A) p q = some x → 0 ≤ x) := fun p q x _ _ hx => (tab_pos (k := 3000000) (fun y hy => by have := of_decide_eq_true (HNU.out y hy); unfold mixM; omega) p q x hx).1
  have HS := hide (rin_start w n a m c A h)
  have hm2 : ¬ (300 : Int) < (m : Int) := by omega
  have HLEN := hide h.len
  clear h hc he hn0 hok
  go_enter Try.func4, Try.ntmps4
  go_wp2_with (first
    | (go_at_call 15; refine (awake_any _).mono ?_; rintro e w1 ⟨rfl, h1⟩; have H1 : Hid (RIn w.heap.size w n a m c A w1) := HS.out.later h1; have c0 := H1.out.c0; have c1 := H1.out.c1; clear h1)
    | (go_at_call 17; have := H7; refine (copied_any n a m c A _ H7.out.1.arcs HC.out (by omega)).mono ?_; rintro e w8 ⟨v8, rfl, h2, h3⟩; obtain ⟨va, vc, rfl, _⟩ := own_arcs h2 HLEN.out; have H8 : Hid (Below w7.heap.size w7 w8 ∧ ARow w8 w7.heap.size (.slice va m vc) A) := ⟨h3, by unfold ARow; rw [HLEN.out]; exact h2⟩; clear h2 h3)
    | (go_at_call 17; refine (copied_any n a m c A _ H1.out.arcs HC.out (by omega)).mono ?_; rintro e w2 ⟨v, rfl, h2, h3⟩; obtain ⟨a2, c2, rfl, h4⟩ := own_arcs h2 HLEN.out; have H2 : Hid (RIn w.heap.size w n a m c A w2 ∧ ArcsAt w2 a2 m A) := ⟨H1.out.later h3, h4⟩; clear h2 h3 h4)
    | (go_at_call 19; refine (new_good n a2 m c2 A 25 mixM _ H2.out.2 HE.out (mix_any A HNU.out) enters25).mono ?_; rintro e w7 ⟨g1, rfl, h4, h5, _⟩; have H7 : Hid (RIn w.heap.size w n a m c A w7 ∧ GAt w7 g1 n (tab (legsM mixM A))) := ⟨H2.out.1.later h5, h4⟩; have c0 := H7.out.1.c0; have c1 := H7.out.1.c1; clear h4 h5))
  have HM : Hid (MxIn w7 w8.heap.size n (.slice va m vc) ((A.take 0).map mixA ++ A.drop 0) (w8.alloc (.cells #[.int .i64 n, .slice va m vc] 24))) := by
    refine ⟨H8.out.1.alloc H8.out.1.size _, H8.out.1.size, heap_alloc_new _ _, ?_⟩
    have : (A.take 0).map mixA ++ A.drop 0 = A := by simp
    rw [this]
    exact H8.out.2.later (Nat.le_refl _) ((Below.refl _ _).alloc (Nat.le_refl _) _)
  obtain ⟨Mb, hMb⟩ : ∃ Mb, w8.heap.size = Mb := ⟨_, rfl⟩
  rw [hMb] at HM
  have HMB := hide hMb
  clear H8 hMb c0 c1 H1 H2
  try rw [HMB.out]
  generalize w8.alloc (.cells #[.int .i64 n, .slice va m vc] 24) = W0 at HM ⊢
  have cM := HM.out.c
  try go_wp2
  go_loopw [28] (fun vi wr => ∃ k : Nat, vi = .int .i64 k ∧ k ≤ m ∧ Hid (MxIn w7 Mb n (.slice va m vc) ((A.take k).map mixA ++ A.drop k) wr)) (fun vi _ => m - (intOf vi).toNat)
  case atStart => exact ⟨0, rfl, Nat.zero_le _, HM.out⟩
  case round =>
    clear HM cM
    obtain ⟨k, rfl, hk, HR⟩ := hrel
    have cM := HR.out.c
    have cM0 := HR.out.c0
    by_cases hlt : k < m
    · have i1 : (k : Int) < (m : Int) := by omega
      have hkA : k < A.length := by rw [HLEN.out]; exact hlt
      obtain ⟨hat, hle⟩ := mix_at A k hkA
      have HST := hide (mix_step A k hkA)
      have hrow := HR.out.row
      obtain ⟨g, cap, hv, _, hg, _, _⟩ := hrow.form (by rw [hle]; omega)
      rw [hle, HLEN.out] at hv
      cases hv
      have e2 := hrow.cell k 2 (by omega) (by omega)
      have e3 := hrow.cell k 3 (by omega) (by omega)
      have ff := hrow.frozen (k * 4 + 2)
      have hmem : A[k]! ∈ A := by rw [getElem!_pos A k hkA]; exact List.getElem_mem _
      have hnu := of_decide_eq_true (HNU.out _ hmem)
      rw [HLEN.out] at hle
      have HPT := hide (fun q x => (HR.out.drewN q).put hle k hlt x)
      rw [hat] at e2 e3 HPT
      obtain ⟨x, hx⟩ : ∃ x, A[k]! = x := ⟨_, rfl⟩
      rw [hx] at e2 e3 HPT HST hnu
      obtain ⟨x1, x2, x3, x4⟩ := x
      have e2' : wr.cell? ⟨g, k * 4 + 2, none⟩ = some (.int .i64 x3) := e2
      have e3' : wr.cell? ⟨g, k * 4 + 3, none⟩ = some (.int .i64 x4) := e3
      simp only at hnu
      clear e2 e3 hrow hat hle hmem hx HR hkA
      go_wp2
      go_region
      all_goals
        go_wp2
        go_roundw
        case rel => exact ⟨k + 1, by go_num, by omega, by show MxIn _ _ _ _ _ _; rw [← HST.out]; exact HPT.out 1 _⟩
        case measure => simp [intOf]; omega
    · have hkm : k = m := by omega
      subst hkm
      have hAA : (A.take k).map mixA ++ A.drop k = A.map mixA := by rw [← HLEN.out, List.take_length, List.drop_length, List.append_nil]
      have HF : Hid (MxIn w7 Mb n (.slice va k vc) (A.map mixA) wr) := by have := HR.out; rw [hAA] at this; exact this
      have HLM : Hid ((A.map mixA).length = k) := by show _ = _; rw [List.length_map]; exact HLEN.out
      have HAR : Hid (ArcsAt wr va k (A.map mixA)) := by
        obtain ⟨a', c', e, h'⟩ := HF.out.row.arcs
        rw [HLM.out] at e h'
        cases e
        exact h'
      have HT := hide (table_any n HN.out va k vc (A.map mixA) false wr HAR.out (by omega) (fun x hx => by obtain ⟨y, hy, rfl⟩ := List.mem_map.1 hx; exact HP.out y hy) (fun x hx => by
        obtain ⟨y, hy, rfl⟩ := List.mem_map.1 hx
        have := of_decide_eq_true (HNU.out y hy)
        show 0 ≤ 2 * y.2.2.1 + y.2.2.2
        omega))
      rw [show mtM false = timeM from rfl, legs_mix] at HT
      have HG := hide (And.intro (H7.out.1.later HF.out.below) (H7.out.2.later HF.out.below))
      clear HR hAA HAR HLM H7
      go_wp2_with (first
        | (go_at_call 22; refine HT.out.mono ?_; rintro e w9 ⟨v9, rfl, h4, h5⟩; have H9 : Hid (RIn w.heap.size w n a k c A w9 ∧ GAt w9 g1 n (tab (legsM mixM A)) ∧ IRow w9 wr.heap.size v9 (cellsM n (tab (legsM mixM A)))) := ⟨HG.out.1.later h5, HG.out.2.later h5, h4⟩; clear h4 h5)
        | (go_at_call 21; refine (sameG_any H9.out.2.1 HN.out HW.out H9.out.2.2).mono ?_; rintro e w10 ⟨rfl, h5⟩; have H10 : Hid (RIn w.heap.size w n a k c A w10) := H9.out.1.later h5; clear h5))
      go_ret
      exact ⟨rfl, H10.out.below⟩
set_option maxRecDepth 100000 in
set_option maxHeartbeats 3200000 in
theorem metrics_bad (n : Int) (a : Option Addr) (m c : Nat) (A : List Arc) (w : World) (h : ArcsAt w a m A) (hc : a = none → c = 0) (hm : m ≤ 300) (he : (checkM n A).2 ≠ 0) :
    Calls Try.prog 4 #[.agg #[.int .i64 n, .slice a m c]] w fun e w' => e = .returned (.bool true) ∧ Below w.heap.size w w' := by
  have HC := hide hc
  have HS := hide (rin_start w n a m c A h)
  have hm2 : ¬ (300 : Int) < (m : Int) := by omega
  have HNB := hide (fun (mv : Value) (a' : Option Addr) (c' : Nat) (w' : World) (h' : ArcsAt w' a' m A) => new_bad n a' m c' A mv w' h' he)
  generalize (checkM n A).2 = ce at HNB he
  have hq3 : (ce != 0) = true := by simp [he]
  have HLEN := hide h.len
  replace he := hide he
  clear h hc
  go_enter Try.func4, Try.ntmps4
  go_wp2_with (first
    | (go_at_call 15; refine (awake_any _).mono ?_; rintro e w1 ⟨rfl, h1⟩; have H1 : Hid (RIn w.heap.size w n a m c A w1) := HS.out.later h1; have c0 := H1.out.c0; have c1 := H1.out.c1; clear h1)
    | (go_at_call 17; refine (copied_any n a m c A _ H1.out.arcs HC.out (by omega)).mono ?_; rintro e w2 ⟨v, rfl, h2, h3⟩; obtain ⟨a2, c2, rfl, h4⟩ := own_arcs h2 HLEN.out; have H2 : Hid (RIn w.heap.size w n a m c A w2 ∧ ArcsAt w2 a2 m A) := ⟨H1.out.later h3, h4⟩; clear h2 h3 h4)
    | (go_at_call 19; refine (HNB.out _ a2 c2 _ H2.out.2).mono ?_; rintro e w7 ⟨rfl, h5⟩; have H7 : Hid (RIn w.heap.size w n a m c A w7) := H2.out.1.later h5; clear h5))
  go_ret
  exact ⟨rfl, H7.out.below⟩
set_option maxRecDepth 100000 in
set_option maxHeartbeats 1600000 in
theorem metrics_many (n : Int) (a : Option Addr) (m c : Nat) (A : List Arc) (w : World) (h : ArcsAt w a m A) (hm : 300 < m) :
    Calls Try.prog 4 #[.agg #[.int .i64 n, .slice a m c]] w fun e w' => e = .returned (.bool true) ∧ Below w.heap.size w w' := by
  have HS := hide (rin_start w n a m c A h)
  have hm2 : (300 : Int) < (m : Int) := by omega
  have hm3 := h.max
  clear h
  go_enter Try.func4, Try.ntmps4
  go_wp2_with (go_at_call 15; refine (awake_any _).mono ?_; rintro e w1 ⟨rfl, h1⟩; have H1 : Hid (RIn w.heap.size w n a m c A w1) := HS.out.later h1; have c0 := H1.out.c0; have c1 := H1.out.c1; clear h1)
  go_ret
  exact ⟨rfl, H1.out.below⟩
theorem metrics_any (n : Int) (a : Option Addr) (m c : Nat) (A : List Arc) (w : World) (h : ArcsAt w a m A) (hc : a = none → c = 0) :
    Calls Try.prog 4 #[.agg #[.int .i64 n, .slice a m c]] w fun e w' => e = .returned (.bool true) ∧ Below w.heap.size w w' := by
  by_cases hm : 300 < m
  · exact metrics_many n a m c A w h hm
  · by_cases he : (checkM n A).2 = 0
    · obtain ⟨hn, _⟩ := checkM_ok he
      obtain ⟨k, rfl⟩ : ∃ k : Nat, n = (k : Int) := ⟨n.toNat, by omega⟩
      exact metrics_good k a m c A w h hc (by omega) he
    · exact metrics_bad n a m c A w h hc (by omega) he
end Go.Proofs.Ytkgpjhechopfhaa
