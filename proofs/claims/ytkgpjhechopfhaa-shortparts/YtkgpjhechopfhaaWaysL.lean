/-
  What the law ShortWays does.
-/
import Derived.Test.YtkgpjhechopfhaaRefW
import Derived.Deep.CutRange
namespace Go.Proofs.Ytkgpjhechopfhaa
open Go.RowKit Go.Sort

theorem weigh_nat {n : Nat} {W : Nat → Nat → Option Int} (hW : WOk n W) : ∀ (r : List Nat) (a : Nat) (s d : Int), (∀ x ∈ a :: r, x < n) → weighL W (a :: r) = some d → weighF n W s a (natsI r) = s + d
  | [], a, s, d, _, h => by
    have : (0 : Int) = d := by simpa [weighL] using h
    show s = s + d
    omega
  | b :: r, a, s, d, hall, h => by
    obtain ⟨x, y, h1, h2, h3⟩ := oadd_some h
    have ha := hall a (by simp)
    have hb := hall b (by simp)
    have hx := hW a b x ha hb h1
    show (if wt n W a (b : Int) < 0 then -1 else weighF n W (s + wt n W a (b : Int)) (b : Int) (natsI r)) = _
    rw [wt_in ha hb, h1]
    simp only [Option.getD_some]
    rw [if_neg (by omega), weigh_nat hW r b (s + x) y (fun z hz => hall z (by simp at hz ⊢; exact .inr hz)) h2]
    omega
theorem weigh_way {n p q : Nat} {W : Nat → Nat → Option Int} {d : Int} {L : List Nat} (hW : WOk n W) (h : WayOk n W p q d L) : weighZ n W (natsI L) = d := by
  match L, h with
  | [], h => exact absurd h.first (by simp)
  | a :: r, h =>
    have ha := h.all a (by simp)
    show (if inN n ((a : Nat) : Int) = true then weighF n W 0 ((a : Nat) : Int) (natsI r) else -1) = d
    rw [if_pos (by unfold inN; simp; omega), weigh_nat hW r a 0 d h.all h.sum]
    omega
set_option maxRecDepth 100000 in
set_option maxHeartbeats 1600000 in
theorem ways_bad (n : Int) (a : Option Addr) (m c : Nat) (A : List Arc) (p q : Int) (d : Bool) (w : World) (h : ArcsAt w a m A) (hc : a = none → c = 0) (hb : 300 < m ∨ (m ≤ 300 ∧ (checkM n A).2 ≠ 0)) :
    Calls Try.prog 8 #[.agg #[.int .i64 n, .slice a m c], .int .i64 p, .int .i64 q, .bool d] w fun e w' => e = .returned (.bool true) ∧ Below w.heap.size w w' := by
  have HS := hide (rin_start w n a m c A h)
  have HGR : Hid (∀ w', ArcsAt w' a m A → Calls Try.prog 31 #[.agg #[.int .i64 n, .slice a m c], .bool d] w' fun e w'' => e = .returned (.tuple #[.pointer none, .agg #[.int .i64 0, .slice none 0 0], .agg #[.int .i64 0, .slice none 0 0], .bool false]) ∧ Below w'.heap.size w' w'') := fun w' h' => by
    rcases hb with hm | ⟨hm, he⟩
    · exact graph_many n a m c A d w' h' hm
    · exact graph_bad n a m c A d w' h' hc hm he
  clear h hc hb
  go_enter Try.func8, Try.ntmps8
  go_wp2_with (first
    | (go_at_call 30; refine (awakeS_any _).mono ?_; rintro e w1 ⟨rfl, h1⟩; have H1 := hide (HS.out.later h1); have c0 := H1.out.c0; have c1 := H1.out.c1; clear h1)
    | (go_at_call 31; refine (HGR.out _ H1.out.arcs).mono ?_; rintro e w2 ⟨rfl, h2⟩; have H2 := hide (H1.out.later h2); clear h2))
  go_ret
  exact ⟨rfl, (H2.out.below.alloc H2.out.below.size _).alloc (by have := H2.out.below.size; simp; omega) _⟩
set_option maxRecDepth 100000 in
set_option maxHeartbeats 6400000 in
theorem waysIn_good (n : Nat) (a : Option Addr) (m c : Nat) (A : List Arc) (p q : Nat) (d : Bool) (w : World) (h : ArcsAt w a m A) (hc : a = none → c = 0) (hm : m ≤ 300) (he : (checkM n A).2 = 0) (hp : p < n) (hq : q < n) :
    Calls Try.prog 8 #[.agg #[.int .i64 n, .slice a m c], .int .i64 p, .int .i64 q, .bool d] w fun e w' => e = .returned (.bool true) ∧ Below w.heap.size w w' := by
  obtain ⟨hn0, hl, hok⟩ := checkM_ok he
  have hn : 1 ≤ n ∧ n ≤ 32 := by omega
  have HN := hide hn
  have HM := hide (mt_pos he d)
  have HWO : Hid (WOk n (tab (legsM (mtM d) A))) := fun p q x _ _ hx => tab_pos HM.out p q x hx
  have HS := hide (rin_start w n a m c A h)
  have HGR := hide (fun (w' : World) (h' : ArcsAt w' a m A) => graph_good n a m c A d w' h' hc hm he)
  obtain ⟨Q, hQ⟩ : ∃ Q, n * n = Q := ⟨_, rfl⟩
  have HQ := hide hQ
  have hQb : Q ≤ 1024 := by rw [← hQ]; exact (mul_wrap hn.2 hn.2).2
  have HQ0 : Hid (0 < n * n) := Nat.mul_pos (by omega) (by omega)
  clear h hc he hn0 hok hQ
  generalize tab (legsM (mtM d) A) = W at HWO HGR
  have HL1 : Hid ((cellsM n W).length = Q) := (cellsM_len n W).trans HQ.out
  have HL2 : Hid ((cellsM n (least n W)).length = Q) := (cellsM_len n (least n W)).trans HQ.out
  obtain ⟨hmul, hmb⟩ := mul_wrap (show p ≤ 32 by omega) hn.2
  obtain ⟨P, hP⟩ : ∃ P, p * n = P := ⟨_, rfl⟩
  have HP := hide hP
  rw [hP] at hmul hmb
  have l1 := cell_lt hp hq
  rw [hP, HQ.out] at l1
  have i1 : (p : Int) < (n : Int) := by omega
  have i2 : (q : Int) < (n : Int) := by omega
  have g1 : ¬ n ≤ p := by omega
  have g2 : ¬ n ≤ q := by omega
  have k1 : (P : Int) + (q : Int) < (Q : Int) := by omega
  have w1' : IntKind.i64.wrap ((P : Int) + (q : Int)) = ((P + q : Nat) : Int) := by rw [IntKind.wrap_i64]; omega
  have HPN := hide (And.intro hp hq)
  clear hP
  go_enter Try.func8, Try.ntmps8
  go_upto_region 7 with (first
    | (go_at_call 30; refine (awakeS_any _).mono ?_; rintro e w1 ⟨rfl, h1⟩; have H1 := hide (HS.out.later h1); have c0 := H1.out.c0; have c1 := H1.out.c1; clear h1)
    | (go_at_call 31; refine (HGR.out _ H1.out.arcs).mono ?_; rintro e w2 ⟨g, vt, vl, rfl, h2, h3, h4, h5⟩; obtain ⟨tg, tc, rfl, _⟩ := h3.form (by rw [cellsM_len]; exact HQ0.out); obtain ⟨lg, lc, rfl, _⟩ := h4.form (by rw [cellsM_len]; exact HQ0.out); rw [HL1.out] at h3 ⊢; rw [HL2.out] at h4 ⊢; have H3 := hide (g3_mk (H1.out.later h5) h2 h3 h4 HQ.out); clear h2 h3 h4 h5)
    | (go_at_call 36; refine (way_any H3.out.gr HN.out HWO.out p q HPN.out.1 HPN.out.2).mono ?_; rintro e w3 ⟨h1, D, h2, h3⟩; have hDe : D q = least n W p q := h2.eq (least_is HWO.out p HPN.out.1) q HPN.out.2; have H4 := hide (H3.out.later h1); rw [hDe] at h3; obtain ⟨v, dd, he, h4⟩ : ∃ v dd, e = .returned (.tuple #[v, .int .i64 dd]) ∧ ((least n W p q = none ∧ v = .slice none 0 0 ∧ dd = -1) ∨ ∃ L, least n W p q = some dd ∧ IRow w3 ((w2.alloc (.cells #[.int .i64 n, .slice (some ⟨tg, 0, none⟩) Q tc] 41)).alloc (.cells #[.int .i64 n, .slice (some ⟨lg, 0, none⟩) Q lc] 41)).heap.size v (natsI L) ∧ WayOk n W p q dd L) := (by rcases h3 with ⟨a1, a2⟩ | ⟨d, v, L, a1, a2, a3, a4⟩; exact ⟨_, _, a2, .inl ⟨a1, rfl, rfl⟩⟩; exact ⟨_, _, a2, .inr ⟨L, a1, a3, a4⟩⟩); subst he; have H5 := hide h4; clear h1 h2 h3 h4 hDe))
  have r0 := H4.out.ml.c0
  have r1 := H4.out.ml.c1
  have x1 := H4.out.ml.cells (P + q) l1
  have e1 : (cellsM n (least n W))[P + q]! = (least n W p q).getD (-1) := by rw [← HP.out]; exact cellsM_at _ HPN.out.1 HPN.out.2
  rw [e1] at x1
  clear e1
  obtain ⟨bx, hbx⟩ : ∃ b, w2.heap.size = b := ⟨_, rfl⟩
  rw [hbx] at H4 r0 r1
  try rw [hbx]
  rcases H5.out with ⟨hn1, hv1, hd1⟩ | ⟨L, hn1, hrow, hway⟩
  · subst hv1
    subst hd1
    rw [hn1] at x1
    simp only [Option.getD_none] at x1
    clear H3 H5 hn1
    go_wp2
    go_ret
    exact ⟨rfl, H4.out.rin.below⟩
  · rw [hn1] at x1
    simp only [Option.getD_some] at x1
    have hd0 := (least_pos HWO.out HPN.out.1 HPN.out.2 hn1).1
    have hlen := hway.len
    have HWY := hide hway
    have hL1 : 1 ≤ L.length := by
      have := hway.first
      rcases L with _ | ⟨z, r⟩
      · cases this
      · simp
    obtain ⟨gv, cv', rfl, _, hgl, hc1, hc2⟩ := hrow.form (by rw [natsI_len]; omega)
    have hIA := intsAt_row hrow
    have f0 := hrow.cell 0 (by rw [natsI_len]; omega)
    have fl := hrow.cell (L.length - 1) (by rw [natsI_len]; omega)
    have e0 : (natsI L)[0]! = (p : Int) := by
      have := hway.first
      rcases L with _ | ⟨z, r⟩
      · cases this
      · simp at this; subst this; rfl
    have el : (natsI L)[L.length - 1]! = (q : Int) := by
      have h1 := hway.last
      rw [List.getLast?_eq_getElem?] at h1
      rw [getElem!_pos _ _ (by rw [natsI_len]; omega)]
      have h2 : L[L.length - 1]'(by omega) = q := by
        rw [List.getElem?_eq_getElem (by omega)] at h1
        simpa using h1
      simp [natsI, h2]
    rw [e0] at f0
    rw [el] at fl
    have d0 := H4.out.mt.c0
    have d1 := H4.out.mt.c1
    have HRWc := H4.out.mt.cells
    rw [natsI_len]
    rw [natsI_len] at hrow
    have HFL := hide (And.intro f0 fl)
    have HRW : Hid (Calls Try.prog 37 #[.agg #[.int .i64 n, .slice (some ⟨tg, 0, none⟩) Q tc], .slice (some ⟨gv, 0, none⟩) L.length cv'] w3 fun e w' => e = .returned (.int .i64 dd) ∧ Below w3.heap.size w3 w') := by
      have := rweigh_box HN.out HWO.out HQ.out H4.out.mt hIA (by rw [natsI_len]; omega) (vc := cv')
      rw [natsI_len, weigh_way HWO.out hway] at this
      exact this
    have z1 : (dd == dd) = true := by simp
    have z2 : ((p : Int) == (p : Int)) = true := by simp
    have z3 : ((q : Int) == (q : Int)) = true := by simp
    have m1 : (L.length : Int) - 1 < (L.length : Int) := by omega
    have m2 : 0 ≤ (L.length : Int) - 1 := by omega
    have m3 : ((L.length : Int) - 1).toNat = L.length - 1 := by omega
    have n0 : ¬ dd < 0 := by omega
    clear H3 H5 hn1 hway hIA e0 el HRWc hrow
    go_wp2_with (go_at_call 37; refine HRW.out.mono ?_; rintro e w4 ⟨rfl, h5⟩; have f0 := (h5.cell (p := ⟨gv, 0, none⟩) hgl).trans HFL.out.1; have fl := (h5.cell (p := ⟨gv, L.length - 1, none⟩) hgl).trans HFL.out.2; have H6 := hide (H4.out.later h5); clear h5)
    go_ret
    exact ⟨rfl, H6.out.rin.below⟩
set_option maxRecDepth 100000 in
set_option maxHeartbeats 6400000 in
theorem waysOut_good (n : Nat) (a : Option Addr) (m c : Nat) (A : List Arc) (p q : Int) (d : Bool) (w : World) (h : ArcsAt w a m A) (hc : a = none → c = 0) (hm : m ≤ 300) (he : (checkM n A).2 = 0) (hpq : inN n p = false ∨ inN n q = false) :
    Calls Try.prog 8 #[.agg #[.int .i64 n, .slice a m c], .int .i64 p, .int .i64 q, .bool d] w fun e w' => e = .returned (.bool true) ∧ Below w.heap.size w w' := by
  obtain ⟨hn0, hl, hok⟩ := checkM_ok he
  have hn : 1 ≤ n ∧ n ≤ 32 := by omega
  have HN := hide hn
  have HM := hide (mt_pos he d)
  have HWO : Hid (WOk n (tab (legsM (mtM d) A))) := fun p q x _ _ hx => tab_pos HM.out p q x hx
  have HS := hide (rin_start w n a m c A h)
  have HGR := hide (fun (w' : World) (h' : ArcsAt w' a m A) => graph_good n a m c A d w' h' hc hm he)
  obtain ⟨Q, hQ⟩ : ∃ Q, n * n = Q := ⟨_, rfl⟩
  have HQ := hide hQ
  have hQb : Q ≤ 1024 := by rw [← hQ]; exact (mul_wrap hn.2 hn.2).2
  have HQ0 : Hid (0 < n * n) := Nat.mul_pos (by omega) (by omega)
  clear h hc he hn0 hok hQ
  generalize tab (legsM (mtM d) A) = W at HWO HGR
  have HL1 : Hid ((cellsM n W).length = Q) := (cellsM_len n W).trans HQ.out
  have HL2 : Hid ((cellsM n (least n W)).length = Q) := (cellsM_len n (least n W)).trans HQ.out
  have HPQ := hide hpq
  have hc : p < 0 ∨ q < 0 ∨ (n : Int) ≤ p ∨ (n : Int) ≤ q := by
    rcases hpq with e | e
    · have := of_decide_eq_false e; omega
    · have := of_decide_eq_false e; omega
  clear hpq
  go_enter Try.func8, Try.ntmps8
  go_upto_region 7 with (first
    | (go_at_call 30; refine (awakeS_any _).mono ?_; rintro e w1 ⟨rfl, h1⟩; have H1 := hide (HS.out.later h1); have c0 := H1.out.c0; have c1 := H1.out.c1; clear h1)
    | (go_at_call 31; refine (HGR.out _ H1.out.arcs).mono ?_; rintro e w2 ⟨g, vt, vl, rfl, h2, h3, h4, h5⟩; obtain ⟨tg, tc, rfl, _⟩ := h3.form (by rw [cellsM_len]; exact HQ0.out); obtain ⟨lg, lc, rfl, _⟩ := h4.form (by rw [cellsM_len]; exact HQ0.out); rw [HL1.out] at h3 ⊢; rw [HL2.out] at h4 ⊢; have H3 := hide (g3_mk (H1.out.later h5) h2 h3 h4 HQ.out); clear h2 h3 h4 h5)
    | (go_at_call 36; refine (way_out H3.out.gr p q HPQ.out).mono ?_; rintro e w' ⟨rfl, hw⟩; rw [hw]; clear hw))
  have r0 := H3.out.ml.c0
  by_cases h1 : p < 0
  · go_wp2
    go_ret
    exact ⟨rfl, H3.out.rin.below⟩
  · by_cases h2 : q < 0
    · go_wp2
      go_ret
      exact ⟨rfl, H3.out.rin.below⟩
    · by_cases h3 : (n : Int) ≤ p
      · go_wp2
        go_ret
        exact ⟨rfl, H3.out.rin.below⟩
      · have h4 : (n : Int) ≤ q := by omega
        go_wp2
        go_ret
        exact ⟨rfl, H3.out.rin.below⟩
theorem ways_any (n : Int) (a : Option Addr) (m c : Nat) (A : List Arc) (p q : Int) (d : Bool) (w : World) (h : ArcsAt w a m A) (hc : a = none → c = 0) :
    Calls Try.prog 8 #[.agg #[.int .i64 n, .slice a m c], .int .i64 p, .int .i64 q, .bool d] w fun e w' => e = .returned (.bool true) ∧ Below w.heap.size w w' := by
  by_cases hm : 300 < m
  · exact ways_bad n a m c A p q d w h hc (.inl hm)
  · by_cases he : (checkM n A).2 = 0
    · obtain ⟨hn, _⟩ := checkM_ok he
      obtain ⟨k, rfl⟩ : ∃ k : Nat, n = (k : Int) := ⟨n.toNat, by omega⟩
      cases hp : inN k p
      · exact waysOut_good k a m c A p q d w h hc (by omega) he (.inl hp)
      · cases hq : inN k q
        · exact waysOut_good k a m c A p q d w h hc (by omega) he (.inr hq)
        · have h1 := of_decide_eq_true hp
          have h2 := of_decide_eq_true hq
          obtain ⟨x, rfl⟩ : ∃ x : Nat, p = (x : Int) := ⟨p.toNat, by omega⟩
          obtain ⟨y, rfl⟩ : ∃ y : Nat, q = (y : Int) := ⟨q.toNat, by omega⟩
          exact waysIn_good k a m c A x y d w h hc (by omega) he (by omega) (by omega)
    · exact ways_bad n a m c A p q d w h hc (.inr ⟨by omega, he⟩)
end Go.Proofs.Ytkgpjhechopfhaa
