/-
  What the law ClimbReaches does.
-/
import Derived.Test.YtojkdmkeankcgaaGreatZAwake8
import Derived.Test.YtojkdmkeankcgaaGreatZMc
namespace Go.Proofs.YtojkdmkeankcgaaGreat
open Go.RowKit Go.Sort

/-- One row of least weights, and the other way round. -/
theorem isLeast_turn {n p q : Nat} {V D : Nat → Nat → Option Int} {D1 D2 : Nat → Option Int} (hp : p < n) (hq : q < n) (h1 : IsLeast n V p D1) (h2 : IsLeast n D q D2) (hV : ∀ a b, a < n → b < n → V b a = D a b) : D1 q = D2 p := by
  cases e1 : D1 q with
  | none =>
    cases e2 : D2 p with
    | none => rfl
    | some d =>
      obtain ⟨d', h3, _⟩ := h1.le ((h2.way p d hp e2).turn hV)
      rw [e1] at h3; cases h3
  | some d =>
    obtain ⟨d', h3, h4⟩ := h2.le ((h1.way q d hq e1).turn fun a b ha hb => (hV b a hb ha).symm)
    obtain ⟨d'', h5, h6⟩ := h1.le ((h2.way p d' hp h3).turn hV)
    rw [e1] at h5
    cases h5
    rw [h3]
    congr 1
    omega
section
variable {n : Nat} {W : Nat → Nat → Option Int} {K : Mx} {rk : Nat → Nat} {Q : Nat → Option Int} {rv : Nat → Int}
theorem u_up (h : Bd n W n K rk Q rv) (hn : n ≤ 32) {p : Nat} (hp : p < n) (q : Nat) (hq : q < n) : sideD n (upM K rk) p q = least n (upW K rk) p q := by
  have e : wtM (upM K rk) = upW K rk := by funext a c; exact up_wt h a c
  have := hn
  have := hp
  unfold sideD
  rw [if_pos hq, e]
theorem u_dn (h : Bd n W n K rk Q rv) (hn : n ≤ 32) {p : Nat} (hp : p < n) (q : Nat) (hq : q < n) : sideD n (dnE K rk) p q = least n (dnW K rk) q p :=
  isLeast_turn hp hq (sideD_is (eok_dn h hn) hp) (Pt.least_is (pot_dn h hn).1 q hq) (fun a b _ _ => dn_wt h b a)
end
/-- So many places come ahead of q, and then q. -/
theorem rcL_pre (D : Nat → Option Int) {k n : Nat} (h : k ≤ n) : ∃ r, rcL D n = rcL D k ++ r := by
  induction h with
  | refl => exact ⟨[], by simp⟩
  | @step m _ ih =>
    obtain ⟨r, hr⟩ := ih
    cases e : D m with
    | none => exact ⟨r, by rw [Nat.succ_eq_add_one, rcL_none e, hr]⟩
    | some d => exact ⟨r ++ [m], by rw [Nat.succ_eq_add_one, rcL_some e, hr, List.append_assoc]⟩
theorem rcL_here {D : Nat → Option Int} {q n : Nat} {d : Int} (hq : q < n) (e : D q = some d) : (rcL D q).length < (rcL D n).length ∧ (rcP D n)[(rcL D q).length]! = (q : Int) ∧ (rcW D n)[(rcL D q).length]! = d := by
  obtain ⟨r, hr⟩ := rcL_pre D (show q + 1 ≤ n from hq)
  rw [rcL_some e, List.append_assoc] at hr
  refine ⟨by rw [hr]; simp, ?_, ?_⟩
  · unfold rcP
    rw [hr]
    simp
  · unfold rcW
    rw [hr]
    simp [e]
/-- Behind Least: the box holds its answer. -/
structure RkIn (w1 : World) (bx n : Nat) (v : Value) (xs : List Int) (wr : World) : Prop where
  box : wr.heap[bx]? = some (.cells #[.int .i64 n, v] 29 (0, 0))
  own : IRow wr (bx + 1) v xs
  f : Below w1.heap.size w1 wr
theorem rkin_mk {w1 wr w9 : World} {bx n m : Nat} {v v9 : Value} {xs ys : List Int} (h : Mk7 w1 bx n v xs wr) (h1 : IRow w9 m v9 ys) (h2 : Below wr.heap.size wr w9) (hbx : w1.heap.size = bx) (hm : wr.heap.size = m) (hb : w9.heap[bx]? = some (.cells #[.int .i64 n, v] 29 (0, 0))) : RkIn w1 bx n v9 ys ((w9.setCell ⟨bx, 0, none⟩ (.int .i64 n)).setCell ⟨bx, 1, none⟩ v9) := by
  have hlt := h.lt
  refine ⟨?_, ((h1.setOther (b := bx) (j := 0) (by omega) _).setOther (b := bx) (j := 1) (by omega) _).mono (by omega), ?_⟩
  · rw [heap_setCell_same _ _ 1 _ _ _ (heap_setCell_same _ _ 0 _ _ _ hb)]
    rfl
  · have f1 := h.f.trans (h2.mono h.f.size)
    exact (f1.setCell (by show _ ≤ bx; omega) _).setCell (by show _ ≤ bx; omega) _
set_option maxRecDepth 100000 in
set_option maxHeartbeats 12800000 in
theorem rea_up_good (n : Nat) (a : Option Addr) (m c : Nat) (A : List Arc) (pp : Nat) (hpp : pp < n) (w : World) (h : ArcsAt w a m A) (hc : a = none → c = 0) (hm : m ≤ 300) (he : (checkM n A).2 = 0) :
    Calls Tryz.prog 5 #[.agg #[.int .i64 n, .slice a m c], .int .i64 pp, .bool true] w fun e w' => e = .returned (.bool true) ∧ Below w.heap.size w w' := by
  obtain ⟨hn0, hl, hok⟩ := checkM_ok he
  have hn : 1 ≤ n ∧ n ≤ 32 := by omega
  have HN := hide hn
  have HM := hide (mt_pos he false)
  have HWO : Hid (WOk n (tab (legsM (mtM false) A))) := fun p q x _ _ hx => tab_pos HM.out p q x hx
  have HLP : Hid (∀ a, a < n → tab (legsM (mtM false) A) a a = none) := fun a _ => tab_loop _ _ a
  have HS := hide (rin_start w n a m c A h)
  have HGR := hide (fun (w' : World) (h' : ArcsAt w' a m A) => graph_good n a m c A false w' h' hc hm he)
  obtain ⟨Q, hQ⟩ : ∃ Q, n * n = Q := ⟨_, rfl⟩
  have HQ := hide hQ
  have hQb : Q ≤ 1024 := by rw [← hQ]; exact (mul_wrap hn.2 hn.2).2
  have HQ0 : Hid (0 < n * n) := Nat.mul_pos (by omega) (by omega)
  clear h hc he hn0 hok hQ
  generalize tab (legsM (mtM false) A) = W at HWO HGR HLP
  have HL1 : Hid ((cellsM n W).length = Q) := (cellsM_len n W).trans HQ.out
  have HL2 : Hid ((cellsM n (least n W)).length = Q) := (cellsM_len n (least n W)).trans HQ.out
  go_enter Tryz.func5, Tryz.ntmps5
  go_wp2_with (first
    | (go_at_call 9; refine (awake8_any _).mono ?_; rintro e w1 ⟨rfl, h1⟩; have H1 := hide (HS.out.later h1); have c0 := H1.out.c0; have c1 := H1.out.c1; clear h1)
    | (go_at_call 10; refine (HGR.out _ H1.out.arcs).mono ?_; rintro e w2 ⟨g, vt, vl, rfl, h2, h3, h4, h5⟩; obtain ⟨tg, tc, rfl, _⟩ := h3.form (by rw [cellsM_len]; exact HQ0.out); obtain ⟨lg, lc, rfl, _⟩ := h4.form (by rw [cellsM_len]; exact HQ0.out); rw [HL1.out] at h3 ⊢; rw [HL2.out] at h4 ⊢; have H3 := hide (g3_mk (H1.out.later h5) h2 h3 h4 HQ.out); clear h2 h3 h4 h5)
    | (go_at_call 11; refine (build_any H3.out.gr HN.out HWO.out HLP.out).mono ?_; rintro e w3 ⟨bb, rfl, K, rk, Q9, rv, h1, h2, _, h4⟩; have HBD := hide h1; have H4 : Hid (L7 w.heap.size w n a m c A g W w2.heap.size tg tc lg lc Q bb rv (upM K rk) (dnM K rk) w3) := ⟨H3.out.later h4, h2⟩; clear h1 h2 h4))
  obtain ⟨b1, hb1⟩ : ∃ b, w2.heap.size = b := ⟨_, rfl⟩
  rw [hb1] at H4
  try rw [hb1]
  clear H1 H3 hb1 c0 c1
  have HPP := hide hpp
  clear hpp
  go_wp2_with (go_at_call 17; refine (reach_up_any H4.out.lf HN.out.2 HBD.out HPP.out).mono ?_; rintro e w4 ⟨vp, vm, rfl, h1, h2, h3⟩; obtain ⟨pa, pc, rfl⟩ := h1.shape; obtain ⟨ma, mc, rfl⟩ := h2.shape; have H5 := hide (And.intro h1 (And.intro h2 (H4.out.later h3))); have x0 := H5.out.2.2.g3.ml.c0; have ip : (pp : Int) < (n : Int) := (by have := HPP.out; omega); have ig : decide ((n : Int) ≤ (pp : Int)) = false := decide_eq_false (by omega); have ig2 : decide (n ≤ pp) = false := decide_eq_false (by have := HPP.out; omega); have in0 : decide ((pp : Int) < 0) = false := decide_eq_false (by omega); clear h1 h2 h3)
  have HUO := hide (sideD_ok (eok_up HBD.out HN.out.2) HPP.out)
  have HX4 := hide H5.out.2.2
  have HL := hide HX4.out.lf
  have HPOT := hide (pot_up HBD.out HN.out.2)
  have HEND := hide (cl_up HBD.out)
  have HALL : Hid (∀ k p, p ≤ n → k ∈ clL (upL n (upM K rk)) p → 0 ≤ k.2.2.1 ∧ k.2.2.1 ≤ 4294967296000000) := fun k p hp hk => by
    obtain ⟨r, hr, hk⟩ := mem_clL.1 hk
    exact HBD.out.lft.bound HN.out.2 _ _ _ _ (up_mem HBD.out hk).2.2.2
  obtain ⟨i0, hi0, hy0, hy1, hy2⟩ := info_parts info3
  have HI := hide (And.intro hi0 (And.intro hy0 (And.intro hy1 hy2)))
  obtain ⟨hmulQ, _⟩ := mul_wrap hn.2 hn.2
  rw [HQ.out] at hmulQ
  have HS0 := hide (mk7_start w4 n)
  obtain ⟨w1, hw1⟩ : ∃ w1, w4 = w1 := ⟨_, rfl⟩
  rw [hw1] at HS0 H5 HX4 HL
  try rw [hw1]
  clear hi0 hy0 hy1 hy2 H4 hw1 x0
  generalize hbx : w1.heap.size = bx at HS0 ⊢
  generalize w1.alloc (.cells #[.int .i64 n, .slice none 0 0] 29) = W0 at HS0 ⊢
  have HBX := hide hbx
  clear hbx
  go_loopw [15] (fun vi wr => ∃ (i : Nat) (v : Value), vi = .int .i64 i ∧ i ≤ Q ∧ Hid (Mk7 w1 bx n v (List.replicate i (-1)) wr)) (fun vi _ => Q - (intOf vi).toNat)
  case atStart => exact ⟨0, _, rfl, Nat.zero_le _, HS0.out⟩
  case round =>
    clear HS0
    obtain ⟨i, v, rfl, hi, HR⟩ := hrel
    have r2 := cell_of_row wr bx 1 _ _ _ HR.out.box
    have f2 := frozen_of_row wr bx 1 _ _ HR.out.box
    simp only [List.getElem?_toArray, List.getElem?_cons_succ, List.getElem?_cons_zero] at r2
    have x0 := (HX4.out.later HR.out.f).g3.ml.c0
    by_cases hlt : i < Q
    · have i1 : (i : Int) < (Q : Int) := by omega
      have hBz := HR.out.lt
      have HOW : Hid ((wr.alloc (.cells #[.int .i64 (-1)] 3)).ownsRow (bx + 1) 3 1 v (List.replicate i (-1)).length (intsV (List.replicate i (-1)))) := HR.out.own.alloc _
      rw [List.length_replicate] at HOW
      have HNW : Hid (∀ j u, [Value.int .i64 (-1)][j]? = some u → (wr.alloc (.cells #[.int .i64 (-1)] 3)).cell? ((⟨wr.heap.size, 0, none⟩ : Addr).add j) = some u) := World.news_of_block (cs := #[.int .i64 (-1)]) (t := 3) (fr := (0, 0)) (heap_alloc_new _ _)
      go_wp2_with (at_builtin; refine wpList_append_lies _ rfl (.tmp 73) (.tmp 74) 27 rfl (bx + 1) 3 i0 (.int .i64 0) 1 8 Tryz.underlying27 HI.out.1 HI.out.2.1 HI.out.2.2.1 HI.out.2.2.2 rfl (by decide) v i (intsV (List.replicate i (-1))) rfl HOW.out ⟨wr.heap.size, 0, none⟩ 1 1 [.int .i64 (-1)] rfl rfl HNW.out (by simp [Value.oneCell']) (by decide) (by unfold maxLen; omega) (by omega) (by simp; omega) (wr.heap.size + 1) (by simp) ?_)
      intro gg cap w3 hown1 hgrow hat hlt3
      have HST : Hid (Mk7 w1 bx n (.slice (some ⟨gg, 0, none⟩) (i + 1) cap) (List.replicate (i + 1) (-1)) (w3.setCell ⟨bx, 1, none⟩ (.slice (some ⟨gg, 0, none⟩) (i + 1) cap))) := by
        have := HR.out.more (.cells #[.int .i64 (-1)] 3) rfl (-1) (g := gg) (cap := cap) (w3 := w3) (by rw [List.length_replicate]; exact hown1) hgrow
        rw [rep_snoc, List.length_replicate] at this
        exact this
      have f3 : w3.frozen? ⟨bx, 1, none⟩ = false := by
        have := frozen_of_row _ bx 1 _ _ HST.out.box
        rw [World.frozen?_setCell] at this
        exact this
      have c3 : ∃ u, w3.cell? ⟨bx, 1, none⟩ = some u := by
        rw [hgrow.cell_far ⟨bx, 1, none⟩ (by show bx < _; simp; omega) (fun e => by have : bx + 1 ≤ bx := (HOW.out.lt _ e.symm).1; omega), World.cell?_alloc_lt _ _ _ (by show bx < _; omega)]
        exact ⟨_, r2⟩
      obtain ⟨u3, c3⟩ := c3
      clear hown1 hgrow hat HR
      go_wp2
      go_roundw
      case rel => exact ⟨i + 1, _, by go_num, by omega, HST.out⟩
      case measure => simp [intOf]; omega
    · have hiQ : i = Q := by omega
      have i1 : ¬ (i : Int) < (Q : Int) := by omega
      have HS1 : Hid (Mk7 w1 bx n v (cellsM n (tab (lgs []))) wr) := by
        show Mk7 _ _ _ _ _ _
        rw [show lgs [] = [] from rfl, cellsM_none, HQ.out, ← hiQ]
        exact HR.out
      replace hiQ := hide hiQ
      clear HR r2 f2
      go_wp2
      go_loopw [16] (fun vi wr => ∃ (p : Nat) (v : Value), vi = .int .i64 p ∧ p ≤ n ∧ Hid (Mk7 w1 bx n v (cellsM n (tab (lgs (clL (upL n (upM K rk)) p)))) wr)) (fun vi _ => n - (intOf vi).toNat)
      case atStart => exact ⟨0, _, rfl, Nat.zero_le _, HS1.out⟩
      case round =>
        clear HS1
        obtain ⟨p, v, rfl, hp, HR⟩ := hrel
        have x0 := (HX4.out.later HR.out.f).g3.ml.c0
        by_cases hpn : p < n
        · have i2 : (p : Int) < (n : Int) := by omega
          have HPN := hide hpn
          have hp32 : p < 32 := by have := HN.out.2; omega
          have HMEM : Hid (∀ i, i < (upL n (upM K rk) p).length → ∃ (q : Nat) (x y : Int), q < n ∧ (upL n (upM K rk) p)[i]! = (p, q, (x, y)) ∧ 0 ≤ x ∧ x ≤ 4294967296000000) := fun i hi => by
            have hm : (upL n (upM K rk) p)[i]! ∈ upL n (upM K rk) p := by rw [getElem!_pos _ i hi]; exact List.getElem_mem hi
            obtain ⟨e1, e2, _, e4⟩ := up_mem HBD.out hm
            refine ⟨(upL n (upM K rk) p)[i]!.2.1, (upL n (upM K rk) p)[i]!.2.2.1, (upL n (upM K rk) p)[i]!.2.2.2, e2, ?_, ?_⟩
            · generalize (upL n (upM K rk) p)[i]! = k at e1
              obtain ⟨k1, k2, k3, k4⟩ := k
              simp only at e1 ⊢
              rw [e1]
            · exact HBD.out.lft.bound HN.out.2 _ _ _ _ e4
          clear x0
          have x0 := (HX4.out.later HR.out.f).g3.ml.c0
          have HLE := hide (upL_len n _ p : (upL n (upM K rk) p).length ≤ n)
          have HSU := hide (clL_succ (upL n (upM K rk)) p)
          have HCL : Hid (∀ k ∈ clL (upL n (upM K rk)) p, 0 ≤ k.2.2.1 ∧ k.2.2.1 ≤ 4294967296000000) := fun k hk => HALL.out k p (Nat.le_of_lt HPN.out) hk
          go_wp2_with (go_at_call 18; refine (lup_any (HL.out.later HR.out.f) HN.out.2 HPN.out).mono ?_; rintro e w5 ⟨v5, rfl, h1, h2⟩; have HD5 := hide (And.intro h1 h2); obtain ⟨va5, vc5, rfl⟩ := h1.shape; clear h1 h2)
          have HS2 : Hid (Mk7 w1 bx n v (cellsM n (tab (lgs (clL (upL n (upM K rk)) p ++ (upL n (upM K rk) p).take 0)))) w5 ∧ LRow w5 wr.heap.size (.slice va5 (upL n (upM K rk) p).length vc5) (upL n (upM K rk) p)) := ⟨by rw [List.take_zero, List.append_nil]; exact HR.out.later HD5.out.2, HD5.out.1⟩
          generalize hLP : clL (upL n (upM K rk)) p = LP at HS2 HSU HCL
          generalize hLG : upL n (upM K rk) p = LG at HS2 HSU HMEM HLE ⊢
          obtain ⟨B5, hB5⟩ : ∃ B, wr.heap.size = B := ⟨_, rfl⟩
          rw [hB5] at HS2
          clear HR HD5 hB5 hLP hLG
          go_wp2
          go_loopw [93] (fun vi wr => ∃ i : Nat, vi = .int .i64 i ∧ i ≤ LG.length ∧ Hid (∃ v, Mk7 w1 bx n v (cellsM n (tab (lgs (LP ++ LG.take i)))) wr ∧ LRow wr B5 (.slice va5 LG.length vc5) LG)) (fun vi _ => LG.length - (intOf vi).toNat)
          case atStart => exact ⟨0, rfl, Nat.zero_le _, _, HS2.out⟩
          case round =>
            clear HS2
            obtain ⟨i, rfl, hi, HR⟩ := hrel
            obtain ⟨v, hR⟩ := HR.out
            have HR2 := hide hR
            clear hR HR
            by_cases hil : i < LG.length
            · obtain ⟨q, x, y, hq, hLi, hx0, hxM⟩ := HMEM.out i hil
              obtain ⟨g1, c1, hv, _, _, _, _⟩ := HR2.out.2.form (by omega)
              injection hv with j1 j2 j3
              subst j1 j3
              clear j2
              obtain ⟨y0, y1, y2, y3⟩ := HR2.out.2.cells i hil
              rw [hLi] at y0 y1 y2 y3
              simp only at y0 y1 y2 y3
              have HTK : Hid (LP ++ LG.take (i + 1) = (LP ++ LG.take i) ++ [(p, q, (x, y))]) := by show _ = _; rw [take_snoc hil, hLi, List.append_assoc]
              have HPB : Hid (∀ k ∈ LP ++ LG.take i, 0 ≤ k.2.2.1 ∧ k.2.2.1 ≤ 4294967296000000) := fun k hk => by
                rcases List.mem_append.1 hk with hk | hk
                · exact HCL.out k hk
                · obtain ⟨j, hj, e⟩ := List.mem_iff_getElem.1 (List.mem_of_mem_take hk)
                  obtain ⟨q', x', y', _, e2, e3⟩ := HMEM.out j hj
                  rw [← e, ← getElem!_pos LG j hj, e2]
                  exact e3
              generalize hPP : LP ++ LG.take i = PP at HR2 HTK HPB
              have hcb := cv_lgs HPB.out p q
              have HC := hide (lgs_cells (n := n) (P := PP) (a := p) (c := q) (x := x) (y := y) hq)
              obtain ⟨hmul, hmb⟩ := mul_wrap (show p ≤ 32 by have := HN.out.2; omega) HN.out.2
              obtain ⟨A0, hA0⟩ : ∃ A0, p * n = A0 := ⟨_, rfl⟩
              have l1 := cell_lt (show p < n by exact HPN.out) (show q < n by exact hq)
              rw [hA0] at hmul hmb l1 HC
              rw [HQ.out] at l1
              obtain ⟨g2, c2, hv2, hgb, hgl, _, _⟩ := HR2.out.1.own.form (by rw [cellsM_len, HQ.out]; omega)
              rw [cellsM_len, HQ.out] at hv2
              subst hv2
              have ec : (cellsM n (tab (lgs PP)))[A0 + q]! = cv (tab (lgs PP) p q) := by rw [← hA0]; exact cellsM_at _ (show p < n by exact HPN.out) (show q < n by exact hq)
              have xc := HR2.out.1.own.cell (A0 + q) (by rw [cellsM_len, HQ.out]; exact l1)
              rw [ec] at xc
              have xb := cell_of_row wr bx 1 _ _ _ HR2.out.1.box
              simp only [List.getElem?_toArray, List.getElem?_cons_succ, List.getElem?_cons_zero] at xb
              have HNN : Hid (∀ v, tab (lgs PP) p q = some v → 0 ≤ v) := lgs_pos (fun k hk => (HPB.out k hk).1) _ _
              generalize hz : cv (tab (lgs PP) p q) = z at xc hcb HC
              have i3 : (i : Int) < (LG.length : Int) := by omega
              have k1 : (A0 : Int) + (q : Int) < (Q : Int) := by omega
              have w1' : IntKind.i64.wrap ((A0 : Int) + (q : Int)) = ((A0 + q : Nat) : Int) := by rw [IntKind.wrap_i64]; omega
              have hf : Below wr.heap.size wr (wr.alloc (.cells #[.int .i64 p, .int .i64 q, .int .i64 x, .int .i64 y] 46)) := (Below.refl _ _).alloc (Nat.le_refl _) _
              have HR3 : Hid (Mk7 w1 bx n (.slice (some ⟨g2, 0, none⟩) Q c2) (cellsM n (tab (lgs PP))) (wr.alloc (.cells #[.int .i64 p, .int .i64 q, .int .i64 x, .int .i64 y] 46)) ∧ LRow (wr.alloc (.cells #[.int .i64 p, .int .i64 q, .int .i64 x, .int .i64 y] 46)) B5 (.slice (some ⟨g1, 0, none⟩) LG.length vc5) LG) := ⟨HR2.out.1.later hf, HR2.out.2.later (Nat.le_refl _) hf⟩
              have hnew := heap_alloc_new wr (.cells #[.int .i64 p, .int .i64 q, .int .i64 x, .int .i64 y] 46)
              have xc' := (hf.cell (p := ⟨g2, A0 + q, none⟩) hgl).trans xc
              have xb' := (hf.cell (p := ⟨bx, 1, none⟩) HR2.out.1.lt).trans xb
              have e0 := cell_of_row _ wr.heap.size 0 _ _ _ hnew
              have e1 := cell_of_row _ wr.heap.size 1 _ _ _ hnew
              have ex2 : (wr.alloc (.cells #[.int .i64 p, .int .i64 q, .int .i64 x, .int .i64 y] 46)).cell? ⟨wr.heap.size, 2, none⟩ = some (.int .i64 x) := cell_of_row _ wr.heap.size 2 _ _ _ hnew
              simp only [List.getElem?_toArray, List.getElem?_cons_succ, List.getElem?_cons_zero] at e0 e1
              obtain ⟨e6, he6⟩ : ∃ e6, wr.heap.size = e6 := ⟨_, rfl⟩
              have HE6 := hide he6
              have nge : ¬ g2 = e6 := by rw [← he6]; omega
              rw [he6] at e0 e1 ex2
              have HGB : Hid (bx + 1 ≤ g2 ∧ g1 ≠ g2) := ⟨hgb, fun e => by
                have h1 := own_tag HR2.out.2 (g := g1) rfl
                have h2 := own_tag HR2.out.1.own (g := g2) rfl
                obtain ⟨_, h1⟩ := h1
                obtain ⟨_, h2⟩ := h2
                rw [e, h2] at h1
                simp at h1⟩
              have zf := HR3.out.1.own.frozen (A0 + q)
              clear hf hnew HR2 hPP hA0 ec hz hLi xc xb he6 hgb
              have x7 := (HX4.out.later HR3.out.1.f).g3.ml.c0
              go_wp2
              try rw [HE6.out]
              generalize wr.alloc (.cells #[.int .i64 p, .int .i64 q, .int .i64 x, .int .i64 y] 46) = W7 at HR3 xc' xb' e0 e1 ex2 zf x7 ⊢
              by_cases hz0 : z < 0
              · have HC1 := hide (HC.out.1 (.inl hz0) HNN.out)
                go_quiet (fail)
                go_wp2
                have HST : Hid (Mk7 w1 bx n (.slice (some ⟨g2, 0, none⟩) Q c2) (cellsM n (tab (lgs (LP ++ LG.take (i + 1))))) ((W7.drewN nq).setCell ⟨g2, A0 + q, none⟩ (.int .i64 x)) ∧ LRow ((W7.drewN nq).setCell ⟨g2, A0 + q, none⟩ (.int .i64 x)) B5 (.slice (some ⟨g1, 0, none⟩) LG.length vc5) LG) := by
                  have h1 := (HR3.out.1.later (Qu.below_drewN (Below.refl _ _) nq)).put (A0 + q) x
                  rw [HTK.out, HC1.out]
                  exact ⟨h1, own_of_block (HR3.out.2.later (Nat.le_refl _) (Qu.below_drewN (Below.refl _ _) nq)) fun k hk => heap_setCell_other _ _ _ _ (fun e => by cases hk; exact HGB.out.2 e)⟩
                go_roundw
                case rel => exact ⟨i + 1, by go_num, by omega, _, HST.out⟩
                case measure => simp [intOf]; omega
              · by_cases hxz : x < z
                · have HC1 := hide (HC.out.1 (.inr hxz) HNN.out)
                  have hz2 : decide (z < 0) = false := decide_eq_false hz0
                  go_quiet (fail)
                  go_wp2
                  have HST : Hid (Mk7 w1 bx n (.slice (some ⟨g2, 0, none⟩) Q c2) (cellsM n (tab (lgs (LP ++ LG.take (i + 1))))) ((W7.drewN nq).setCell ⟨g2, A0 + q, none⟩ (.int .i64 x)) ∧ LRow ((W7.drewN nq).setCell ⟨g2, A0 + q, none⟩ (.int .i64 x)) B5 (.slice (some ⟨g1, 0, none⟩) LG.length vc5) LG) := by
                    have h1 := (HR3.out.1.later (Qu.below_drewN (Below.refl _ _) nq)).put (A0 + q) x
                    rw [HTK.out, HC1.out]
                    exact ⟨h1, own_of_block (HR3.out.2.later (Nat.le_refl _) (Qu.below_drewN (Below.refl _ _) nq)) fun k hk => heap_setCell_other _ _ _ _ (fun e => by cases hk; exact HGB.out.2 e)⟩
                  go_roundw
                  case rel => exact ⟨i + 1, by go_num, by omega, _, HST.out⟩
                  case measure => simp [intOf]; omega
                · have HC1 := hide (HC.out.2 (fun e => e.elim hz0 hxz))
                  have hz2 : decide (z < 0) = false := decide_eq_false hz0
                  have hz3 : decide (x < z) = false := decide_eq_false hxz
                  go_quiet (fail)
                  go_wp2
                  have HST : Hid (Mk7 w1 bx n (.slice (some ⟨g2, 0, none⟩) Q c2) (cellsM n (tab (lgs (LP ++ LG.take (i + 1))))) (W7.drewN nq) ∧ LRow (W7.drewN nq) B5 (.slice (some ⟨g1, 0, none⟩) LG.length vc5) LG) := by
                    rw [HTK.out, HC1.out]
                    exact ⟨HR3.out.1.later (Qu.below_drewN (Below.refl _ _) nq), HR3.out.2.later (Nat.le_refl _) (Qu.below_drewN (Below.refl _ _) nq)⟩
                  go_roundw
                  case rel => exact ⟨i + 1, by go_num, by omega, _, HST.out⟩
                  case measure => simp [intOf]; omega
            · have e : i = LG.length := by omega
              have i3 : ¬ (i : Int) < (LG.length : Int) := by omega
              have HE : Hid (Mk7 w1 bx n v (cellsM n (tab (lgs (clL (upL n (upM K rk)) (p + 1))))) wr) := by
                have := HR2.out.1
                rw [e, List.take_of_length_le (Nat.le_refl _), ← HSU.out] at this
                exact this
              replace e := hide e
              clear HR2
              go_wp2
              go_roundw
              case rel => exact ⟨p + 1, v, by go_num, by omega, HE.out⟩
              case measure => simp [intOf]; omega
        · have e : p = n := by omega
          have i2 : ¬ (p : Int) < (n : Int) := by omega
          have HE : Hid (Mk7 w1 bx n v (cellsM n (upW K rk)) wr) := by
            have := HR.out
            rw [e, HEND.out] at this
            exact this
          obtain ⟨va, vc, rfl⟩ := HE.out.own.shape
          rw [cellsM_len, HQ.out] at HE
          have m0 := cell_of_row wr bx 0 _ _ _ HE.out.box
          have m1 := cell_of_row wr bx 1 _ _ _ HE.out.box
          simp only [List.getElem?_toArray, List.getElem?_cons_succ, List.getElem?_cons_zero] at m0 m1
          have HLS := hide (Pt.least_any HN.out HPOT.out.1 HPOT.out.2 (show IRow wr _ (.slice va Q vc) (cellsM n (upW K rk)) from HE.out.own))
          have HUW := hide (u_up HBD.out HN.out.2 HPP.out)
          replace e := hide e
          clear HR HEND HALL
          go_wp2_with (go_at_call 20; refine HLS.out.mono ?_; rintro e9 w9 ⟨v9, rfl, h1, h2⟩; obtain ⟨va9, vc9, rfl⟩ := h1.shape; have hb9 := (h2.block bx HE.out.lt).trans HE.out.box; have q0 := cell_of_row w9 bx 0 _ _ _ hb9; have q1 := cell_of_row w9 bx 1 _ _ _ hb9; have f0 := frozen_of_row w9 bx 0 _ _ hb9; have f1 := frozen_of_row w9 bx 1 _ _ hb9; simp only [List.getElem?_toArray, List.getElem?_cons_succ, List.getElem?_cons_zero] at q0 q1; have HB9 := hide hb9; have HI9 := hide (And.intro h1 h2); clear h1 h2 hb9)
          have HR9 : Hid (RkIn w1 bx n (.slice va9 (cellsM n (least n (upW K rk))).length vc9) (cellsM n (least n (upW K rk))) ((w9.setCell ⟨bx, 0, none⟩ (.int .i64 n)).setCell ⟨bx, 1, none⟩ (.slice va9 (cellsM n (least n (upW K rk))).length vc9))) := rkin_mk HE.out HI9.out.1 HI9.out.2 HBX.out rfl HB9.out
          have hzl := cellsM_len n (least n (upW K rk))
          rw [HQ.out] at hzl
          obtain ⟨g9, c9, hv9, _, _, _, _⟩ := HR9.out.own.form (by rw [hzl, ← HQ.out]; exact HQ0.out)
          injection hv9 with j1 j2 j3
          subst j1 j3
          rw [hzl] at HR9 ⊢
          have hlp : (rcP (sideD n (upM K rk) pp) n).length = (rcL (sideD n (upM K rk) pp) n).length := by simp [rcP]
          have hlm : (rcW (sideD n (upM K rk) pp) n).length = (rcL (sideD n (upM K rk) pp) n).length := by simp [rcW]
          have HRP : Hid (IRow w1 w3.heap.size (.slice pa (rcL (sideD n (upM K rk) pp) n).length pc) (rcP (sideD n (upM K rk) pp) n) ∧ IRow w1 w3.heap.size (.slice ma (rcL (sideD n (upM K rk) pp) n).length mc) (rcW (sideD n (upM K rk) pp) n)) := ⟨hlp ▸ H5.out.1, hlm ▸ H5.out.2.1⟩
          rw [hlp, hlm]
          have HLM := hide (And.intro hlp hlm)
          generalize hU : sideD n (upM K rk) pp = U at HRP HUW HLM HUO ⊢
          obtain ⟨L, hL⟩ : ∃ L, (rcL U n).length = L := ⟨_, rfl⟩
          have HL2' := hide hL
          have hLn : L ≤ n := by rw [← hL]; exact rcL_len U n
          rw [hL] at HRP HLM ⊢
          generalize hW9 : (w9.setCell ⟨bx, 0, none⟩ (.int .i64 n)).setCell ⟨bx, 1, none⟩ (.slice (some ⟨g9, 0, none⟩) Q vc9) = W9 at HR9 ⊢
          have HB10 := hide (HX4.out.later HR9.out.f).below
          have x0 := (HX4.out.later HR9.out.f).g3.ml.c0
          have xb := cell_of_row W9 bx 1 _ _ _ HR9.out.box
          simp only [List.getElem?_toArray, List.getElem?_cons_succ, List.getElem?_cons_zero] at xb
          have HRP9 := hide (And.intro (HRP.out.1.later (Nat.le_refl _) HR9.out.f) (HRP.out.2.later (Nat.le_refl _) HR9.out.f))
          obtain ⟨hmP, hmPb⟩ := mul_wrap (show pp ≤ 32 by have := HPP.out; have := HN.out; omega) HN.out.2
          obtain ⟨P, hP⟩ : ∃ P, pp * n = P := ⟨_, rfl⟩
          have HP := hide hP
          rw [hP] at hmP hmPb
          clear hzl j2 hlp hlm H5 HRP hU hL hW9 hP HE HLS HB9 HI9 q0 q1 f0 f1 m0 m1 hmulQ i1 i2
          go_loopw [21, 22] (fun vn vq wr => ∃ q : Nat, vn = .int .i64 (rcL U q).length ∧ vq = .int .i64 q ∧ q ≤ n ∧ wr = W9) (fun _ vq _ => n - (intOf vq).toNat)
          case atStart => exact ⟨0, rfl, rfl, Nat.zero_le _, rfl⟩
          case round =>
            obtain ⟨q, rfl, rfl, hq, rfl⟩ := hrel
            by_cases hqn : q < n
            · have iq : (q : Int) < (n : Int) := by omega
              have hlt := cell_lt HPP.out hqn
              rw [HP.out, HQ.out] at hlt
              have xc := HR9.out.own.cell (P + q) (by rw [cellsM_len, HQ.out]; exact hlt)
              rw [← HP.out, cellsM_at _ HPP.out hqn, HP.out] at xc
              have ik : (P : Int) + (q : Int) < (Q : Int) := by omega
              have iw : IntKind.i64.wrap ((P : Int) + (q : Int)) = ((P + q : Nat) : Int) := by rw [IntKind.wrap_i64]; omega
              have HUV := hide (HUW.out q hqn)
              rw [← HUV.out] at xc
              obtain ⟨C, hC⟩ : ∃ C, (rcL U q).length = C := ⟨_, rfl⟩
              have HCC := hide hC
              rw [hC]
              have hCq : C ≤ q := by rw [← hC]; exact rcL_len U q
              cases hu : U q with
              | none =>
                have HN1 := hide (rcL_none hu)
                rw [hu] at xc
                simp only [Option.getD_none] at xc
                replace hu := hide hu
                clear hC
                go_wp2
                go_roundw
                case rel => exact ⟨q + 1, by rw [HN1.out, HCC.out], by go_num, by omega, trivial⟩
                case measure => simp [intOf]; omega
              | some d =>
                have HN1 := hide (rcL_some hu)
                obtain ⟨k1, k2, k3⟩ := rcL_here hqn hu
                rw [hC, HL2'.out] at k1
                rw [hC] at k2 k3
                have hd0 : 0 ≤ d ∧ d ≤ 4294967296000000 := by
                  have h1 := HUO.out q d hu
                  exact h1.2
                rw [hu] at xc
                simp only [Option.getD_some] at xc
                obtain ⟨gp, cp, hvp, _, _, _, _⟩ := HRP9.out.1.form (by have := HLM.out; omega)
                obtain ⟨gm, cm, hvm, _, _, _, _⟩ := HRP9.out.2.form (by have := HLM.out; omega)
                injection hvp with q1 q2 q3
                injection hvm with q4 q5 q6
                subst q1 q3 q4 q6
                have xp := HRP9.out.1.cell C (by have := HLM.out; omega)
                have xm := HRP9.out.2.cell C (by have := HLM.out; omega)
                rw [k2] at xp
                rw [k3] at xm
                have g1 : decide ((L : Int) ≤ (C : Int)) = false := decide_eq_false (by omega)
                have g2 : decide (L ≤ C) = false := decide_eq_false (by omega)
                have g3 : ((q : Int) != (q : Int)) = false := by simp
                have g4 : (d != d) = false := by simp
                have g5 : decide (d < 0) = false := decide_eq_false (by omega)
                have iC : (C : Int) < (L : Int) := by omega
                have iC32 : C < 32 := by have := HN.out; omega
                replace hu := hide hu
                clear q2 q5 k2 k3 hC
                go_wp2
                go_roundw
                case rel => exact ⟨q + 1, by rw [HN1.out, List.length_append, HCC.out]; go_num, by go_num, by omega, trivial⟩
                case measure => simp [intOf]; omega
            · have hqe : q = n := by omega
              have z1 : ((L : Int) == (L : Int)) = true := by simp
              subst hqe
              rw [HL2'.out]
              go_wp2
              go_ret
              exact ⟨rfl, HB10.out⟩

set_option maxRecDepth 100000 in
set_option maxHeartbeats 12800000 in
theorem rea_dn_good (n : Nat) (a : Option Addr) (m c : Nat) (A : List Arc) (pp : Nat) (hpp : pp < n) (w : World) (h : ArcsAt w a m A) (hc : a = none → c = 0) (hm : m ≤ 300) (he : (checkM n A).2 = 0) :
    Calls Tryz.prog 5 #[.agg #[.int .i64 n, .slice a m c], .int .i64 pp, .bool false] w fun e w' => e = .returned (.bool true) ∧ Below w.heap.size w w' := by
  obtain ⟨hn0, hl, hok⟩ := checkM_ok he
  have hn : 1 ≤ n ∧ n ≤ 32 := by omega
  have HN := hide hn
  have HM := hide (mt_pos he false)
  have HWO : Hid (WOk n (tab (legsM (mtM false) A))) := fun p q x _ _ hx => tab_pos HM.out p q x hx
  have HLP : Hid (∀ a, a < n → tab (legsM (mtM false) A) a a = none) := fun a _ => tab_loop _ _ a
  have HS := hide (rin_start w n a m c A h)
  have HGR := hide (fun (w' : World) (h' : ArcsAt w' a m A) => graph_good n a m c A false w' h' hc hm he)
  obtain ⟨Q, hQ⟩ : ∃ Q, n * n = Q := ⟨_, rfl⟩
  have HQ := hide hQ
  have hQb : Q ≤ 1024 := by rw [← hQ]; exact (mul_wrap hn.2 hn.2).2
  have HQ0 : Hid (0 < n * n) := Nat.mul_pos (by omega) (by omega)
  clear h hc he hn0 hok hQ
  generalize tab (legsM (mtM false) A) = W at HWO HGR HLP
  have HL1 : Hid ((cellsM n W).length = Q) := (cellsM_len n W).trans HQ.out
  have HL2 : Hid ((cellsM n (least n W)).length = Q) := (cellsM_len n (least n W)).trans HQ.out
  go_enter Tryz.func5, Tryz.ntmps5
  go_wp2_with (first
    | (go_at_call 9; refine (awake8_any _).mono ?_; rintro e w1 ⟨rfl, h1⟩; have H1 := hide (HS.out.later h1); have c0 := H1.out.c0; have c1 := H1.out.c1; clear h1)
    | (go_at_call 10; refine (HGR.out _ H1.out.arcs).mono ?_; rintro e w2 ⟨g, vt, vl, rfl, h2, h3, h4, h5⟩; obtain ⟨tg, tc, rfl, _⟩ := h3.form (by rw [cellsM_len]; exact HQ0.out); obtain ⟨lg, lc, rfl, _⟩ := h4.form (by rw [cellsM_len]; exact HQ0.out); rw [HL1.out] at h3 ⊢; rw [HL2.out] at h4 ⊢; have H3 := hide (g3_mk (H1.out.later h5) h2 h3 h4 HQ.out); clear h2 h3 h4 h5)
    | (go_at_call 11; refine (build_any H3.out.gr HN.out HWO.out HLP.out).mono ?_; rintro e w3 ⟨bb, rfl, K, rk, Q9, rv, h1, h2, _, h4⟩; have HBD := hide h1; have H4 : Hid (L7 w.heap.size w n a m c A g W w2.heap.size tg tc lg lc Q bb rv (upM K rk) (dnM K rk) w3) := ⟨H3.out.later h4, h2⟩; clear h1 h2 h4))
  obtain ⟨b1, hb1⟩ : ∃ b, w2.heap.size = b := ⟨_, rfl⟩
  rw [hb1] at H4
  try rw [hb1]
  clear H1 H3 hb1 c0 c1
  have HPP := hide hpp
  clear hpp
  go_wp2_with (go_at_call 17; refine (reach_dn_any H4.out.lf HN.out.2 HBD.out HPP.out).mono ?_; rintro e w4 ⟨vp, vm, rfl, h1, h2, h3⟩; obtain ⟨pa, pc, rfl⟩ := h1.shape; obtain ⟨ma, mc, rfl⟩ := h2.shape; have H5 := hide (And.intro h1 (And.intro h2 (H4.out.later h3))); have x0 := H5.out.2.2.g3.ml.c0; have ip : (pp : Int) < (n : Int) := (by have := HPP.out; omega); have ig : decide ((n : Int) ≤ (pp : Int)) = false := decide_eq_false (by omega); have ig2 : decide (n ≤ pp) = false := decide_eq_false (by have := HPP.out; omega); have in0 : decide ((pp : Int) < 0) = false := decide_eq_false (by omega); clear h1 h2 h3)
  have HUO := hide (sideD_ok (eok_dn HBD.out HN.out.2) HPP.out)
  have HX4 := hide H5.out.2.2
  have HL := hide HX4.out.lf
  have HPOT := hide (pot_dn HBD.out HN.out.2)
  have HEND := hide (cl_dn HBD.out)
  have HALL : Hid (∀ k p, p ≤ n → k ∈ clL (dnL n (dnM K rk)) p → 0 ≤ k.2.2.1 ∧ k.2.2.1 ≤ 4294967296000000) := fun k p hp hk => by
    obtain ⟨r, hr, hk⟩ := mem_clL.1 hk
    exact HBD.out.lft.bound HN.out.2 _ _ _ _ (dn_mem HBD.out hk).2.2.2
  obtain ⟨i0, hi0, hy0, hy1, hy2⟩ := info_parts info3
  have HI := hide (And.intro hi0 (And.intro hy0 (And.intro hy1 hy2)))
  obtain ⟨hmulQ, _⟩ := mul_wrap hn.2 hn.2
  rw [HQ.out] at hmulQ
  have HS0 := hide (mk7_start w4 n)
  obtain ⟨w1, hw1⟩ : ∃ w1, w4 = w1 := ⟨_, rfl⟩
  rw [hw1] at HS0 H5 HX4 HL
  try rw [hw1]
  clear hi0 hy0 hy1 hy2 H4 hw1 x0
  generalize hbx : w1.heap.size = bx at HS0 ⊢
  generalize w1.alloc (.cells #[.int .i64 n, .slice none 0 0] 29) = W0 at HS0 ⊢
  have HBX := hide hbx
  clear hbx
  go_loopw [15] (fun vi wr => ∃ (i : Nat) (v : Value), vi = .int .i64 i ∧ i ≤ Q ∧ Hid (Mk7 w1 bx n v (List.replicate i (-1)) wr)) (fun vi _ => Q - (intOf vi).toNat)
  case atStart => exact ⟨0, _, rfl, Nat.zero_le _, HS0.out⟩
  case round =>
    clear HS0
    obtain ⟨i, v, rfl, hi, HR⟩ := hrel
    have r2 := cell_of_row wr bx 1 _ _ _ HR.out.box
    have f2 := frozen_of_row wr bx 1 _ _ HR.out.box
    simp only [List.getElem?_toArray, List.getElem?_cons_succ, List.getElem?_cons_zero] at r2
    have x0 := (HX4.out.later HR.out.f).g3.ml.c0
    by_cases hlt : i < Q
    · have i1 : (i : Int) < (Q : Int) := by omega
      have hBz := HR.out.lt
      have HOW : Hid ((wr.alloc (.cells #[.int .i64 (-1)] 3)).ownsRow (bx + 1) 3 1 v (List.replicate i (-1)).length (intsV (List.replicate i (-1)))) := HR.out.own.alloc _
      rw [List.length_replicate] at HOW
      have HNW : Hid (∀ j u, [Value.int .i64 (-1)][j]? = some u → (wr.alloc (.cells #[.int .i64 (-1)] 3)).cell? ((⟨wr.heap.size, 0, none⟩ : Addr).add j) = some u) := World.news_of_block (cs := #[.int .i64 (-1)]) (t := 3) (fr := (0, 0)) (heap_alloc_new _ _)
      go_wp2_with (at_builtin; refine wpList_append_lies _ rfl (.tmp 73) (.tmp 74) 27 rfl (bx + 1) 3 i0 (.int .i64 0) 1 8 Tryz.underlying27 HI.out.1 HI.out.2.1 HI.out.2.2.1 HI.out.2.2.2 rfl (by decide) v i (intsV (List.replicate i (-1))) rfl HOW.out ⟨wr.heap.size, 0, none⟩ 1 1 [.int .i64 (-1)] rfl rfl HNW.out (by simp [Value.oneCell']) (by decide) (by unfold maxLen; omega) (by omega) (by simp; omega) (wr.heap.size + 1) (by simp) ?_)
      intro gg cap w3 hown1 hgrow hat hlt3
      have HST : Hid (Mk7 w1 bx n (.slice (some ⟨gg, 0, none⟩) (i + 1) cap) (List.replicate (i + 1) (-1)) (w3.setCell ⟨bx, 1, none⟩ (.slice (some ⟨gg, 0, none⟩) (i + 1) cap))) := by
        have := HR.out.more (.cells #[.int .i64 (-1)] 3) rfl (-1) (g := gg) (cap := cap) (w3 := w3) (by rw [List.length_replicate]; exact hown1) hgrow
        rw [rep_snoc, List.length_replicate] at this
        exact this
      have f3 : w3.frozen? ⟨bx, 1, none⟩ = false := by
        have := frozen_of_row _ bx 1 _ _ HST.out.box
        rw [World.frozen?_setCell] at this
        exact this
      have c3 : ∃ u, w3.cell? ⟨bx, 1, none⟩ = some u := by
        rw [hgrow.cell_far ⟨bx, 1, none⟩ (by show bx < _; simp; omega) (fun e => by have : bx + 1 ≤ bx := (HOW.out.lt _ e.symm).1; omega), World.cell?_alloc_lt _ _ _ (by show bx < _; omega)]
        exact ⟨_, r2⟩
      obtain ⟨u3, c3⟩ := c3
      clear hown1 hgrow hat HR
      go_wp2
      go_roundw
      case rel => exact ⟨i + 1, _, by go_num, by omega, HST.out⟩
      case measure => simp [intOf]; omega
    · have hiQ : i = Q := by omega
      have i1 : ¬ (i : Int) < (Q : Int) := by omega
      have HS1 : Hid (Mk7 w1 bx n v (cellsM n (tab (lgs []))) wr) := by
        show Mk7 _ _ _ _ _ _
        rw [show lgs [] = [] from rfl, cellsM_none, HQ.out, ← hiQ]
        exact HR.out
      replace hiQ := hide hiQ
      clear HR r2 f2
      go_wp2
      go_loopw [16] (fun vi wr => ∃ (p : Nat) (v : Value), vi = .int .i64 p ∧ p ≤ n ∧ Hid (Mk7 w1 bx n v (cellsM n (tab (lgs (clL (dnL n (dnM K rk)) p)))) wr)) (fun vi _ => n - (intOf vi).toNat)
      case atStart => exact ⟨0, _, rfl, Nat.zero_le _, HS1.out⟩
      case round =>
        clear HS1
        obtain ⟨p, v, rfl, hp, HR⟩ := hrel
        have x0 := (HX4.out.later HR.out.f).g3.ml.c0
        by_cases hpn : p < n
        · have i2 : (p : Int) < (n : Int) := by omega
          have HPN := hide hpn
          have hp32 : p < 32 := by have := HN.out.2; omega
          have HMEM : Hid (∀ i, i < (dnL n (dnM K rk) p).length → ∃ (q : Nat) (x y : Int), q < n ∧ (dnL n (dnM K rk) p)[i]! = (q, p, (x, y)) ∧ 0 ≤ x ∧ x ≤ 4294967296000000) := fun i hi => by
            have hm : (dnL n (dnM K rk) p)[i]! ∈ dnL n (dnM K rk) p := by rw [getElem!_pos _ i hi]; exact List.getElem_mem hi
            obtain ⟨e1, e2, _, e4⟩ := dn_mem HBD.out hm
            refine ⟨(dnL n (dnM K rk) p)[i]!.1, (dnL n (dnM K rk) p)[i]!.2.2.1, (dnL n (dnM K rk) p)[i]!.2.2.2, e2, ?_, ?_⟩
            · generalize (dnL n (dnM K rk) p)[i]! = k at e1
              obtain ⟨k1, k2, k3, k4⟩ := k
              simp only at e1 ⊢
              rw [e1]
            · exact HBD.out.lft.bound HN.out.2 _ _ _ _ e4
          clear x0
          have x0 := (HX4.out.later HR.out.f).g3.ml.c0
          have HLE := hide (dnL_len n _ p : (dnL n (dnM K rk) p).length ≤ n)
          have HSU := hide (clL_succ (dnL n (dnM K rk)) p)
          have HCL : Hid (∀ k ∈ clL (dnL n (dnM K rk)) p, 0 ≤ k.2.2.1 ∧ k.2.2.1 ≤ 4294967296000000) := fun k hk => HALL.out k p (Nat.le_of_lt HPN.out) hk
          go_wp2_with (first
            | (go_at_call 19; refine (ldown_any (HL.out.later (HR.out.later HD5.out.2).f) HN.out.2 HPN.out).mono ?_; rintro e w6 ⟨v6, rfl, h1, h2⟩; have HD6 := hide (And.intro h1 h2); obtain ⟨va6, vc6, rfl⟩ := h1.shape; clear h1 h2)
            | (go_at_call 18; refine (lup_any (HL.out.later HR.out.f) HN.out.2 HPN.out).mono ?_; rintro e w5 ⟨v5, rfl, h1, h2⟩; have HD5 := hide (And.intro h1 h2); obtain ⟨va5, vc5, rfl⟩ := h1.shape; clear h1 h2))
          have HS2 : Hid (Mk7 w1 bx n v (cellsM n (tab (lgs (clL (dnL n (dnM K rk)) p ++ (dnL n (dnM K rk) p).take 0)))) w6 ∧ LRow w6 w5.heap.size (.slice va6 (dnL n (dnM K rk) p).length vc6) (dnL n (dnM K rk) p)) := ⟨by rw [List.take_zero, List.append_nil]; exact (HR.out.later HD5.out.2).later HD6.out.2, HD6.out.1⟩
          generalize hLP : clL (dnL n (dnM K rk)) p = LP at HS2 HSU HCL
          generalize hLG : dnL n (dnM K rk) p = LG at HS2 HSU HMEM HLE ⊢
          obtain ⟨B5, hB5⟩ : ∃ B, w5.heap.size = B := ⟨_, rfl⟩
          rw [hB5] at HS2
          clear HR HD5 HD6 hB5 hLP hLG
          go_wp2
          go_loopw [93] (fun vi wr => ∃ i : Nat, vi = .int .i64 i ∧ i ≤ LG.length ∧ Hid (∃ v, Mk7 w1 bx n v (cellsM n (tab (lgs (LP ++ LG.take i)))) wr ∧ LRow wr B5 (.slice va6 LG.length vc6) LG)) (fun vi _ => LG.length - (intOf vi).toNat)
          case atStart => exact ⟨0, rfl, Nat.zero_le _, _, HS2.out⟩
          case round =>
            clear HS2
            obtain ⟨i, rfl, hi, HR⟩ := hrel
            obtain ⟨v, hR⟩ := HR.out
            have HR2 := hide hR
            clear hR HR
            by_cases hil : i < LG.length
            · obtain ⟨q, x, y, hq, hLi, hx0, hxM⟩ := HMEM.out i hil
              obtain ⟨g1, c1, hv, _, _, _, _⟩ := HR2.out.2.form (by omega)
              injection hv with j1 j2 j3
              subst j1 j3
              clear j2
              obtain ⟨y0, y1, y2, y3⟩ := HR2.out.2.cells i hil
              rw [hLi] at y0 y1 y2 y3
              simp only at y0 y1 y2 y3
              have HTK : Hid (LP ++ LG.take (i + 1) = (LP ++ LG.take i) ++ [(q, p, (x, y))]) := by show _ = _; rw [take_snoc hil, hLi, List.append_assoc]
              have HPB : Hid (∀ k ∈ LP ++ LG.take i, 0 ≤ k.2.2.1 ∧ k.2.2.1 ≤ 4294967296000000) := fun k hk => by
                rcases List.mem_append.1 hk with hk | hk
                · exact HCL.out k hk
                · obtain ⟨j, hj, e⟩ := List.mem_iff_getElem.1 (List.mem_of_mem_take hk)
                  obtain ⟨q', x', y', _, e2, e3⟩ := HMEM.out j hj
                  rw [← e, ← getElem!_pos LG j hj, e2]
                  exact e3
              generalize hPP : LP ++ LG.take i = PP at HR2 HTK HPB
              have hcb := cv_lgs HPB.out q p
              have HC := hide (lgs_cells (n := n) (P := PP) (a := q) (c := p) (x := x) (y := y) HPN.out)
              obtain ⟨hmul, hmb⟩ := mul_wrap (show q ≤ 32 by have := HN.out.2; omega) HN.out.2
              obtain ⟨A0, hA0⟩ : ∃ A0, q * n = A0 := ⟨_, rfl⟩
              have l1 := cell_lt (show q < n by exact hq) (show p < n by exact HPN.out)
              rw [hA0] at hmul hmb l1 HC
              rw [HQ.out] at l1
              obtain ⟨g2, c2, hv2, hgb, hgl, _, _⟩ := HR2.out.1.own.form (by rw [cellsM_len, HQ.out]; omega)
              rw [cellsM_len, HQ.out] at hv2
              subst hv2
              have ec : (cellsM n (tab (lgs PP)))[A0 + p]! = cv (tab (lgs PP) q p) := by rw [← hA0]; exact cellsM_at _ (show q < n by exact hq) (show p < n by exact HPN.out)
              have xc := HR2.out.1.own.cell (A0 + p) (by rw [cellsM_len, HQ.out]; exact l1)
              rw [ec] at xc
              have xb := cell_of_row wr bx 1 _ _ _ HR2.out.1.box
              simp only [List.getElem?_toArray, List.getElem?_cons_succ, List.getElem?_cons_zero] at xb
              have HNN : Hid (∀ v, tab (lgs PP) q p = some v → 0 ≤ v) := lgs_pos (fun k hk => (HPB.out k hk).1) _ _
              generalize hz : cv (tab (lgs PP) q p) = z at xc hcb HC
              have i3 : (i : Int) < (LG.length : Int) := by omega
              have k1 : (A0 : Int) + (p : Int) < (Q : Int) := by omega
              have w1' : IntKind.i64.wrap ((A0 : Int) + (p : Int)) = ((A0 + p : Nat) : Int) := by rw [IntKind.wrap_i64]; omega
              have hf : Below wr.heap.size wr (wr.alloc (.cells #[.int .i64 q, .int .i64 p, .int .i64 x, .int .i64 y] 46)) := (Below.refl _ _).alloc (Nat.le_refl _) _
              have HR3 : Hid (Mk7 w1 bx n (.slice (some ⟨g2, 0, none⟩) Q c2) (cellsM n (tab (lgs PP))) (wr.alloc (.cells #[.int .i64 q, .int .i64 p, .int .i64 x, .int .i64 y] 46)) ∧ LRow (wr.alloc (.cells #[.int .i64 q, .int .i64 p, .int .i64 x, .int .i64 y] 46)) B5 (.slice (some ⟨g1, 0, none⟩) LG.length vc6) LG) := ⟨HR2.out.1.later hf, HR2.out.2.later (Nat.le_refl _) hf⟩
              have hnew := heap_alloc_new wr (.cells #[.int .i64 q, .int .i64 p, .int .i64 x, .int .i64 y] 46)
              have xc' := (hf.cell (p := ⟨g2, A0 + p, none⟩) hgl).trans xc
              have xb' := (hf.cell (p := ⟨bx, 1, none⟩) HR2.out.1.lt).trans xb
              have e0 := cell_of_row _ wr.heap.size 0 _ _ _ hnew
              have e1 := cell_of_row _ wr.heap.size 1 _ _ _ hnew
              have ex2 : (wr.alloc (.cells #[.int .i64 q, .int .i64 p, .int .i64 x, .int .i64 y] 46)).cell? ⟨wr.heap.size, 2, none⟩ = some (.int .i64 x) := cell_of_row _ wr.heap.size 2 _ _ _ hnew
              simp only [List.getElem?_toArray, List.getElem?_cons_succ, List.getElem?_cons_zero] at e0 e1
              obtain ⟨e6, he6⟩ : ∃ e6, wr.heap.size = e6 := ⟨_, rfl⟩
              have HE6 := hide he6
              have nge : ¬ g2 = e6 := by rw [← he6]; omega
              rw [he6] at e0 e1 ex2
              have HGB : Hid (bx + 1 ≤ g2 ∧ g1 ≠ g2) := ⟨hgb, fun e => by
                have h1 := own_tag HR2.out.2 (g := g1) rfl
                have h2 := own_tag HR2.out.1.own (g := g2) rfl
                obtain ⟨_, h1⟩ := h1
                obtain ⟨_, h2⟩ := h2
                rw [e, h2] at h1
                simp at h1⟩
              have zf := HR3.out.1.own.frozen (A0 + p)
              clear hf hnew HR2 hPP hA0 ec hz hLi xc xb he6 hgb
              have x7 := (HX4.out.later HR3.out.1.f).g3.ml.c0
              go_wp2
              try rw [HE6.out]
              generalize wr.alloc (.cells #[.int .i64 q, .int .i64 p, .int .i64 x, .int .i64 y] 46) = W7 at HR3 xc' xb' e0 e1 ex2 zf x7 ⊢
              by_cases hz0 : z < 0
              · have HC1 := hide (HC.out.1 (.inl hz0) HNN.out)
                go_quiet (fail)
                go_wp2
                have HST : Hid (Mk7 w1 bx n (.slice (some ⟨g2, 0, none⟩) Q c2) (cellsM n (tab (lgs (LP ++ LG.take (i + 1))))) ((W7.drewN nq).setCell ⟨g2, A0 + p, none⟩ (.int .i64 x)) ∧ LRow ((W7.drewN nq).setCell ⟨g2, A0 + p, none⟩ (.int .i64 x)) B5 (.slice (some ⟨g1, 0, none⟩) LG.length vc6) LG) := by
                  have h1 := (HR3.out.1.later (Qu.below_drewN (Below.refl _ _) nq)).put (A0 + p) x
                  rw [HTK.out, HC1.out]
                  exact ⟨h1, own_of_block (HR3.out.2.later (Nat.le_refl _) (Qu.below_drewN (Below.refl _ _) nq)) fun k hk => heap_setCell_other _ _ _ _ (fun e => by cases hk; exact HGB.out.2 e)⟩
                go_roundw
                case rel => exact ⟨i + 1, by go_num, by omega, _, HST.out⟩
                case measure => simp [intOf]; omega
              · by_cases hxz : x < z
                · have HC1 := hide (HC.out.1 (.inr hxz) HNN.out)
                  have hz2 : decide (z < 0) = false := decide_eq_false hz0
                  go_quiet (fail)
                  go_wp2
                  have HST : Hid (Mk7 w1 bx n (.slice (some ⟨g2, 0, none⟩) Q c2) (cellsM n (tab (lgs (LP ++ LG.take (i + 1))))) ((W7.drewN nq).setCell ⟨g2, A0 + p, none⟩ (.int .i64 x)) ∧ LRow ((W7.drewN nq).setCell ⟨g2, A0 + p, none⟩ (.int .i64 x)) B5 (.slice (some ⟨g1, 0, none⟩) LG.length vc6) LG) := by
                    have h1 := (HR3.out.1.later (Qu.below_drewN (Below.refl _ _) nq)).put (A0 + p) x
                    rw [HTK.out, HC1.out]
                    exact ⟨h1, own_of_block (HR3.out.2.later (Nat.le_refl _) (Qu.below_drewN (Below.refl _ _) nq)) fun k hk => heap_setCell_other _ _ _ _ (fun e => by cases hk; exact HGB.out.2 e)⟩
                  go_roundw
                  case rel => exact ⟨i + 1, by go_num, by omega, _, HST.out⟩
                  case measure => simp [intOf]; omega
                · have HC1 := hide (HC.out.2 (fun e => e.elim hz0 hxz))
                  have hz2 : decide (z < 0) = false := decide_eq_false hz0
                  have hz3 : decide (x < z) = false := decide_eq_false hxz
                  go_quiet (fail)
                  go_wp2
                  have HST : Hid (Mk7 w1 bx n (.slice (some ⟨g2, 0, none⟩) Q c2) (cellsM n (tab (lgs (LP ++ LG.take (i + 1))))) (W7.drewN nq) ∧ LRow (W7.drewN nq) B5 (.slice (some ⟨g1, 0, none⟩) LG.length vc6) LG) := by
                    rw [HTK.out, HC1.out]
                    exact ⟨HR3.out.1.later (Qu.below_drewN (Below.refl _ _) nq), HR3.out.2.later (Nat.le_refl _) (Qu.below_drewN (Below.refl _ _) nq)⟩
                  go_roundw
                  case rel => exact ⟨i + 1, by go_num, by omega, _, HST.out⟩
                  case measure => simp [intOf]; omega
            · have e : i = LG.length := by omega
              have i3 : ¬ (i : Int) < (LG.length : Int) := by omega
              have HE : Hid (Mk7 w1 bx n v (cellsM n (tab (lgs (clL (dnL n (dnM K rk)) (p + 1))))) wr) := by
                have := HR2.out.1
                rw [e, List.take_of_length_le (Nat.le_refl _), ← HSU.out] at this
                exact this
              replace e := hide e
              clear HR2
              go_wp2
              go_roundw
              case rel => exact ⟨p + 1, v, by go_num, by omega, HE.out⟩
              case measure => simp [intOf]; omega
        · have e : p = n := by omega
          have i2 : ¬ (p : Int) < (n : Int) := by omega
          have HE : Hid (Mk7 w1 bx n v (cellsM n (dnW K rk)) wr) := by
            have := HR.out
            rw [e, HEND.out] at this
            exact this
          obtain ⟨va, vc, rfl⟩ := HE.out.own.shape
          rw [cellsM_len, HQ.out] at HE
          have m0 := cell_of_row wr bx 0 _ _ _ HE.out.box
          have m1 := cell_of_row wr bx 1 _ _ _ HE.out.box
          simp only [List.getElem?_toArray, List.getElem?_cons_succ, List.getElem?_cons_zero] at m0 m1
          have HLS := hide (Pt.least_any HN.out HPOT.out.1 HPOT.out.2 (show IRow wr _ (.slice va Q vc) (cellsM n (dnW K rk)) from HE.out.own))
          have HUW := hide (u_dn HBD.out HN.out.2 HPP.out)
          replace e := hide e
          clear HR HEND HALL
          go_wp2_with (go_at_call 20; refine HLS.out.mono ?_; rintro e9 w9 ⟨v9, rfl, h1, h2⟩; obtain ⟨va9, vc9, rfl⟩ := h1.shape; have hb9 := (h2.block bx HE.out.lt).trans HE.out.box; have q0 := cell_of_row w9 bx 0 _ _ _ hb9; have q1 := cell_of_row w9 bx 1 _ _ _ hb9; have f0 := frozen_of_row w9 bx 0 _ _ hb9; have f1 := frozen_of_row w9 bx 1 _ _ hb9; simp only [List.getElem?_toArray, List.getElem?_cons_succ, List.getElem?_cons_zero] at q0 q1; have HB9 := hide hb9; have HI9 := hide (And.intro h1 h2); clear h1 h2 hb9)
          have HR9 : Hid (RkIn w1 bx n (.slice va9 (cellsM n (least n (dnW K rk))).length vc9) (cellsM n (least n (dnW K rk))) ((w9.setCell ⟨bx, 0, none⟩ (.int .i64 n)).setCell ⟨bx, 1, none⟩ (.slice va9 (cellsM n (least n (dnW K rk))).length vc9))) := rkin_mk HE.out HI9.out.1 HI9.out.2 HBX.out rfl HB9.out
          have hzl := cellsM_len n (least n (dnW K rk))
          rw [HQ.out] at hzl
          obtain ⟨g9, c9, hv9, _, _, _, _⟩ := HR9.out.own.form (by rw [hzl, ← HQ.out]; exact HQ0.out)
          injection hv9 with j1 j2 j3
          subst j1 j3
          rw [hzl] at HR9 ⊢
          have hlp : (rcP (sideD n (dnE K rk) pp) n).length = (rcL (sideD n (dnE K rk) pp) n).length := by simp [rcP]
          have hlm : (rcW (sideD n (dnE K rk) pp) n).length = (rcL (sideD n (dnE K rk) pp) n).length := by simp [rcW]
          have HRP : Hid (IRow w1 w3.heap.size (.slice pa (rcL (sideD n (dnE K rk) pp) n).length pc) (rcP (sideD n (dnE K rk) pp) n) ∧ IRow w1 w3.heap.size (.slice ma (rcL (sideD n (dnE K rk) pp) n).length mc) (rcW (sideD n (dnE K rk) pp) n)) := ⟨hlp ▸ H5.out.1, hlm ▸ H5.out.2.1⟩
          rw [hlp, hlm]
          have HLM := hide (And.intro hlp hlm)
          generalize hU : sideD n (dnE K rk) pp = U at HRP HUW HLM HUO ⊢
          obtain ⟨L, hL⟩ : ∃ L, (rcL U n).length = L := ⟨_, rfl⟩
          have HL2' := hide hL
          have hLn : L ≤ n := by rw [← hL]; exact rcL_len U n
          rw [hL] at HRP HLM ⊢
          generalize hW9 : (w9.setCell ⟨bx, 0, none⟩ (.int .i64 n)).setCell ⟨bx, 1, none⟩ (.slice (some ⟨g9, 0, none⟩) Q vc9) = W9 at HR9 ⊢
          have HB10 := hide (HX4.out.later HR9.out.f).below
          have x0 := (HX4.out.later HR9.out.f).g3.ml.c0
          have xb := cell_of_row W9 bx 1 _ _ _ HR9.out.box
          simp only [List.getElem?_toArray, List.getElem?_cons_succ, List.getElem?_cons_zero] at xb
          have HRP9 := hide (And.intro (HRP.out.1.later (Nat.le_refl _) HR9.out.f) (HRP.out.2.later (Nat.le_refl _) HR9.out.f))
          obtain ⟨hmP, hmPb⟩ := mul_wrap (show pp ≤ 32 by have := HPP.out; have := HN.out; omega) HN.out.2
          obtain ⟨P, hP⟩ : ∃ P, pp * n = P := ⟨_, rfl⟩
          have HP := hide hP
          rw [hP] at hmP hmPb
          clear hzl j2 hlp hlm H5 HRP hU hL hW9 hP HE HLS HB9 HI9 q0 q1 f0 f1 m0 m1 hmulQ i1 i2
          go_loopw [21, 22] (fun vn vq wr => ∃ q : Nat, vn = .int .i64 (rcL U q).length ∧ vq = .int .i64 q ∧ q ≤ n ∧ wr = W9) (fun _ vq _ => n - (intOf vq).toNat)
          case atStart => exact ⟨0, rfl, rfl, Nat.zero_le _, rfl⟩
          case round =>
            obtain ⟨q, rfl, rfl, hq, rfl⟩ := hrel
            by_cases hqn : q < n
            · have iq : (q : Int) < (n : Int) := by omega
              have hlt := cell_lt HPP.out hqn
              rw [HP.out, HQ.out] at hlt
              have xc := HR9.out.own.cell (P + q) (by rw [cellsM_len, HQ.out]; exact hlt)
              rw [← HP.out, cellsM_at _ HPP.out hqn, HP.out] at xc
              have ik : (P : Int) + (q : Int) < (Q : Int) := by omega
              have iw : IntKind.i64.wrap ((P : Int) + (q : Int)) = ((P + q : Nat) : Int) := by rw [IntKind.wrap_i64]; omega
              have HUV := hide (HUW.out q hqn)
              have hlt2 := cell_lt hqn HPP.out
              obtain ⟨hm2, hm2b⟩ := mul_wrap (show q ≤ 32 by have := HN.out; omega) HN.out.2
              obtain ⟨P2, hP2⟩ : ∃ P2, q * n = P2 := ⟨_, rfl⟩
              have xc2 := HR9.out.own.cell (q * n + pp) (by rw [cellsM_len]; exact hlt2)
              rw [cellsM_at _ hqn HPP.out, ← HUV.out, hP2] at xc2
              rw [hP2] at hm2 hm2b hlt2
              rw [HQ.out] at hlt2
              have ik2 : (P2 : Int) + (pp : Int) < (Q : Int) := by omega
              have iw2 : IntKind.i64.wrap ((P2 : Int) + (pp : Int)) = ((P2 + pp : Nat) : Int) := by rw [IntKind.wrap_i64]; omega
              clear hP2
              generalize (least n (dnW K rk) pp q).getD (-1) = z9 at xc
              obtain ⟨C, hC⟩ : ∃ C, (rcL U q).length = C := ⟨_, rfl⟩
              have HCC := hide hC
              rw [hC]
              have hCq : C ≤ q := by rw [← hC]; exact rcL_len U q
              cases hu : U q with
              | none =>
                have HN1 := hide (rcL_none hu)
                rw [hu] at xc2
                simp only [Option.getD_none] at xc2
                replace hu := hide hu
                clear hC
                go_wp2
                go_roundw
                case rel => exact ⟨q + 1, by rw [HN1.out, HCC.out], by go_num, by omega, trivial⟩
                case measure => simp [intOf]; omega
              | some d =>
                have HN1 := hide (rcL_some hu)
                obtain ⟨k1, k2, k3⟩ := rcL_here hqn hu
                rw [hC, HL2'.out] at k1
                rw [hC] at k2 k3
                have hd0 : 0 ≤ d ∧ d ≤ 4294967296000000 := by
                  have h1 := HUO.out q d hu
                  exact h1.2
                rw [hu] at xc2
                simp only [Option.getD_some] at xc2
                obtain ⟨gp, cp, hvp, _, _, _, _⟩ := HRP9.out.1.form (by have := HLM.out; omega)
                obtain ⟨gm, cm, hvm, _, _, _, _⟩ := HRP9.out.2.form (by have := HLM.out; omega)
                injection hvp with q1 q2 q3
                injection hvm with q4 q5 q6
                subst q1 q3 q4 q6
                have xp := HRP9.out.1.cell C (by have := HLM.out; omega)
                have xm := HRP9.out.2.cell C (by have := HLM.out; omega)
                rw [k2] at xp
                rw [k3] at xm
                have g1 : decide ((L : Int) ≤ (C : Int)) = false := decide_eq_false (by omega)
                have g2 : decide (L ≤ C) = false := decide_eq_false (by omega)
                have g3 : ((q : Int) != (q : Int)) = false := by simp
                have g4 : (d != d) = false := by simp
                have g5 : decide (d < 0) = false := decide_eq_false (by omega)
                have iC : (C : Int) < (L : Int) := by omega
                have iC32 : C < 32 := by have := HN.out; omega
                replace hu := hide hu
                clear q2 q5 k2 k3 hC
                go_wp2
                go_roundw
                case rel => exact ⟨q + 1, by rw [HN1.out, List.length_append, HCC.out]; go_num, by go_num, by omega, trivial⟩
                case measure => simp [intOf]; omega
            · have hqe : q = n := by omega
              have z1 : ((L : Int) == (L : Int)) = true := by simp
              subst hqe
              rw [HL2'.out]
              go_wp2
              go_ret
              exact ⟨rfl, HB10.out⟩

set_option maxRecDepth 100000 in
set_option maxHeartbeats 1600000 in
theorem reaches_bad (n : Int) (a : Option Addr) (m c : Nat) (A : List Arc) (pp : Int) (up : Bool) (w : World) (h : ArcsAt w a m A) (hc : a = none → c = 0) (hb : 300 < m ∨ (m ≤ 300 ∧ (checkM n A).2 ≠ 0)) :
    Calls Tryz.prog 5 #[.agg #[.int .i64 n, .slice a m c], .int .i64 pp, .bool up] w fun e w' => e = .returned (.bool true) ∧ Below w.heap.size w w' := by
  have HS := hide (rin_start w n a m c A h)
  have HGR : Hid (∀ w', ArcsAt w' a m A → Calls Tryz.prog 10 #[.agg #[.int .i64 n, .slice a m c], .bool false] w' fun e w'' => e = .returned (.tuple #[.pointer none, .agg #[.int .i64 0, .slice none 0 0], .agg #[.int .i64 0, .slice none 0 0], .bool false]) ∧ Below w'.heap.size w' w'') := fun w' h' => by
    rcases hb with hm | ⟨hm, he⟩
    · exact graph_many n a m c A false w' h' hm
    · exact graph_bad n a m c A false w' h' hc hm he
  clear h hc hb
  go_enter Tryz.func5, Tryz.ntmps5
  go_wp2_with (first
    | (go_at_call 9; refine (awake8_any _).mono ?_; rintro e w1 ⟨rfl, h1⟩; have H1 := hide (HS.out.later h1); have c0 := H1.out.c0; have c1 := H1.out.c1; clear h1)
    | (go_at_call 10; refine (HGR.out _ H1.out.arcs).mono ?_; rintro e w2 ⟨rfl, h2⟩; have H2 := hide (H1.out.later h2); clear h2))
  go_ret
  exact ⟨rfl, (H2.out.below.alloc H2.out.below.size _).alloc (by have := H2.out.below.size; simp; omega) _⟩
set_option maxRecDepth 100000 in
set_option maxHeartbeats 12800000 in
theorem rea_out_good (n : Nat) (a : Option Addr) (m c : Nat) (A : List Arc) (pp : Int) (up : Bool) (hpp : ¬ (0 ≤ pp ∧ pp < n)) (w : World) (h : ArcsAt w a m A) (hc : a = none → c = 0) (hm : m ≤ 300) (he : (checkM n A).2 = 0) :
    Calls Tryz.prog 5 #[.agg #[.int .i64 n, .slice a m c], .int .i64 pp, .bool up] w fun e w' => e = .returned (.bool true) ∧ Below w.heap.size w w' := by
  obtain ⟨hn0, hl, hok⟩ := checkM_ok he
  have hn : 1 ≤ n ∧ n ≤ 32 := by omega
  have HN := hide hn
  have HM := hide (mt_pos he false)
  have HWO : Hid (WOk n (tab (legsM (mtM false) A))) := fun p q x _ _ hx => tab_pos HM.out p q x hx
  have HLP : Hid (∀ a, a < n → tab (legsM (mtM false) A) a a = none) := fun a _ => tab_loop _ _ a
  have HS := hide (rin_start w n a m c A h)
  have HGR := hide (fun (w' : World) (h' : ArcsAt w' a m A) => graph_good n a m c A false w' h' hc hm he)
  obtain ⟨Q, hQ⟩ : ∃ Q, n * n = Q := ⟨_, rfl⟩
  have HQ := hide hQ
  have hQb : Q ≤ 1024 := by rw [← hQ]; exact (mul_wrap hn.2 hn.2).2
  have HQ0 : Hid (0 < n * n) := Nat.mul_pos (by omega) (by omega)
  clear h hc he hn0 hok hQ
  generalize tab (legsM (mtM false) A) = W at HWO HGR HLP
  have HL1 : Hid ((cellsM n W).length = Q) := (cellsM_len n W).trans HQ.out
  have HL2 : Hid ((cellsM n (least n W)).length = Q) := (cellsM_len n (least n W)).trans HQ.out
  go_enter Tryz.func5, Tryz.ntmps5
  go_wp2_with (first
    | (go_at_call 9; refine (awake8_any _).mono ?_; rintro e w1 ⟨rfl, h1⟩; have H1 := hide (HS.out.later h1); have c0 := H1.out.c0; have c1 := H1.out.c1; clear h1)
    | (go_at_call 10; refine (HGR.out _ H1.out.arcs).mono ?_; rintro e w2 ⟨g, vt, vl, rfl, h2, h3, h4, h5⟩; obtain ⟨tg, tc, rfl, _⟩ := h3.form (by rw [cellsM_len]; exact HQ0.out); obtain ⟨lg, lc, rfl, _⟩ := h4.form (by rw [cellsM_len]; exact HQ0.out); rw [HL1.out] at h3 ⊢; rw [HL2.out] at h4 ⊢; have H3 := hide (g3_mk (H1.out.later h5) h2 h3 h4 HQ.out); clear h2 h3 h4 h5)
    | (go_at_call 11; refine (build_any H3.out.gr HN.out HWO.out HLP.out).mono ?_; rintro e w3 ⟨bb, rfl, K, rk, Q9, rv, h1, h2, _, h4⟩; have HBD := hide h1; have H4 : Hid (L7 w.heap.size w n a m c A g W w2.heap.size tg tc lg lc Q bb rv (upM K rk) (dnM K rk) w3) := ⟨H3.out.later h4, h2⟩; clear h1 h2 h4))
  obtain ⟨b1, hb1⟩ : ∃ b, w2.heap.size = b := ⟨_, rfl⟩
  rw [hb1] at H4
  try rw [hb1]
  clear H1 H3 hb1 c0 c1
  have HRE : Hid (Calls Tryz.prog 17 #[.pointer (some ⟨bb.l, 0, none⟩), .int .i64 pp, .bool up] w3 fun e w' => ∃ vp vm, e = .returned (.tuple #[vp, vm]) ∧ IRow w' w3.heap.size vp [] ∧ IRow w' w3.heap.size vm [] ∧ Below w3.heap.size w3 w') := by
    show Calls _ _ _ _ _
    cases up
    · exact reach_dn_out H4.out.lf HN.out.2 hpp
    · exact reach_up_out H4.out.lf HN.out.2 hpp
  by_cases h0 : pp < 0
  · go_wp2_with (go_at_call 17; refine HRE.out.mono ?_; rintro e w4 ⟨vp, vm, rfl, h1, h2, h3⟩; obtain ⟨pa, pc, rfl⟩ := h1.shape; obtain ⟨ma, mc, rfl⟩ := h2.shape; have H5 := hide (H4.out.later h3); have x0 := H5.out.g3.ml.c0; clear h1 h2 h3)
    go_ret
    exact ⟨rfl, H5.out.below⟩
  · have h1 : (n : Int) ≤ pp := by
      by_cases h2 : (n : Int) ≤ pp
      · exact h2
      · exact absurd ⟨by omega, by omega⟩ hpp
    have h2 : decide (pp < 0) = false := decide_eq_false h0
    replace hpp := hide hpp
    go_wp2_with (go_at_call 17; refine HRE.out.mono ?_; rintro e w4 ⟨vp, vm, rfl, h1, h2, h3⟩; obtain ⟨pa, pc, rfl⟩ := h1.shape; obtain ⟨ma, mc, rfl⟩ := h2.shape; have H5 := hide (H4.out.later h3); have x0 := H5.out.g3.ml.c0; clear h1 h2 h3)
    go_ret
    exact ⟨rfl, H5.out.below⟩
theorem reaches_any (n : Int) (a : Option Addr) (m c : Nat) (A : List Arc) (pp : Int) (up : Bool) (w : World) (h : ArcsAt w a m A) (hc : a = none → c = 0) :
    Calls Tryz.prog 5 #[.agg #[.int .i64 n, .slice a m c], .int .i64 pp, .bool up] w fun e w' => e = .returned (.bool true) ∧ Below w.heap.size w w' := by
  by_cases hm : 300 < m
  · exact reaches_bad n a m c A pp up w h hc (.inl hm)
  · by_cases he : (checkM n A).2 = 0
    · obtain ⟨hn, _⟩ := checkM_ok he
      obtain ⟨k, rfl⟩ : ∃ k : Nat, n = (k : Int) := ⟨n.toNat, by omega⟩
      by_cases hp : 0 ≤ pp ∧ pp < k
      · obtain ⟨q, rfl⟩ := Int.eq_ofNat_of_zero_le hp.1
        cases up
        · exact rea_dn_good k a m c A q (by omega) w h hc (by omega) he
        · exact rea_up_good k a m c A q (by omega) w h hc (by omega) he
      · exact rea_out_good k a m c A pp up hp w h hc (by omega) he
    · exact reaches_bad n a m c A pp up w h hc (.inr ⟨by omega, he⟩)
end Go.Proofs.YtojkdmkeankcgaaGreat

