/-
  What the law LiftLinks does.
-/
import Derived.Test.YtojkdmkeankcgaaZMc
import Derived.Deep.CutRange
namespace Go.Proofs.Ytojkdmkeankcgaa
open Go.RowKit Go.Sort

theorem edge_cell {n : Nat} {W : Nat → Nat → Option Int} {K : Mx} {rk : Nat → Nat} {Q : Nat → Option Int} {rv : Nat → Int} (h : Bd n W n K rk Q rv) (hW : WOk n W) (hlp : ∀ a, a < n → W a a = none) {i : Nat} (hi : i < n * n) : (cellsM n W)[i]! < 0 ∨ (0 ≤ (cellsM n W)[i]! ∧ 0 ≤ (cellsM n (wtM K))[i]! ∧ (cellsM n (wtM K))[i]! ≤ (cellsM n W)[i]!) := by
  have hn : 0 < n := by
    rcases Nat.eq_zero_or_pos n with e | e
    · subst e; omega
    · exact e
  have ha : i / n < n := Nat.div_lt_of_lt_mul hi
  have hb : i % n < n := Nat.mod_lt _ hn
  have e : i = i / n * n + i % n := by rw [Nat.mul_comm]; exact (Nat.div_add_mod i n).symm
  generalize i / n = a at ha e
  generalize i % n = b at hb e
  subst e
  rw [cellsM_at _ ha hb, cellsM_at _ ha hb]
  cases ew : W a b with
  | none => left; show (-1 : Int) < 0; omega
  | some x =>
    have hne : a ≠ b := fun e => by subst e; rw [hlp a ha] at ew; cases ew
    obtain ⟨y, e1, e2⟩ := h.lft.edge a b x ha hb (by unfold resW; rw [if_pos ⟨ha, hb⟩]; exact ew) hne
    obtain ⟨m, e3⟩ := wtM_some.1 e1
    have h0 := (h.lft.lk _ _ _ _ e3).2.2.2.1
    have hx := (hW a b x ha hb ew).1
    right
    rw [e1]
    exact ⟨hx, h0, e2⟩
theorem cell_bnd7 {n : Nat} {W : Nat → Nat → Option Int} {K : Mx} {rk : Nat → Nat} {Q : Nat → Option Int} {rv : Nat → Int} (h : Bd n W n K rk Q rv) (hn : n ≤ 32) {a b : Nat} {y : Int} (e : wtM K a b = some y) : 0 ≤ y ∧ y ≤ 4294967296000000 := by
  obtain ⟨m, e⟩ := wtM_some.1 e
  exact h.lft.bound hn _ _ _ _ e

set_option maxRecDepth 100000 in
set_option maxHeartbeats 1600000 in
theorem links7_bad (n : Int) (a : Option Addr) (m c : Nat) (A : List Arc) (d : Bool) (w : World) (h : ArcsAt w a m A) (hc : a = none → c = 0) (hb : 300 < m ∨ (m ≤ 300 ∧ (checkM n A).2 ≠ 0)) :
    Calls Try.prog 5 #[.agg #[.int .i64 n, .slice a m c], .bool d] w fun e w' => e = .returned (.bool true) ∧ Below w.heap.size w w' := by
  have HS := hide (rin_start w n a m c A h)
  have HGR : Hid (∀ w', ArcsAt w' a m A → Calls Try.prog 16 #[.agg #[.int .i64 n, .slice a m c], .bool d] w' fun e w'' => e = .returned (.tuple #[.pointer none, .agg #[.int .i64 0, .slice none 0 0], .agg #[.int .i64 0, .slice none 0 0], .bool false]) ∧ Below w'.heap.size w' w'') := fun w' h' => by
    rcases hb with hm | ⟨hm, he⟩
    · exact graph_many n a m c A d w' h' hm
    · exact graph_bad n a m c A d w' h' hc hm he
  clear h hc hb
  go_enter Try.func5, Try.ntmps5
  go_wp2_with (first
    | (go_at_call 18; refine (awakeL_any _).mono ?_; rintro e w1 ⟨rfl, h1⟩; have H1 := hide (HS.out.later h1); have c0 := H1.out.c0; have c1 := H1.out.c1; clear h1)
    | (go_at_call 16; refine (HGR.out _ H1.out.arcs).mono ?_; rintro e w2 ⟨rfl, h2⟩; have H2 := hide (H1.out.later h2); clear h2))
  go_ret
  exact ⟨rfl, (H2.out.below.alloc H2.out.below.size _).alloc (by have := H2.out.below.size; simp; omega) _⟩
set_option maxRecDepth 100000 in
set_option maxHeartbeats 12800000 in
theorem links7_good (n : Nat) (a : Option Addr) (m c : Nat) (A : List Arc) (d : Bool) (w : World) (h : ArcsAt w a m A) (hc : a = none → c = 0) (hm : m ≤ 300) (he : (checkM n A).2 = 0) :
    Calls Try.prog 5 #[.agg #[.int .i64 n, .slice a m c], .bool d] w fun e w' => e = .returned (.bool true) ∧ Below w.heap.size w w' := by
  obtain ⟨hn0, hl, hok⟩ := checkM_ok he
  have hn : 1 ≤ n ∧ n ≤ 32 := by omega
  have HN := hide hn
  have HM := hide (mt_pos he d)
  have HWO : Hid (WOk n (tab (legsM (mtM d) A))) := fun p q x _ _ hx => tab_pos HM.out p q x hx
  have HLP : Hid (∀ a, a < n → tab (legsM (mtM d) A) a a = none) := fun a _ => tab_loop _ _ a
  have HS := hide (rin_start w n a m c A h)
  have HGR := hide (fun (w' : World) (h' : ArcsAt w' a m A) => graph_good n a m c A d w' h' hc hm he)
  obtain ⟨Q, hQ⟩ : ∃ Q, n * n = Q := ⟨_, rfl⟩
  have HQ := hide hQ
  have hQb : Q ≤ 1024 := by rw [← hQ]; exact (mul_wrap hn.2 hn.2).2
  have HQ0 : Hid (0 < n * n) := Nat.mul_pos (by omega) (by omega)
  clear h hc he hn0 hok hQ
  generalize tab (legsM (mtM d) A) = W at HWO HGR HLP
  have HL1 : Hid ((cellsM n W).length = Q) := (cellsM_len n W).trans HQ.out
  have HL2 : Hid ((cellsM n (least n W)).length = Q) := (cellsM_len n (least n W)).trans HQ.out
  go_enter Try.func5, Try.ntmps5
  go_wp2_with (first
    | (go_at_call 18; refine (awakeL_any _).mono ?_; rintro e w0 ⟨rfl, h1⟩; have H1 := hide (HS.out.later h1); have c0 := H1.out.c0; have c1 := H1.out.c1; clear h1)
    | (go_at_call 16; refine (HGR.out _ H1.out.arcs).mono ?_; rintro e w2 ⟨g, vt, vl, rfl, h2, h3, h4, h5⟩; obtain ⟨tg, tc, rfl, _⟩ := h3.form (by rw [cellsM_len]; exact HQ0.out); obtain ⟨lg, lc, rfl, _⟩ := h4.form (by rw [cellsM_len]; exact HQ0.out); rw [HL1.out] at h3 ⊢; rw [HL2.out] at h4 ⊢; have H3 := hide (g3_mk (H1.out.later h5) h2 h3 h4 HQ.out); clear h2 h3 h4 h5)
    | (go_at_call 19; refine (build_any H3.out.gr HN.out HWO.out HLP.out).mono ?_; rintro e w3 ⟨bb, rfl, K, rk, Q9, rv, h1, h2, _, h4⟩; have HBD := hide h1; have H4 : Hid (L7 w.heap.size w n a m c A g W w2.heap.size tg tc lg lc Q bb rv (upM K rk) (dnM K rk) w3) := ⟨H3.out.later h4, h2⟩; have x0 := H4.out.g3.ml.c0; clear h1 h2 h4)
    | (go_at_call 20; refine (llinks_any H4.out.lf HN.out.2).mono ?_; rintro e w1 ⟨v1, rfl, h1, h2⟩; have H5 := hide (And.intro (H4.out.later h2) h1); obtain ⟨lva, lvc, rfl⟩ := h1.shape; have x0 := H5.out.1.g3.ml.c0; clear h1 h2))
  obtain ⟨b1, hb1⟩ : ∃ b, w2.heap.size = b := ⟨_, rfl⟩
  rw [hb1] at H4 H5
  try rw [hb1]
  clear H1 H3 H4 hb1 c0 c1
  have HS0 := hide (mk7_start w1 n)
  obtain ⟨i0, hi0, hy0, hy1, hy2⟩ := info_parts info3
  have HI := hide (And.intro hi0 (And.intro hy0 (And.intro hy1 hy2)))
  have hmulQ : IntKind.i64.wrap ((n : Int) * (n : Int)) = (Q : Int) := by have := (mul_wrap HN.out.2 HN.out.2).1; rw [HQ.out] at this; exact this
  clear hi0 hy0 hy1 hy2
  have HMEM : Hid (∀ i, i < (linksL n (upM K rk) (dnM K rk) n).length → ∃ (p q : Nat) (x y : Int), p < n ∧ q < n ∧ p ≠ q ∧ (linksL n (upM K rk) (dnM K rk) n)[i]! = (p, q, (x, y)) ∧ 0 ≤ x ∧ x ≤ 4294967296000000 ∧ K p q = some (x, y)) := fun i hi => by
    have hm : (linksL n (upM K rk) (dnM K rk) n)[i]! ∈ linksL n (upM K rk) (dnM K rk) n := by rw [getElem!_pos _ i hi]; exact List.getElem_mem hi
    have hk := (mem_links HBD.out).1 hm
    generalize (linksL n (upM K rk) (dnM K rk) n)[i]! = k at hk
    obtain ⟨p, q, x, y⟩ := k
    obtain ⟨h1, h2, h3, _⟩ := HBD.out.lft.lk _ _ _ _ hk
    have h4 := HBD.out.lft.bound HN.out.2 _ _ _ _ hk
    exact ⟨p, q, x, y, h1, h2, h3, rfl, h4.1, h4.2, hk⟩
  have HALL := hide (lgs_all (L := linksL n (upM K rk) (dnM K rk) n) (K := K) fun k => mem_links HBD.out)
  have HLN : Hid ((linksL n (upM K rk) (dnM K rk) n).length ≤ 2048) := by
    have h1 := linksL_len n (upM K rk) (dnM K rk) n
    have h2 := Nat.mul_le_mul (show n ≤ 32 by omega) (show n + n ≤ 64 by omega)
    show _ ≤ _
    omega
  generalize linksL n (upM K rk) (dnM K rk) n = LG at H5 HMEM HALL HLN ⊢
  have hlg := HLN.out
  obtain ⟨B5, hB5⟩ : ∃ B, w3.heap.size = B := ⟨_, rfl⟩
  rw [hB5] at H5
  obtain ⟨bx, hbx⟩ : ∃ b, w1.heap.size = b := ⟨_, rfl⟩
  rw [hbx] at HS0
  try rw [hbx]
  generalize w1.alloc (.cells #[.int .i64 n, .slice none 0 0] 39) = W0 at HS0 ⊢
  clear x0 hbx hB5
  go_loopw [12] (fun vi wr => ∃ (i : Nat) (v : Value), vi = .int .i64 i ∧ i ≤ Q ∧ Hid (Mk7 w1 bx n v (List.replicate i (-1)) wr)) (fun vi _ => Q - (intOf vi).toNat)
  case atStart => exact ⟨0, _, rfl, Nat.zero_le _, HS0.out⟩
  case round =>
    clear HS0
    obtain ⟨i, v, rfl, hi, HR⟩ := hrel
    have r2 := cell_of_row wr bx 1 _ _ _ HR.out.box
    have f2 := frozen_of_row wr bx 1 _ _ HR.out.box
    simp only [List.getElem?_toArray, List.getElem?_cons_succ, List.getElem?_cons_zero] at r2
    have hx0 := (H5.out.1.later HR.out.f).g3.ml.c0
    by_cases hlt : i < Q
    · have i1 : (i : Int) < (Q : Int) := by omega
      have hBz := HR.out.lt
      have HOW : Hid ((wr.alloc (.cells #[.int .i64 (-1)] 3)).ownsRow (bx + 1) 3 1 v (List.replicate i (-1)).length (intsV (List.replicate i (-1)))) := HR.out.own.alloc _
      rw [List.length_replicate] at HOW
      have HNW : Hid (∀ j u, [Value.int .i64 (-1)][j]? = some u → (wr.alloc (.cells #[.int .i64 (-1)] 3)).cell? ((⟨wr.heap.size, 0, none⟩ : Addr).add j) = some u) := World.news_of_block (cs := #[.int .i64 (-1)]) (t := 3) (fr := (0, 0)) (heap_alloc_new _ _)
      go_wp2_with (at_builtin; refine wpList_append_lies _ rfl (.tmp 50) (.tmp 51) 37 rfl (bx + 1) 3 i0 (.int .i64 0) 1 8 Try.underlying37 HI.out.1 HI.out.2.1 HI.out.2.2.1 HI.out.2.2.2 rfl (by decide) v i (intsV (List.replicate i (-1))) rfl HOW.out ⟨wr.heap.size, 0, none⟩ 1 1 [.int .i64 (-1)] rfl rfl HNW.out (by simp [Value.oneCell']) (by decide) (by unfold maxLen; omega) (by omega) (by simp; omega) (wr.heap.size + 1) (by simp) ?_)
      intro gg cap w3 hown1 hgrow hat hlt3
      have HST : Hid (Mk7 w1 bx n (.slice (some ⟨gg, 0, none⟩) (i + 1) cap) (List.replicate (i + 1) (-1)) (w3.setCell ⟨bx, 1, none⟩ (.slice (some ⟨gg, 0, none⟩) (i + 1) cap))) := by
        have := HR.out.more (.cells #[.int .i64 (-1)] 3) rfl (-1) (g := gg) (cap := cap) (w3 := w3) (by rw [List.length_replicate]; exact hown1) hgrow
        rw [rep_snoc, List.length_replicate] at this
        exact this
      have f3 : w3.frozen? ⟨bx, 1, none⟩ = false := by
        have := frozen_of_row _ bx 1 _ _ HST.out.box
        rw [World.frozen?_setCell] at this
        exact this
      have c3 : ∃ u, w3.cell? ⟨bx, 1, none⟩ = some u := by
        rw [hgrow.cell_far ⟨bx, 1, none⟩ (by show bx < _; simp; omega) (fun e => by have : bx + 1 ≤ bx := (HOW.out.lt _ e.symm).1; omega), World.cell?_alloc_lt _ _ _ (by show bx < _; omega)]
        exact ⟨_, r2⟩
      obtain ⟨u3, c3⟩ := c3
      clear hown1 hgrow hat HR
      go_wp2
      go_roundw
      case rel => exact ⟨i + 1, _, by go_num, by omega, HST.out⟩
      case measure => simp [intOf]; omega
    · have hiQ : i = Q := by omega
      have i1 : ¬ (i : Int) < (Q : Int) := by omega
      have HS1 : Hid (Mk7 w1 bx n v (cellsM n (tab (lgs []))) wr) := by
        show Mk7 _ _ _ _ _ _
        rw [show lgs [] = [] from rfl, cellsM_none, HQ.out, ← hiQ]
        exact HR.out
      replace hiQ := hide hiQ
      clear HR r2 f2
      have HS2 : Hid (Mk7 w1 bx n v (cellsM n (tab (lgs (LG.take 0)))) wr) := by rw [List.take_zero]; exact HS1.out
      go_wp2
      go_loopw [56] (fun vi wr => ∃ i : Nat, vi = .int .i64 i ∧ i ≤ LG.length ∧ Hid (∃ v, Mk7 w1 bx n v (cellsM n (tab (lgs (LG.take i)))) wr)) (fun vi _ => LG.length - (intOf vi).toNat)
      case atStart => exact ⟨0, rfl, Nat.zero_le _, _, HS2.out⟩
      case round =>
        clear HS1 HS2 hx0
        obtain ⟨i, rfl, hi, HR⟩ := hrel
        obtain ⟨v, hR⟩ := HR.out
        have HR2 := hide hR
        clear hR HR
        have hx0 := (H5.out.1.later HR2.out.f).g3.ml.c0
        by_cases hil : i < LG.length
        · obtain ⟨p, q, x, y, hp, hq, hpq, hLi, hx0', hxM, _⟩ := HMEM.out i hil
          have HLR : Hid (LRow wr B5 (.slice lva LG.length lvc) LG) := H5.out.2.later (Nat.le_refl _) HR2.out.f
          obtain ⟨g1, c1, hv, _, _, _, _⟩ := HLR.out.form (by omega)
          injection hv with j1 j2 j3
          subst j1 j3
          clear j2
          obtain ⟨y0, y1, y2, y3⟩ := HLR.out.cells i hil
          rw [hLi] at y0 y1 y2 y3
          simp only at y0 y1 y2 y3
          have HTK : Hid (LG.take (i + 1) = LG.take i ++ [(p, q, (x, y))]) := by show _ = _; rw [take_snoc hil, hLi]
          have HPB : Hid (∀ k ∈ LG.take i, 0 ≤ k.2.2.1 ∧ k.2.2.1 ≤ 4294967296000000) := fun k hk => by
            obtain ⟨j, hj, e⟩ := List.mem_iff_getElem.1 (List.mem_of_mem_take hk)
            obtain ⟨p', q', x', y', _, _, _, e2, e3, e4, _⟩ := HMEM.out j hj
            rw [← e, ← getElem!_pos LG j hj, e2]
            exact ⟨e3, e4⟩
          generalize hPP : LG.take i = PP at HR2 HTK HPB
          have hcb := cv_lgs HPB.out p q
          have HC := hide (lgs_cells (n := n) (P := PP) (a := p) (c := q) (x := x) (y := y) hq)
          obtain ⟨hmul, hmb⟩ := mul_wrap (show p ≤ 32 by have := HN.out.2; omega) HN.out.2
          obtain ⟨A0, hA0⟩ : ∃ A0, p * n = A0 := ⟨_, rfl⟩
          have l1 := cell_lt hp hq
          rw [hA0] at hmul hmb l1 HC
          rw [HQ.out] at l1
          obtain ⟨g2, c2, hv2, hgb, hgl, _, _⟩ := HR2.out.own.form (by rw [cellsM_len, HQ.out]; omega)
          rw [cellsM_len, HQ.out] at hv2
          subst hv2
          have ec : (cellsM n (tab (lgs PP)))[A0 + q]! = cv (tab (lgs PP) p q) := by rw [← hA0]; exact cellsM_at _ hp hq
          have xc := HR2.out.own.cell (A0 + q) (by rw [cellsM_len, HQ.out]; exact l1)
          rw [ec] at xc
          have xb := cell_of_row wr bx 1 _ _ _ HR2.out.box
          simp only [List.getElem?_toArray, List.getElem?_cons_succ, List.getElem?_cons_zero] at xb
          have HNN : Hid (∀ v, tab (lgs PP) p q = some v → 0 ≤ v) := lgs_pos (fun k hk => (HPB.out k hk).1) _ _
          generalize hz : cv (tab (lgs PP) p q) = z at xc hcb HC
          have i3 : (i : Int) < (LG.length : Int) := by omega
          have k1 : (A0 : Int) + (q : Int) < (Q : Int) := by omega
          have w1' : IntKind.i64.wrap ((A0 : Int) + (q : Int)) = ((A0 + q : Nat) : Int) := by rw [IntKind.wrap_i64]; omega
          have hf : Below wr.heap.size wr (wr.alloc (.cells #[.int .i64 p, .int .i64 q, .int .i64 x, .int .i64 y] 52)) := (Below.refl _ _).alloc (Nat.le_refl _) _
          have HR3 : Hid (Mk7 w1 bx n (.slice (some ⟨g2, 0, none⟩) Q c2) (cellsM n (tab (lgs PP))) (wr.alloc (.cells #[.int .i64 p, .int .i64 q, .int .i64 x, .int .i64 y] 52))) := HR2.out.later hf
          have hnew := heap_alloc_new wr (.cells #[.int .i64 p, .int .i64 q, .int .i64 x, .int .i64 y] 52)
          have xc' := (hf.cell (p := ⟨g2, A0 + q, none⟩) hgl).trans xc
          have xb' := (hf.cell (p := ⟨bx, 1, none⟩) HR2.out.lt).trans xb
          have hx1 := (H5.out.1.later HR3.out.f).g3.ml.c0
          have e0 := cell_of_row _ wr.heap.size 0 _ _ _ hnew
          have e1 := cell_of_row _ wr.heap.size 1 _ _ _ hnew
          have ex2 : (wr.alloc (.cells #[.int .i64 p, .int .i64 q, .int .i64 x, .int .i64 y] 52)).cell? ⟨wr.heap.size, 2, none⟩ = some (.int .i64 x) := cell_of_row _ wr.heap.size 2 _ _ _ hnew
          simp only [List.getElem?_toArray, List.getElem?_cons_succ, List.getElem?_cons_zero] at e0 e1
          obtain ⟨e6, he6⟩ : ∃ e6, wr.heap.size = e6 := ⟨_, rfl⟩
          have HE6 := hide he6
          have nge : ¬ g2 = e6 := by rw [← he6]; omega
          rw [he6] at e0 e1 ex2
          have zf := HR3.out.own.frozen (A0 + q)
          have m1 : ¬ (p : Int) < 0 := by omega
          have m2 : ¬ (q : Int) < 0 := by omega
          have m3 : ¬ (n : Int) ≤ (p : Int) := by omega
          have m4 : ¬ (n : Int) ≤ (q : Int) := by omega
          have m5 : ((p : Int) == (q : Int)) = false := by simp; omega
          clear hf hnew HR2 hPP hA0 ec hz hLi xc xb he6 hgb HLR hx0
          go_wp2
          try rw [HE6.out]
          generalize wr.alloc (.cells #[.int .i64 p, .int .i64 q, .int .i64 x, .int .i64 y] 52) = W7 at HR3 xc' xb' e0 e1 ex2 zf hx1 ⊢
          by_cases hz0 : z < 0
          · have HC1 := hide (HC.out.1 (.inl hz0) HNN.out)
            go_quiet (fail)
            go_wp2
            have HST : Hid (Mk7 w1 bx n (.slice (some ⟨g2, 0, none⟩) Q c2) (cellsM n (tab (lgs (LG.take (i + 1))))) ((W7.drewN nq).setCell ⟨g2, A0 + q, none⟩ (.int .i64 x))) := by
              have h1 := (HR3.out.later (Qu.below_drewN (Below.refl _ _) nq)).put (A0 + q) x
              show Mk7 _ _ _ _ _ _
              rw [HTK.out, HC1.out]
              exact h1
            go_roundw
            case rel => exact ⟨i + 1, by go_num, by omega, _, HST.out⟩
            case measure => simp [intOf]; omega
          · by_cases hxz : x < z
            · have HC1 := hide (HC.out.1 (.inr hxz) HNN.out)
              have hz2 : decide (z < 0) = false := decide_eq_false hz0
              go_quiet (fail)
              go_wp2
              have HST : Hid (Mk7 w1 bx n (.slice (some ⟨g2, 0, none⟩) Q c2) (cellsM n (tab (lgs (LG.take (i + 1))))) ((W7.drewN nq).setCell ⟨g2, A0 + q, none⟩ (.int .i64 x))) := by
                have h1 := (HR3.out.later (Qu.below_drewN (Below.refl _ _) nq)).put (A0 + q) x
                show Mk7 _ _ _ _ _ _
                rw [HTK.out, HC1.out]
                exact h1
              go_roundw
              case rel => exact ⟨i + 1, by go_num, by omega, _, HST.out⟩
              case measure => simp [intOf]; omega
            · have HC1 := hide (HC.out.2 (fun e => e.elim hz0 hxz))
              have hz2 : decide (z < 0) = false := decide_eq_false hz0
              have hz3 : decide (x < z) = false := decide_eq_false hxz
              go_quiet (fail)
              go_wp2
              have HST : Hid (Mk7 w1 bx n (.slice (some ⟨g2, 0, none⟩) Q c2) (cellsM n (tab (lgs (LG.take (i + 1))))) (W7.drewN nq)) := by
                show Mk7 _ _ _ _ _ _
                rw [HTK.out, HC1.out]
                exact HR3.out.later (Qu.below_drewN (Below.refl _ _) nq)
              go_roundw
              case rel => exact ⟨i + 1, by go_num, by omega, _, HST.out⟩
              case measure => simp [intOf]; omega
        · have e : i = LG.length := by omega
          have i3 : ¬ (i : Int) < (LG.length : Int) := by omega
          have HE : Hid (Mk7 w1 bx n v (cellsM n (wtM K)) wr) := by
            have := HR2.out
            rw [e, List.take_of_length_le (Nat.le_refl _)] at this
            rw [cellsM_same (wtM K) (tab (lgs LG)) (fun a c ha hc => HALL.out a c)] at this
            exact this
          replace e := hide e
          clear HR2
          obtain ⟨g2, c2, hv2, hgb, hgl, _, _⟩ := HE.out.own.form (by rw [cellsM_len]; exact HQ0.out)
          rw [cellsM_len, HQ.out] at hv2
          subst hv2
          go_wp2
          go_loopw [119] (fun vi wr => ∃ i : Nat, vi = .int .i64 i ∧ i ≤ LG.length ∧ Hid (Mk7 w1 bx n (.slice (some ⟨g2, 0, none⟩) Q c2) (cellsM n (wtM K)) wr)) (fun vi _ => LG.length - (intOf vi).toNat)
          case atStart => exact ⟨0, rfl, Nat.zero_le _, HE.out⟩
          case round =>
            clear HE hx0 e
            obtain ⟨i, rfl, hi, HR⟩ := hrel
            have hx0 := (H5.out.1.later HR.out.f).g3.ml.c0
            have hx3 := (H5.out.1.later HR.out.f).g3.mt.c1
            by_cases hil : i < LG.length
            · obtain ⟨p, q, x, y, hp, hq, hpq, hLi, hx0', hxM, hK⟩ := HMEM.out i hil
              have HLR : Hid (LRow wr B5 (.slice lva LG.length lvc) LG) := H5.out.2.later (Nat.le_refl _) HR.out.f
              obtain ⟨g1, c1, hv, _, _, _, _⟩ := HLR.out.form (by omega)
              injection hv with j1 j2 j3
              subst j1 j3
              clear j2
              obtain ⟨y0, y1, y2, y3⟩ := HLR.out.cells i hil
              rw [hLi] at y0 y1 y2 y3
              simp only at y0 y1 y2 y3
              have i3 : (i : Int) < (LG.length : Int) := by omega
              have HMD := hide (HBD.out.lft.mid _ _ _ _ hK)
              have hf : Below wr.heap.size wr (wr.alloc (.cells #[.int .i64 p, .int .i64 q, .int .i64 x, .int .i64 y] 52)) := (Below.refl _ _).alloc (Nat.le_refl _) _
              have HR3 : Hid (Mk7 w1 bx n (.slice (some ⟨g2, 0, none⟩) Q c2) (cellsM n (wtM K)) (wr.alloc (.cells #[.int .i64 p, .int .i64 q, .int .i64 x, .int .i64 y] 52))) := HR.out.later hf
              have hnew := heap_alloc_new wr (.cells #[.int .i64 p, .int .i64 q, .int .i64 x, .int .i64 y] 52)
              have hx1 := (H5.out.1.later HR3.out.f).g3.ml.c0
              have hx2 := (H5.out.1.later HR3.out.f).g3.mt.c1
              have e0 := cell_of_row _ wr.heap.size 0 _ _ _ hnew
              have e1 := cell_of_row _ wr.heap.size 1 _ _ _ hnew
              have ex2 : (wr.alloc (.cells #[.int .i64 p, .int .i64 q, .int .i64 x, .int .i64 y] 52)).cell? ⟨wr.heap.size, 2, none⟩ = some (.int .i64 x) := cell_of_row _ wr.heap.size 2 _ _ _ hnew
              have ex3 : (wr.alloc (.cells #[.int .i64 p, .int .i64 q, .int .i64 x, .int .i64 y] 52)).cell? ⟨wr.heap.size, 3, none⟩ = some (.int .i64 y) := cell_of_row _ wr.heap.size 3 _ _ _ hnew
              simp only [List.getElem?_toArray, List.getElem?_cons_succ, List.getElem?_cons_zero] at e0 e1
              obtain ⟨e6, he6⟩ : ∃ e6, wr.heap.size = e6 := ⟨_, rfl⟩
              have HE6 := hide he6
              rw [he6] at e0 e1 ex2 ex3
              obtain ⟨hmul, hmb⟩ := mul_wrap (show p ≤ 32 by have := HN.out.2; omega) HN.out.2
              clear hf hnew HR hLi he6 HLR hx0 hx3 hK
              rcases HMD.out with ⟨hy, hWp⟩ | ⟨cc, hcn, hy, hr1, hr2, _, yy, zz, hwy, hwz, hsum⟩
              · subst hy
                have hl1 := cell_lt hp hq
                rw [HQ.out] at hl1
                have hWp' : W p q = some x := by unfold resW at hWp; rw [if_pos ⟨hp, hq⟩] at hWp; exact hWp
                have xm := (H5.out.1.later HR3.out.f).g3.mt.cells (p * n + q) hl1
                rw [cellsM_at _ hp hq, hWp'] at xm
                have xm' : (wr.alloc (.cells #[.int .i64 p, .int .i64 q, .int .i64 x, .int .i64 (-1)] 52)).cell? ⟨tg, p * n + q, none⟩ = some (.int .i64 x) := xm
                obtain ⟨A0, hA0⟩ : ∃ A0, p * n = A0 := ⟨_, rfl⟩
                rw [hA0] at hmul hmb hl1 xm'
                have k1 : (A0 : Int) + (q : Int) < (Q : Int) := by omega
                have w1' : IntKind.i64.wrap ((A0 : Int) + (q : Int)) = ((A0 + q : Nat) : Int) := by rw [IntKind.wrap_i64]; omega
                have z1 : (x != x) = false := by simp
                clear hWp hWp' xm hA0
                go_wp2
                try rw [HE6.out]
                generalize wr.alloc (.cells #[.int .i64 p, .int .i64 q, .int .i64 x, .int .i64 (-1)] 52) = W7 at HR3 e0 e1 ex2 ex3 hx1 hx2 xm' ⊢
                go_quiet (fail)
                have HST := hide (HR3.out.later (Qu.below_drewN (Below.refl _ _) nq))
                go_wp2
                go_roundw
                case rel => exact ⟨i + 1, by go_num, by omega, HST.out⟩
                case measure => simp [intOf]; omega
              · subst hy
                obtain ⟨hmul2, hmb2⟩ := mul_wrap (show cc ≤ 32 by have := HN.out.2; omega) HN.out.2
                have hl1 := cell_lt hp hcn
                have hl2 := cell_lt hcn hq
                rw [HQ.out] at hl1 hl2
                have xa := HR3.out.own.cell (p * n + cc) (by rw [cellsM_len, HQ.out]; exact hl1)
                have xb := HR3.out.own.cell (cc * n + q) (by rw [cellsM_len, HQ.out]; exact hl2)
                rw [cellsM_at _ hp hcn, hwy] at xa
                rw [cellsM_at _ hcn hq, hwz] at xb
                have xa' : (wr.alloc (.cells #[.int .i64 p, .int .i64 q, .int .i64 x, .int .i64 cc] 52)).cell? ⟨g2, p * n + cc, none⟩ = some (.int .i64 yy) := xa
                have xb' : (wr.alloc (.cells #[.int .i64 p, .int .i64 q, .int .i64 x, .int .i64 cc] 52)).cell? ⟨g2, cc * n + q, none⟩ = some (.int .i64 zz) := xb
                have xq := cell_of_row _ bx 1 _ _ _ HR3.out.box
                simp only [List.getElem?_toArray, List.getElem?_cons_succ, List.getElem?_cons_zero] at xq
                obtain ⟨A0, hA0⟩ : ∃ A0, p * n = A0 := ⟨_, rfl⟩
                obtain ⟨C0, hC0⟩ : ∃ C0, cc * n = C0 := ⟨_, rfl⟩
                rw [hA0] at hmul hmb hl1 xa'
                rw [hC0] at hmul2 hmb2 hl2 xb'
                obtain ⟨by1, by2⟩ := cell_bnd7 HBD.out HN.out.2 hwy
                obtain ⟨bz1, bz2⟩ := cell_bnd7 HBD.out HN.out.2 hwz
                have k1 : (A0 : Int) + (cc : Int) < (Q : Int) := by omega
                have k2 : (C0 : Int) + (q : Int) < (Q : Int) := by omega
                have w1' : IntKind.i64.wrap ((A0 : Int) + (cc : Int)) = ((A0 + cc : Nat) : Int) := by rw [IntKind.wrap_i64]; omega
                have w2' : IntKind.i64.wrap ((C0 : Int) + (q : Int)) = ((C0 + q : Nat) : Int) := by rw [IntKind.wrap_i64]; omega
                have w3' : IntKind.i64.wrap (yy + zz) = yy + zz := by rw [IntKind.wrap_i64]; omega
                have z1 : (yy + zz != x) = false := by rw [hsum]; simp
                have z2 : ¬ yy < 0 := by omega
                have z3 : ¬ zz < 0 := by omega
                have HLF := hide (H5.out.1.later HR3.out.f).lf
                have hr1' : rv cc < rv p := by rw [HBD.out.rvs cc hcn (bd_all HBD.out cc hcn), HBD.out.rvs p hp (bd_all HBD.out p hp)]; omega
                have hr2' : rv cc < rv q := by rw [HBD.out.rvs cc hcn (bd_all HBD.out cc hcn), HBD.out.rvs q hq (bd_all HBD.out q hq)]; omega
                have m0 : ((cc : Int) == -1) = false := by first | (simp; done) | (simp; omega)
                have d0 : decide ((cc : Int) < 0) = false := decide_eq_false (by omega)
                have d1 : decide (n ≤ cc) = false := decide_eq_false (by omega)
                have d1' : decide ((n : Int) ≤ (cc : Int)) = false := decide_eq_false (by omega)
                have d2 : decide (rv p ≤ rv cc) = false := decide_eq_false (by omega)
                have d3 : decide (rv q ≤ rv cc) = false := decide_eq_false (by omega)
                clear hA0 hC0 hwy hwz hsum xa xb hr1 hr2 hr1' hr2'
                go_wp2
                try rw [HE6.out]
                generalize wr.alloc (.cells #[.int .i64 p, .int .i64 q, .int .i64 x, .int .i64 cc] 52) = W7 at HR3 e0 e1 ex2 ex3 hx1 hx2 xa' xb' xq HLF ⊢
                have HRK : Hid (∀ (u k : Nat), k < n → Calls Try.prog 21 #[.pointer (some ⟨bb.l, 0, none⟩), .int .i64 k] (W7.drewN u) fun e w' => e = .returned (.int .i64 (rv k)) ∧ w' = W7.drewN u) := fun u k hk => lrank_any (HLF.out.drewN u) HN.out.2 hk
                go_quiet (first | (go_at_call 21; exact Calls.quiet_of_same (HRK.out _ _ (by assumption))))
                have HST := hide (HR3.out.later (Qu.below_drewN (Below.refl _ _) nq))
                go_wp2
                go_quiet (fail)
                have hs2 := HST.out.later (Qu.below_drewN (Below.refl _ _) nq)
                rw [World.drewN_drewN] at hs2
                have HST2 := hide hs2
                clear hs2
                go_wp2
                go_roundw
                case rel => exact ⟨i + 1, by go_num, by omega, HST2.out⟩
                case measure => simp [intOf]; omega
            · have i3 : ¬ (i : Int) < (LG.length : Int) := by omega
              go_wp2
              go_loopw [215] (fun vi wr => ∃ i : Nat, vi = .int .i64 i ∧ i ≤ Q ∧ Hid (Mk7 w1 bx n (.slice (some ⟨g2, 0, none⟩) Q c2) (cellsM n (wtM K)) wr)) (fun vi _ => Q - (intOf vi).toNat)
              case atStart => exact ⟨0, rfl, Nat.zero_le _, HR.out⟩
              case round =>
                clear HR hx0 hx3
                obtain ⟨j, rfl, hj, HR⟩ := hrel
                have hx3 := (H5.out.1.later HR.out.f).g3.mt.c1
                have xq := cell_of_row _ bx 1 _ _ _ HR.out.box
                simp only [List.getElem?_toArray, List.getElem?_cons_succ, List.getElem?_cons_zero] at xq
                by_cases hjq : j < Q
                · have j1 : (j : Int) < (Q : Int) := by omega
                  have ha := (H5.out.1.later HR.out.f).g3.mt.cells j hjq
                  have hb := HR.out.own.cell j (by rw [cellsM_len, HQ.out]; exact hjq)
                  have HED := hide (edge_cell HBD.out HWO.out HLP.out (i := j) (by rw [HQ.out]; exact hjq))
                  generalize (cellsM n W)[j]! = s at ha HED
                  generalize (cellsM n (wtM K))[j]! = r at hb HED
                  have HR2 : Hid (∀ u, Mk7 w1 bx n (.slice (some ⟨g2, 0, none⟩) Q c2) (cellsM n (wtM K)) (wr.drewN u)) := fun u => HR.out.later (Qu.below_drewN (Below.refl _ _) u)
                  clear HR
                  rcases HED.out with h1 | ⟨h1, h2, h3⟩
                  · have d1 : decide (0 ≤ s) = false := decide_eq_false (by omega)
                    go_wp2
                    go_quiet (fail)
                    go_wp2
                    go_roundw
                    case rel => exact ⟨j + 1, by go_num, by omega, HR2.out _⟩
                    case measure => simp [intOf]; omega
                  · have d1 : decide (0 ≤ s) = true := decide_eq_true h1
                    have d2 : decide (r < 0) = false := decide_eq_false (by omega)
                    have d3 : decide (s < r) = false := decide_eq_false (by omega)
                    go_wp2
                    go_quiet (fail)
                    go_wp2
                    go_roundw
                    case rel => exact ⟨j + 1, by go_num, by omega, HR2.out _⟩
                    case measure => simp [intOf]; omega
                · have j1 : ¬ (j : Int) < (Q : Int) := by omega
                  have HB9 := hide (H5.out.1.later HR.out.f).below
                  go_wp2
                  go_ret
                  exact ⟨rfl, HB9.out⟩

theorem links7_any (n : Int) (a : Option Addr) (m c : Nat) (A : List Arc) (d : Bool) (w : World) (h : ArcsAt w a m A) (hc : a = none → c = 0) :
    Calls Try.prog 5 #[.agg #[.int .i64 n, .slice a m c], .bool d] w fun e w' => e = .returned (.bool true) ∧ Below w.heap.size w w' := by
  by_cases hm : 300 < m
  · exact links7_bad n a m c A d w h hc (.inl hm)
  · by_cases he : (checkM n A).2 = 0
    · obtain ⟨hn, _⟩ := checkM_ok he
      obtain ⟨k, rfl⟩ : ∃ k : Nat, n = (k : Int) := ⟨n.toNat, by omega⟩
      exact links7_good k a m c A d w h hc (by omega) he
    · exact links7_bad n a m c A d w h hc (.inr ⟨by omega, he⟩)
end Go.Proofs.Ytojkdmkeankcgaa
