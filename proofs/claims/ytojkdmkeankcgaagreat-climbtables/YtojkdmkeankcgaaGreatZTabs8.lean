/-
  What the law ClimbTables does.
-/
import Derived.Test.YtojkdmkeankcgaaGreatZAwake8
import Derived.Test.YtojkdmkeankcgaaGreatZRw
import Derived.Deep.RegionHeld
namespace Go.Proofs.YtojkdmkeankcgaaGreat
open Go.RowKit Go.Sort

theorem ints_box {w : World} {b n tg tc Q : Nat} {xs : List Int} (h : MBox w b n tg tc Q xs) (hl : xs.length = Q) : IntsAt w (some ⟨tg, 0, none⟩) xs := fun k hk => ⟨tg, 0, rfl, by rw [Nat.zero_add]; exact h.cells k (by omega)⟩
set_option maxRecDepth 100000 in
set_option maxHeartbeats 1600000 in
theorem tabs_bad (n : Int) (a : Option Addr) (m c : Nat) (A : List Arc) (d : Bool) (w : World) (h : ArcsAt w a m A) (hc : a = none → c = 0) (hb : 300 < m ∨ (m ≤ 300 ∧ (checkM n A).2 ≠ 0)) :
    Calls Tryz.prog 3 #[.agg #[.int .i64 n, .slice a m c], .bool d] w fun e w' => e = .returned (.bool true) ∧ Below w.heap.size w w' := by
  have HS := hide (rin_start w n a m c A h)
  have HGR : Hid (∀ w', ArcsAt w' a m A → Calls Tryz.prog 10 #[.agg #[.int .i64 n, .slice a m c], .bool d] w' fun e w'' => e = .returned (.tuple #[.pointer none, .agg #[.int .i64 0, .slice none 0 0], .agg #[.int .i64 0, .slice none 0 0], .bool false]) ∧ Below w'.heap.size w' w'') := fun w' h' => by
    rcases hb with hm | ⟨hm, he⟩
    · exact graph_many n a m c A d w' h' hm
    · exact graph_bad n a m c A d w' h' hc hm he
  clear h hc hb
  go_enter Tryz.func3, Tryz.ntmps3
  go_wp2_with (first
    | (go_at_call 9; refine (awake8_any _).mono ?_; rintro e w1 ⟨rfl, h1⟩; have H1 := hide (HS.out.later h1); have c0 := H1.out.c0; have c1 := H1.out.c1; clear h1)
    | (go_at_call 10; refine (HGR.out _ H1.out.arcs).mono ?_; rintro e w2 ⟨rfl, h2⟩; have H2 := hide (H1.out.later h2); clear h2))
  go_ret
  exact ⟨rfl, (H2.out.below.alloc H2.out.below.size _).alloc (by have := H2.out.below.size; simp; omega) _⟩
set_option maxRecDepth 100000 in
set_option maxHeartbeats 12800000 in
theorem tabs_good (n : Nat) (a : Option Addr) (m c : Nat) (A : List Arc) (d : Bool) (w : World) (h : ArcsAt w a m A) (hc : a = none → c = 0) (hm : m ≤ 300) (he : (checkM n A).2 = 0) :
    Calls Tryz.prog 3 #[.agg #[.int .i64 n, .slice a m c], .bool d] w fun e w' => e = .returned (.bool true) ∧ Below w.heap.size w w' := by
  obtain ⟨hn0, hl, hok⟩ := checkM_ok he
  have hn : 1 ≤ n ∧ n ≤ 32 := by omega
  have HN := hide hn
  have HM := hide (mt_pos he d)
  have HWO : Hid (WOk n (tab (legsM (mtM d) A))) := fun p q x _ _ hx => tab_pos HM.out p q x hx
  have HLP : Hid (∀ a, a < n → tab (legsM (mtM d) A) a a = none) := fun a _ => tab_loop _ _ a
  have HS := hide (rin_start w n a m c A h)
  have HGR := hide (fun (w' : World) (h' : ArcsAt w' a m A) => graph_good n a m c A d w' h' hc hm he)
  obtain ⟨Q, hQ⟩ : ∃ Q, n * n = Q := ⟨_, rfl⟩
  have HQ := hide hQ
  have hQb : Q ≤ 1024 := by rw [← hQ]; exact (mul_wrap hn.2 hn.2).2
  have HQ0 : Hid (0 < n * n) := Nat.mul_pos (by omega) (by omega)
  clear h hc he hn0 hok hQ
  generalize tab (legsM (mtM d) A) = W at HWO HGR HLP
  have HL1 : Hid ((cellsM n W).length = Q) := (cellsM_len n W).trans HQ.out
  have HL2 : Hid ((cellsM n (least n W)).length = Q) := (cellsM_len n (least n W)).trans HQ.out
  go_enter Tryz.func3, Tryz.ntmps3
  go_wp2_with (first
    | (go_at_call 9; refine (awake8_any _).mono ?_; rintro e w1 ⟨rfl, h1⟩; have H1 := hide (HS.out.later h1); have c0 := H1.out.c0; have c1 := H1.out.c1; clear h1)
    | (go_at_call 10; refine (HGR.out _ H1.out.arcs).mono ?_; rintro e w2 ⟨g, vt, vl, rfl, h2, h3, h4, h5⟩; obtain ⟨tg, tc, rfl, _⟩ := h3.form (by rw [cellsM_len]; exact HQ0.out); obtain ⟨lg, lc, rfl, _⟩ := h4.form (by rw [cellsM_len]; exact HQ0.out); rw [HL1.out] at h3 ⊢; rw [HL2.out] at h4 ⊢; have H3 := hide (g3_mk (H1.out.later h5) h2 h3 h4 HQ.out); clear h2 h3 h4 h5)
    | (go_at_call 11; refine (build_any H3.out.gr HN.out HWO.out HLP.out).mono ?_; rintro e w3 ⟨bb, rfl, K, rk, Q9, rv, h1, h2, _, h4⟩; have HBD := hide h1; have H4 : Hid (L7 w.heap.size w n a m c A g W w2.heap.size tg tc lg lc Q bb rv (upM K rk) (dnM K rk) w3) := ⟨H3.out.later h4, h2⟩; clear h1 h2 h4))
  obtain ⟨b1, hb1⟩ : ∃ b, w2.heap.size = b := ⟨_, rfl⟩
  rw [hb1] at H4
  try rw [hb1]
  clear H1 H3 hb1 c0 c1
  have HZ : Hid ((cellsM n (least n W)).length ≤ 100000) := by rw [HL2.out]; show _ ≤ _; omega
  have HTB : Hid (∀ k, Calls Tryz.prog 13 #[.pointer (some ⟨bb.l, 0, none⟩)] (w3.drewN k) fun e w' => ∃ va vc, e = .returned (.agg #[.int .i64 n, .slice va Q vc]) ∧ Hid (L7 w.heap.size w n a m c A g W b1 tg tc lg lc Q bb rv (upM K rk) (dnM K rk) w' ∧ IntsAt w' va (cellsM n (least n W)))) := fun k => by
    refine (table8_any (H4.out.drewN k).lf HN.out HBD.out HWO.out).mono ?_
    rintro e w' ⟨v, rfl, h1, h2⟩
    obtain ⟨va, vc, rfl⟩ := h1.shape
    rw [HL2.out] at h1 ⊢
    have h3 := intsAt_row h1
    exact ⟨va, vc, rfl, (H4.out.drewN k).later h2, h3⟩
  have x0 := H4.out.g3.ml.c0
  have x1 := H4.out.g3.ml.c1
  go_cut [30] from 26 to 30 (fun v30 wx => v30 = .bool false ∧ Hid (L7 w.heap.size w n a m c A g W b1 tg tc lg lc Q bb rv (upM K rk) (dnM K rk) wx))
  case first =>
    go_region_with (first
      | (go_at_call 13; refine (HTB.out _).mono ?_; rintro e w4 ⟨va, vc, rfl, H5⟩; have x0 := H5.out.1.g3.ml.c0; have x1 := H5.out.1.g3.ml.c1)
      | (go_at_call 12; have hs := same_true (n := n) (ca := vc) (cb := lc) (zs := cellsM n (least n W)) H5.out.2 (ints_box H5.out.1.g3.ml HL2.out) HZ.out; rw [HL2.out] at hs; refine hs.mono ?_; rintro e w5 ⟨rfl, h6⟩; have H6 := hide (H5.out.1.later h6); clear hs h6))
    all_goals
      go_wp2_with fail
      go_meet
      case rel => exact ⟨rfl, H6.out⟩
  case rest =>
    obtain ⟨rfl, HR0⟩ := hcut
    clear x0 x1 HTB H4
    go_wp2
    go_loopw [10] (fun vi wr => ∃ i : Nat, vi = .int .i64 i ∧ i ≤ n ∧ Hid (L7 w.heap.size w n a m c A g W b1 tg tc lg lc Q bb rv (upM K rk) (dnM K rk) wr)) (fun vi _ => n - (intOf vi).toNat)
    case atStart => exact ⟨0, rfl, Nat.zero_le _, HR0.out⟩
    case round =>
      clear HR0
      obtain ⟨i, rfl, hi, HR⟩ := hrel
      have x0 := HR.out.g3.ml.c0
      by_cases hin : i < n
      · have i1 : (i : Int) < (n : Int) := by omega
        have HIN := hide hin
        obtain ⟨hmul, hmb⟩ := mul_wrap (show i ≤ 32 by omega) hn.2
        obtain ⟨P, hP⟩ : ∃ P, i * n = P := ⟨_, rfl⟩
        have HP := hide hP
        rw [hP] at hmul hmb
        clear hP
        go_wp2
        clear x0
        go_loopw [11] (fun vi wr => ∃ j : Nat, vi = .int .i64 j ∧ j ≤ n ∧ Hid (L7 w.heap.size w n a m c A g W b1 tg tc lg lc Q bb rv (upM K rk) (dnM K rk) wr)) (fun vi _ => n - (intOf vi).toNat)
        case atStart => exact ⟨0, rfl, Nat.zero_le _, HR.out⟩
        case round =>
          clear HR
          obtain ⟨j, rfl, hj, HR⟩ := hrel
          have x0 := HR.out.g3.ml.c0
          by_cases hjn : j < n
          · have i2 : (j : Int) < (n : Int) := by omega
            have x1 := HR.out.g3.ml.c1
            have hlt := cell_lt HIN.out hjn
            rw [HP.out, HQ.out] at hlt
            have x2 := HR.out.g3.ml.cells (P + j) hlt
            rw [← HP.out, cellsM_at _ HIN.out hjn, HP.out] at x2
            have HD := hide (cdist_any (HR.out.drewN 1).lf hn.2 HBD.out HWO.out HIN.out hjn)
            have hcv : (least n W i j).getD (-1) = cv (least n W i j) := rfl
            rw [hcv] at x2
            generalize cv (least n W i j) = ct at x2 HD
            have z1 : (ct != ct) = false := by simp
            have i3 : (P : Int) + (j : Int) < (Q : Int) := by omega
            have i4 : IntKind.i64.wrap ((P : Int) + (j : Int)) = ((P + j : Nat) : Int) := by rw [IntKind.wrap_i64]; omega
            have HR1 := hide (HR.out.drewN 1)
            clear hcv
            go_wp2
            first | (go_region_held (fun w' => w'.cell? ⟨b1 + 1, 0, none⟩ = some (.int .i64 n) ∧ w'.cell? ⟨b1 + 1, 1, none⟩ = some (.slice (some ⟨lg, 0, none⟩) Q lc) ∧ w'.cell? ⟨lg, P + j, none⟩ = some (.int .i64 ct)) (go_keep) (first | (go_at_call 14; refine HD.out.mono ?_; rintro e w5 ⟨rfl, h5⟩; have H6 := hide (HR1.out.later h5); have t0 := H6.out.g3.ml.c0; have t1 := H6.out.g3.ml.c1; have t2 : w5.cell? ⟨lg, P + j, none⟩ = some (.int .i64 ct) := (h5.cell (p := ⟨lg, P + j, none⟩) (block_lt_of_cell (show (wr.drewN 1).cell? ⟨lg, P + j, none⟩ = some (.int .i64 ct) from x2))).trans x2; clear h5)))
            all_goals
              go_wp2
              go_roundw
              case rel => exact ⟨j + 1, by go_num, by omega, H6.out⟩
              case measure => simp [intOf]; omega
          · have hje : j = n := by omega
            subst hje
            go_wp2
            go_roundw
            case rel => exact ⟨i + 1, by go_num, by omega, HR.out⟩
            case measure => simp [intOf]; omega
      · have hie : i = n := by omega
        subst hie
        have HD1 := hide (cdist_out (p := -1) (q := 0) HR.out.lf hn.2 HBD.out (.inl (by omega)))
        have HD2 := hide (fun (w' : World) (h : LfA i w' bb rv (upM K rk) (dnM K rk)) => cdist_out (p := 0) (q := (i : Int)) h hn.2 HBD.out (.inr ⟨by omega, by omega⟩))
        go_wp2_with (first
          | (go_at_call 14; refine (HD2.out w5 (HR.out.lf.later H5.out)).mono ?_; rintro e w6 ⟨rfl, h6⟩; have H6 := hide h6; clear h6)
          | (go_at_call 14; refine HD1.out.mono ?_; rintro e w5 ⟨rfl, h5⟩; have H5 := hide h5; have x0 := (HR.out.later h5).g3.ml.c0; clear h5))
        go_ret
        have g1 := HR.out.below.trans (H5.out.mono HR.out.below.size)
        exact ⟨rfl, g1.trans (H6.out.mono g1.size)⟩
theorem tabs_any (n : Int) (a : Option Addr) (m c : Nat) (A : List Arc) (d : Bool) (w : World) (h : ArcsAt w a m A) (hc : a = none → c = 0) :
    Calls Tryz.prog 3 #[.agg #[.int .i64 n, .slice a m c], .bool d] w fun e w' => e = .returned (.bool true) ∧ Below w.heap.size w w' := by
  by_cases hm : 300 < m
  · exact tabs_bad n a m c A d w h hc (.inl hm)
  · by_cases he : (checkM n A).2 = 0
    · obtain ⟨hn, _⟩ := checkM_ok he
      obtain ⟨k, rfl⟩ : ∃ k : Nat, n = (k : Int) := ⟨n.toNat, by omega⟩
      exact tabs_good k a m c A d w h hc (by omega) he
    · exact tabs_bad n a m c A d w h hc (.inr ⟨by omega, he⟩)
end Go.Proofs.YtojkdmkeankcgaaGreat

