/-
  What the law ClimbTurned does.
-/
import Derived.Test.YtojkdmkeankcgaaGreatZAwake8
import Derived.Test.YtojkdmkeankcgaaGreatTurn
import Derived.Test.YtojkdmkeankcgaaGreatCount
namespace Go.Proofs.YtojkdmkeankcgaaGreat
open Go.RowKit Go.Sort

theorem turn_wok8 {n : Nat} {W : Nat → Nat → Option Int} (h : WOk n W) : WOk n (tab (turnTo n W n)) := fun a b v ha hb e => h b a v hb ha (by rw [← turn_tab n W b a hb ha]; exact e)
set_option maxRecDepth 100000 in
set_option maxHeartbeats 1600000 in
theorem cturn_bad (n : Int) (a : Option Addr) (m c : Nat) (A : List Arc) (d : Bool) (w : World) (h : ArcsAt w a m A) (hc : a = none → c = 0) (hb : 300 < m ∨ (m ≤ 300 ∧ (checkM n A).2 ≠ 0)) :
    Calls Tryz.prog 8 #[.agg #[.int .i64 n, .slice a m c], .bool d] w fun e w' => e = .returned (.bool true) ∧ Below w.heap.size w w' := by
  have HS := hide (rin_start w n a m c A h)
  have HGR : Hid (∀ w', ArcsAt w' a m A → Calls Tryz.prog 10 #[.agg #[.int .i64 n, .slice a m c], .bool d] w' fun e w'' => e = .returned (.tuple #[.pointer none, .agg #[.int .i64 0, .slice none 0 0], .agg #[.int .i64 0, .slice none 0 0], .bool false]) ∧ Below w'.heap.size w' w'') := fun w' h' => by
    rcases hb with hm | ⟨hm, he⟩
    · exact graph_many n a m c A d w' h' hm
    · exact graph_bad n a m c A d w' h' hc hm he
  clear h hc hb
  go_enter Tryz.func8, Tryz.ntmps8
  go_wp2_with (first
    | (go_at_call 9; refine (awake8_any _).mono ?_; rintro e w1 ⟨rfl, h1⟩; have H1 := hide (HS.out.later h1); have c0 := H1.out.c0; have c1 := H1.out.c1; clear h1)
    | (go_at_call 10; refine (HGR.out _ H1.out.arcs).mono ?_; rintro e w2 ⟨rfl, h2⟩; have H2 := hide (H1.out.later h2); clear h2))
  go_ret
  exact ⟨rfl, (H2.out.below.alloc H2.out.below.size _).alloc (by have := H2.out.below.size; simp; omega) _⟩
set_option maxRecDepth 100000 in
set_option maxHeartbeats 12800000 in
theorem cturn_good (n : Nat) (a : Option Addr) (m c : Nat) (A : List Arc) (d : Bool) (w : World) (h : ArcsAt w a m A) (hc : a = none → c = 0) (hm : m ≤ 300) (he : (checkM n A).2 = 0) :
    Calls Tryz.prog 8 #[.agg #[.int .i64 n, .slice a m c], .bool d] w fun e w' => e = .returned (.bool true) ∧ Below w.heap.size w w' := by
  obtain ⟨hn0, hl, hok⟩ := checkM_ok he
  have hn : 1 ≤ n ∧ n ≤ 32 := by omega
  have HN := hide hn
  have HM := hide (mt_pos he d)
  have HWO : Hid (WOk n (tab (legsM (mtM d) A))) := fun p q x _ _ hx => tab_pos HM.out p q x hx
  have HLP : Hid (∀ a, a < n → tab (legsM (mtM d) A) a a = none) := fun a _ => tab_loop _ _ a
  have HS := hide (rin_start w n a m c A h)
  have HGR := hide (fun (w' : World) (h' : ArcsAt w' a m A) => graph_good n a m c A d w' h' hc hm he)
  obtain ⟨Q, hQ⟩ : ∃ Q, n * n = Q := ⟨_, rfl⟩
  have HQ := hide hQ
  have hQb : Q ≤ 1024 := by rw [← hQ]; exact (mul_wrap hn.2 hn.2).2
  have HQ0 : Hid (0 < n * n) := Nat.mul_pos (by omega) (by omega)
  have HLL : Hid ((legsM (mtM d) A).length ≤ 300) := by show _ ≤ _; have := legsM_le (mtM d) A; omega
  have HSL := hide (Cn.sum_tab n (legsM (mtM d) A))
  clear h hc he hn0 hok hQ
  generalize tab (legsM (mtM d) A) = W at HWO HGR HLP HSL
  have HL1 : Hid ((cellsM n W).length = Q) := (cellsM_len n W).trans HQ.out
  have HL2 : Hid ((cellsM n (least n W)).length = Q) := (cellsM_len n (least n W)).trans HQ.out
  go_enter Tryz.func8, Tryz.ntmps8
  go_wp2_with (first
    | (go_at_call 9; refine (awake8_any _).mono ?_; rintro e w1 ⟨rfl, h1⟩; have H1 := hide (HS.out.later h1); have c0 := H1.out.c0; have c1 := H1.out.c1; clear h1)
    | (go_at_call 10; refine (HGR.out _ H1.out.arcs).mono ?_; rintro e w2 ⟨g, vt, vl, rfl, h2, h3, h4, h5⟩; obtain ⟨tg, tc, rfl, _⟩ := h3.form (by rw [cellsM_len]; exact HQ0.out); obtain ⟨lg, lc, rfl, _⟩ := h4.form (by rw [cellsM_len]; exact HQ0.out); rw [HL1.out] at h3 ⊢; rw [HL2.out] at h4 ⊢; have H3 := hide (g3_mk (H1.out.later h5) h2 h3 h4 HQ.out); clear h2 h3 h4 h5)
    | (go_at_call 11; have := H5; refine (build_any H5.out.2 HN.out (turn_wok8 HWO.out) (fun a ha => by rw [turn_tab n W a a ha ha]; exact HLP.out a ha)).mono ?_; rintro e w5 ⟨b2, rfl, K2, rk2, Q92, rv2, h1, h2, _, h4⟩; have HBD2 := hide h1; have H6 := hide (And.intro (H5.out.1.later h4) h2); clear h1 h2 h4)
    | (go_at_call 22; refine (turned_any H4.out.g3.gr HN.out (Nat.le_trans HSL.out HLL.out)).mono ?_; rintro e w4 ⟨g4, rfl, h1, h2⟩; have H5 := hide (And.intro (H4.out.later h2) h1); clear h1 h2)
    | (go_at_call 11; refine (build_any H3.out.gr HN.out HWO.out HLP.out).mono ?_; rintro e w3 ⟨bb, rfl, K, rk, Q9, rv, h1, h2, _, h4⟩; have HBD := hide h1; have H4 : Hid (L7 w.heap.size w n a m c A g W w2.heap.size tg tc lg lc Q bb rv (upM K rk) (dnM K rk) w3) := ⟨H3.out.later h4, h2⟩; clear h1 h2 h4))
  obtain ⟨b1, hb1⟩ : ∃ b, w2.heap.size = b := ⟨_, rfl⟩
  rw [hb1] at H6
  try rw [hb1]
  clear H1 H3 H4 H5 hb1 c0 c1
  have HTW : Hid (∀ p q, p < n → q < n → least n W p q = least n (tab (turnTo n W n)) q p) := fun p q hp hq => least_turn HWO.out (fun x y hx hy => turn_tab n W x y hx hy) hp hq
  have HWT := hide (turn_wok8 HWO.out)
  go_loopw [11] (fun vi wr => ∃ i : Nat, vi = .int .i64 i ∧ i ≤ n ∧ Hid (L7 w.heap.size w n a m c A g W b1 tg tc lg lc Q bb rv (upM K rk) (dnM K rk) wr ∧ LfA n wr b2 rv2 (upM K2 rk2) (dnM K2 rk2))) (fun vi _ => n - (intOf vi).toNat)
  case atStart => exact ⟨0, rfl, Nat.zero_le _, H6.out⟩
  case round =>
    clear H6
    obtain ⟨i, rfl, hi, HR⟩ := hrel
    have x0 := HR.out.1.g3.ml.c0
    by_cases hin : i < n
    · have i1 : (i : Int) < (n : Int) := by omega
      have HIN := hide hin
      go_wp2
      clear x0
      go_loopw [12] (fun vi wr => ∃ j : Nat, vi = .int .i64 j ∧ j ≤ n ∧ Hid (L7 w.heap.size w n a m c A g W b1 tg tc lg lc Q bb rv (upM K rk) (dnM K rk) wr ∧ LfA n wr b2 rv2 (upM K2 rk2) (dnM K2 rk2))) (fun vi _ => n - (intOf vi).toNat)
      case atStart => exact ⟨0, rfl, Nat.zero_le _, HR.out⟩
      case round =>
        clear HR
        obtain ⟨j, rfl, hj, HR⟩ := hrel
        have x0 := HR.out.1.g3.ml.c0
        by_cases hjn : j < n
        · have i2 : (j : Int) < (n : Int) := by omega
          have HD1 := hide (cdist_any HR.out.1.lf hn.2 HBD.out HWO.out HIN.out hjn)
          have HD2 := hide (fun (w' : World) (h : LfA n w' b2 rv2 (upM K2 rk2) (dnM K2 rk2)) => cdist_any h hn.2 HBD2.out HWT.out hjn HIN.out)
          rw [← HTW.out i j HIN.out hjn] at HD2
          generalize cv (least n W i j) = ct at HD1 HD2
          have z1 : (ct != ct) = false := by simp
          go_wp2_with (first
            | (go_at_call 14; refine (HD2.out w5 H7.out.2).mono ?_; rintro e w6 ⟨rfl, h6⟩; have H8 := hide (And.intro (H7.out.1.later h6) (H7.out.2.later h6)); clear h6)
            | (go_at_call 14; refine HD1.out.mono ?_; rintro e w5 ⟨rfl, h5⟩; have H7 := hide (And.intro (HR.out.1.later h5) (HR.out.2.later h5)); clear h5))
          go_roundw
          case rel => exact ⟨j + 1, by go_num, by omega, H8.out⟩
          case measure => simp [intOf]; omega
        · have hje : j = n := by omega
          subst hje
          go_wp2
          go_roundw
          case rel => exact ⟨i + 1, by go_num, by omega, HR.out⟩
          case measure => simp [intOf]; omega
    · have hie : i = n := by omega
      subst hie
      go_wp2
      go_ret
      exact ⟨rfl, HR.out.1.below⟩
theorem cturn_any (n : Int) (a : Option Addr) (m c : Nat) (A : List Arc) (d : Bool) (w : World) (h : ArcsAt w a m A) (hc : a = none → c = 0) :
    Calls Tryz.prog 8 #[.agg #[.int .i64 n, .slice a m c], .bool d] w fun e w' => e = .returned (.bool true) ∧ Below w.heap.size w w' := by
  by_cases hm : 300 < m
  · exact cturn_bad n a m c A d w h hc (.inl hm)
  · by_cases he : (checkM n A).2 = 0
    · obtain ⟨hn, _⟩ := checkM_ok he
      obtain ⟨k, rfl⟩ : ∃ k : Nat, n = (k : Int) := ⟨n.toNat, by omega⟩
      exact cturn_good k a m c A d w h hc (by omega) he
    · exact cturn_bad n a m c A d w h hc (.inr ⟨by omega, he⟩)
end Go.Proofs.YtojkdmkeankcgaaGreat

