/-
  What the law ClimbShort does.
-/
import Derived.Test.YtojkdmkeankcgaaGreatYAwake8
import Derived.Test.YtojkdmkeankcgaaGreatYRw
namespace Go.Proofs.YtojkdmkeankcgaaGreat
open Go.RowKit Go.Sort

set_option maxRecDepth 100000 in
set_option maxHeartbeats 1600000 in
theorem cshort_bad (n : Int) (a : Option Addr) (m c : Nat) (A : List Arc) (d : Bool) (w : World) (h : ArcsAt w a m A) (hc : a = none → c = 0) (hb : 300 < m ∨ (m ≤ 300 ∧ (checkM n A).2 ≠ 0)) :
    Calls Tryz.prog 6 #[.agg #[.int .i64 n, .slice a m c], .bool d] w fun e w' => e = .returned (.bool true) ∧ Below w.heap.size w w' := by
  have HS := hide (rin_start w n a m c A h)
  have HGR : Hid (∀ w', ArcsAt w' a m A → Calls Tryz.prog 10 #[.agg #[.int .i64 n, .slice a m c], .bool d] w' fun e w'' => e = .returned (.tuple #[.pointer none, .agg #[.int .i64 0, .slice none 0 0], .agg #[.int .i64 0, .slice none 0 0], .bool false]) ∧ Below w'.heap.size w' w'') := fun w' h' => by
    rcases hb with hm | ⟨hm, he⟩
    · exact graph_many n a m c A d w' h' hm
    · exact graph_bad n a m c A d w' h' hc hm he
  clear h hc hb
  go_enter Tryz.func6, Tryz.ntmps6
  go_wp2_with (first
    | (go_at_call 9; refine (awake8_any _).mono ?_; rintro e w1 ⟨rfl, h1⟩; have H1 := hide (HS.out.later h1); have c0 := H1.out.c0; have c1 := H1.out.c1; clear h1)
    | (go_at_call 10; refine (HGR.out _ H1.out.arcs).mono ?_; rintro e w2 ⟨rfl, h2⟩; have H2 := hide (H1.out.later h2); clear h2))
  go_ret
  exact ⟨rfl, (H2.out.below.alloc H2.out.below.size _).alloc (by have := H2.out.below.size; simp; omega) _⟩
set_option maxRecDepth 100000 in
set_option maxHeartbeats 12800000 in
theorem cshort_good (n : Nat) (a : Option Addr) (m c : Nat) (A : List Arc) (d : Bool) (w : World) (h : ArcsAt w a m A) (hc : a = none → c = 0) (hm : m ≤ 300) (he : (checkM n A).2 = 0) :
    Calls Tryz.prog 6 #[.agg #[.int .i64 n, .slice a m c], .bool d] w fun e w' => e = .returned (.bool true) ∧ Below w.heap.size w w' := by
  obtain ⟨hn0, hl, hok⟩ := checkM_ok he
  have hn : 1 ≤ n ∧ n ≤ 32 := by omega
  have HN := hide hn
  have HM := hide (mt_pos he d)
  have HWO : Hid (WOk n (tab (legsM (mtM d) A))) := fun p q x _ _ hx => tab_pos HM.out p q x hx
  have HLP : Hid (∀ a, a < n → tab (legsM (mtM d) A) a a = none) := fun a _ => tab_loop _ _ a
  have HS := hide (rin_start w n a m c A h)
  have HGR := hide (fun (w' : World) (h' : ArcsAt w' a m A) => graph_good n a m c A d w' h' hc hm he)
  obtain ⟨Q, hQ⟩ : ∃ Q, n * n = Q := ⟨_, rfl⟩
  have HQ := hide hQ
  have hQb : Q ≤ 1024 := by rw [← hQ]; exact (mul_wrap hn.2 hn.2).2
  have HQ0 : Hid (0 < n * n) := Nat.mul_pos (by omega) (by omega)
  clear h hc he hn0 hok hQ
  generalize tab (legsM (mtM d) A) = W at HWO HGR HLP
  have HL1 : Hid ((cellsM n W).length = Q) := (cellsM_len n W).trans HQ.out
  have HL2 : Hid ((cellsM n (least n W)).length = Q) := (cellsM_len n (least n W)).trans HQ.out
  go_enter Tryz.func6, Tryz.ntmps6
  go_wp2_with (first
    | (go_at_call 9; refine (awake8_any _).mono ?_; rintro e w1 ⟨rfl, h1⟩; have H1 := hide (HS.out.later h1); have c0 := H1.out.c0; have c1 := H1.out.c1; clear h1)
    | (go_at_call 10; refine (HGR.out _ H1.out.arcs).mono ?_; rintro e w2 ⟨g, vt, vl, rfl, h2, h3, h4, h5⟩; obtain ⟨tg, tc, rfl, _⟩ := h3.form (by rw [cellsM_len]; exact HQ0.out); obtain ⟨lg, lc, rfl, _⟩ := h4.form (by rw [cellsM_len]; exact HQ0.out); rw [HL1.out] at h3 ⊢; rw [HL2.out] at h4 ⊢; have H3 := hide (g3_mk (H1.out.later h5) h2 h3 h4 HQ.out); clear h2 h3 h4 h5)
    | (go_at_call 11; refine (build_any H3.out.gr HN.out HWO.out HLP.out).mono ?_; rintro e w3 ⟨bb, rfl, K, rk, Q9, rv, h1, h2, _, h4⟩; have HBD := hide h1; have H4 : Hid (L7 w.heap.size w n a m c A g W w2.heap.size tg tc lg lc Q bb rv (upM K rk) (dnM K rk) w3) := ⟨H3.out.later h4, h2⟩; clear h1 h2 h4))
  obtain ⟨b1, hb1⟩ : ∃ b, w2.heap.size = b := ⟨_, rfl⟩
  rw [hb1] at H4
  try rw [hb1]
  clear H1 H3 hb1 c0 c1
  have HB4 : Hid (Below w.heap.size w w3 ∧ w.heap.size ≤ w3.heap.size) := ⟨H4.out.below, H4.out.below.size⟩
  have HTB := hide (table8_any H4.out.lf HN.out HBD.out HWO.out)
  have HAL := hide (fun (w' : World) (f : Below w3.heap.size w3 w') => all_any (H4.out.g3.gr.later f) HN.out HWO.out)
  have HZ : Hid ((cellsM n (least n W)).length ≤ 100000) := by rw [HL2.out]; show _ ≤ _; omega
  generalize cellsM n (least n W) = zs at HTB HAL HZ
  clear H4
  go_wp2_with (first
    | (go_at_call 13; refine HTB.out.mono ?_; rintro e w4 ⟨v, rfl, h1, h2⟩; obtain ⟨va, vc, rfl⟩ := h1.shape; have H5 := hide (And.intro h1 h2); clear h1 h2)
    | (go_at_call 21; refine (HAL.out _ H5.out.2).mono ?_; rintro e w5 ⟨v2, rfl, h1, h2⟩; obtain ⟨ua, uc, rfl⟩ := h1.shape; have H6 := hide (And.intro h1 h2); have hf := below_two (Below.refl w5.heap.size w5) (Nat.le_refl _) (.cells #[.int .i64 n, .slice va zs.length vc] 29) (.cells #[.int .i64 n, .slice ua zs.length uc] 29); have HF := hide hf; have HIA := hide (And.intro ((intsAt_row H5.out.1).later (H6.out.2.trans (hf.mono H6.out.2.size))) ((intsAt_row H6.out.1).later hf)); clear h1 h2 hf)
    | (go_at_call 12; refine (same_true HIA.out.1 HIA.out.2 HZ.out).mono ?_; rintro e w6 ⟨rfl, h6⟩; have H7 := hide h6; clear h6))
  go_ret
  have g1 := HB4.out.1.trans (H5.out.2.mono HB4.out.2)
  have g2 := g1.trans (H6.out.2.mono g1.size)
  have g3 := g2.trans (HF.out.mono g2.size)
  exact ⟨rfl, g3.trans (H7.out.mono g3.size)⟩
theorem cshort_any (n : Int) (a : Option Addr) (m c : Nat) (A : List Arc) (d : Bool) (w : World) (h : ArcsAt w a m A) (hc : a = none → c = 0) :
    Calls Tryz.prog 6 #[.agg #[.int .i64 n, .slice a m c], .bool d] w fun e w' => e = .returned (.bool true) ∧ Below w.heap.size w w' := by
  by_cases hm : 300 < m
  · exact cshort_bad n a m c A d w h hc (.inl hm)
  · by_cases he : (checkM n A).2 = 0
    · obtain ⟨hn, _⟩ := checkM_ok he
      obtain ⟨k, rfl⟩ : ∃ k : Nat, n = (k : Int) := ⟨n.toNat, by omega⟩
      exact cshort_good k a m c A d w h hc (by omega) he
    · exact cshort_bad n a m c A d w h hc (.inr ⟨by omega, he⟩)
end Go.Proofs.YtojkdmkeankcgaaGreat

