/-
  What the law ShortTurned does.
-/
import Derived.Test.YtkgpjhechopfhaaLawK
import Derived.Test.YtkgpjhechopfhaaCount
import Derived.Deep.CutRange
namespace Go.Proofs.Ytkgpjhechopfhaa
open Go.RowKit Go.Sort

set_option maxRecDepth 100000 in
set_option maxHeartbeats 1600000 in
theorem shTurned_bad (n : Int) (a : Option Addr) (m c : Nat) (A : List Arc) (d : Bool) (w : World) (h : ArcsAt w a m A) (hc : a = none → c = 0) (hb : 300 < m ∨ (m ≤ 300 ∧ (checkM n A).2 ≠ 0)) :
    Calls Try.prog 11 #[.agg #[.int .i64 n, .slice a m c], .bool d] w fun e w' => e = .returned (.bool true) ∧ Below w.heap.size w w' := by
  have HS := hide (rin_start w n a m c A h)
  have HGR : Hid (∀ w', ArcsAt w' a m A → Calls Try.prog 31 #[.agg #[.int .i64 n, .slice a m c], .bool d] w' fun e w'' => e = .returned (.tuple #[.pointer none, .agg #[.int .i64 0, .slice none 0 0], .agg #[.int .i64 0, .slice none 0 0], .bool false]) ∧ Below w'.heap.size w' w'') := fun w' h' => by
    rcases hb with hm | ⟨hm, he⟩
    · exact graph_many n a m c A d w' h' hm
    · exact graph_bad n a m c A d w' h' hc hm he
  clear h hc hb
  go_enter Try.func11, Try.ntmps11
  go_wp2_with (first
    | (go_at_call 30; refine (awakeS_any _).mono ?_; rintro e w1 ⟨rfl, h1⟩; have H1 := hide (HS.out.later h1); have c0 := H1.out.c0; have c1 := H1.out.c1; clear h1)
    | (go_at_call 31; refine (HGR.out _ H1.out.arcs).mono ?_; rintro e w2 ⟨rfl, h2⟩; have H2 := hide (H1.out.later h2); clear h2))
  go_ret
  exact ⟨rfl, (H2.out.below.alloc H2.out.below.size _).alloc (by have := H2.out.below.size; simp; omega) _⟩
set_option maxRecDepth 100000 in
set_option maxHeartbeats 6400000 in
theorem shTurned_good (n : Nat) (a : Option Addr) (m c : Nat) (A : List Arc) (d : Bool) (w : World) (h : ArcsAt w a m A) (hc : a = none → c = 0) (hm : m ≤ 300) (he : (checkM n A).2 = 0) :
    Calls Try.prog 11 #[.agg #[.int .i64 n, .slice a m c], .bool d] w fun e w' => e = .returned (.bool true) ∧ Below w.heap.size w w' := by
  obtain ⟨hn0, hl, hok⟩ := checkM_ok he
  have hn : 1 ≤ n ∧ n ≤ 32 := by omega
  have HN := hide hn
  have HM := hide (mt_pos he d)
  have HWO : Hid (WOk n (tab (legsM (mtM d) A))) := fun p q x _ _ hx => tab_pos HM.out p q x hx
  have HS := hide (rin_start w n a m c A h)
  have HGR := hide (fun (w' : World) (h' : ArcsAt w' a m A) => graph_good n a m c A d w' h' hc hm he)
  have HLL : Hid ((legsM (mtM d) A).length ≤ 300) := by show _ ≤ _; have := legsM_le (mtM d) A; omega
  obtain ⟨Q, hQ⟩ : ∃ Q, n * n = Q := ⟨_, rfl⟩
  have HQ := hide hQ
  have hQb : Q ≤ 1024 := by rw [← hQ]; exact (mul_wrap hn.2 hn.2).2
  have HQ0 : Hid (0 < n * n) := Nat.mul_pos (by omega) (by omega)
  have HSL := hide (Cn.sum_tab n (legsM (mtM d) A))
  clear h hc he hn0 hok hQ
  generalize tab (legsM (mtM d) A) = W at HWO HGR HSL
  have HL1 : Hid ((cellsM n W).length = Q) := (cellsM_len n W).trans HQ.out
  have HL2 : Hid ((cellsM n (least n W)).length = Q) := (cellsM_len n (least n W)).trans HQ.out
  have HTW : Hid (∀ p q, p < n → q < n → least n W p q = least n (tab (turnTo n W n)) q p) := fun p q hp hq => least_turn HWO.out (fun x y hx hy => turn_tab n W x y hx hy) hp hq
  go_enter Try.func11, Try.ntmps11
  go_upto_region 7 with (first
    | (go_at_call 30; refine (awakeS_any _).mono ?_; rintro e w1 ⟨rfl, h1⟩; have H1 := hide (HS.out.later h1); have c0 := H1.out.c0; have c1 := H1.out.c1; clear h1)
    | (go_at_call 31; refine (HGR.out _ H1.out.arcs).mono ?_; rintro e w2 ⟨g, vt, vl, rfl, h2, h3, h4, h5⟩; obtain ⟨tg, tc, rfl, _⟩ := h3.form (by rw [cellsM_len]; exact HQ0.out); obtain ⟨lg, lc, rfl, _⟩ := h4.form (by rw [cellsM_len]; exact HQ0.out); rw [HL1.out] at h3 ⊢; rw [HL2.out] at h4 ⊢; have H3 := hide (g3_mk (H1.out.later h5) h2 h3 h4 HQ.out); clear h2 h3 h4 h5)
    | (fail)
    | (go_at_call 35; have := H4; refine (all_any H4.out.2.1 HN.out (turn_wok HWO.out)).mono ?_; rintro e w5 ⟨v5, rfl, h1, h2⟩; obtain ⟨gb, cb, rfl, _⟩ := h1.form (by rw [cellsM_len]; exact HQ0.out); rw [cellsM_len, HQ.out] at h1 ⊢; have H5 := hide (And.intro (H4.out.1.later h2) (And.intro h1 (H4.out.2.2.later (Nat.le_refl _) h2))); clear h1 h2)
    | (go_at_call 35; refine (all_any H3.out.gr HN.out HWO.out).mono ?_; rintro e w3 ⟨v3, rfl, h1, h2⟩; obtain ⟨ga, ca, rfl, _⟩ := h1.form (by rw [cellsM_len]; exact HQ0.out); rw [cellsM_len, HQ.out] at h1 ⊢; have H35 := hide (And.intro (H3.out.later h2) h1); clear h1 h2)
    | (go_at_call 28; refine (turned_any H35.out.1.gr HN.out (Nat.le_trans HSL.out HLL.out)).mono ?_; rintro e w4 ⟨g4, rfl, h1, h2⟩; have H4 := hide (And.intro (H35.out.1.later h2) (And.intro h1 (H35.out.2.later (Nat.le_refl _) h2))); clear h1 h2))
  have HZ := hide (m2_mk (n := n) H5.out.1.rin.below H5.out.1.rin.below.size H5.out.2.2 H5.out.2.1 HL2.out ((cellsM_len n (least n (tab (turnTo n W n)))).trans HQ.out))
  obtain ⟨b, hb⟩ : ∃ b, w5.heap.size = b := ⟨_, rfl⟩
  rw [hb] at HZ
  try rw [hb]
  generalize (w5.alloc (.cells #[.int .i64 n, .slice (some ⟨ga, 0, none⟩) Q ca] 41)).alloc (.cells #[.int .i64 n, .slice (some ⟨gb, 0, none⟩) Q cb] 41) = W6 at HZ ⊢
  have r0 := HZ.out.a.c0
  have r1 := HZ.out.a.c1
  have s0 := HZ.out.b.c0
  have s1 := HZ.out.b.c1
  have hne : ((n : Int) != (n : Int)) = false := by simp
  have hne2 : ((Q : Int) != (Q : Int)) = false := by simp
  clear H1 H3 H35 H4 H5 hb c0 c1
  go_wp2
  clear r0 r1 s0 s1
  go_loopw [11] (fun vi wr => ∃ i : Nat, vi = .int .i64 i ∧ i ≤ n ∧ Hid (M2 w.heap.size w n b ga ca gb cb Q (cellsM n (least n W)) (cellsM n (least n (tab (turnTo n W n)))) wr)) (fun vi _ => n - (intOf vi).toNat)
  case atStart => exact ⟨0, rfl, Nat.zero_le _, HZ.out⟩
  case round =>
    clear HZ
    obtain ⟨i, rfl, hi, HR⟩ := hrel
    have r0 := HR.out.a.c0
    by_cases hlt : i < n
    · have i1 : (i : Int) < (n : Int) := by omega
      obtain ⟨hmul, hmb⟩ := mul_wrap (show i ≤ 32 by omega) hn.2
      obtain ⟨Pi, hPi⟩ : ∃ P, i * n = P := ⟨_, rfl⟩
      have HPI := hide hPi
      rw [hPi] at hmul hmb
      clear hPi
      go_wp2
      clear r0
      go_loopw [12] (fun vi wr => ∃ j : Nat, vi = .int .i64 j ∧ j ≤ n ∧ Hid (M2 w.heap.size w n b ga ca gb cb Q (cellsM n (least n W)) (cellsM n (least n (tab (turnTo n W n)))) wr)) (fun vi _ => n - (intOf vi).toNat)
      case atStart => exact ⟨0, rfl, Nat.zero_le _, HR.out⟩
      case round =>
        clear HR
        obtain ⟨j, rfl, hj, HR⟩ := hrel
        have r0 := HR.out.a.c0
        by_cases hjn : j < n
        · have j1 : (j : Int) < (n : Int) := by omega
          obtain ⟨hmulj, hmbj⟩ := mul_wrap (show j ≤ 32 by omega) hn.2
          obtain ⟨Pj, hPj⟩ : ∃ P, j * n = P := ⟨_, rfl⟩
          have HPJ := hide hPj
          rw [hPj] at hmulj hmbj
          have l1 := cell_lt hlt hjn
          have l2 := cell_lt hjn hlt
          rw [HPI.out, HQ.out] at l1
          rw [HPJ.out, HQ.out] at l2
          have x1 := HR.out.a.cells (Pi + j) l1
          have x2 := HR.out.b.cells (Pj + i) l2
          have e1 : (cellsM n (least n W))[Pi + j]! = (least n W i j).getD (-1) := by rw [← HPI.out]; exact cellsM_at _ hlt hjn
          have e2 : (cellsM n (least n (tab (turnTo n W n))))[Pj + i]! = (least n W i j).getD (-1) := by rw [← HPJ.out, cellsM_at _ hjn hlt, HTW.out i j hlt hjn]
          rw [e1] at x1
          rw [e2] at x2
          generalize (least n W i j).getD (-1) = z at x1 x2
          have r1 := HR.out.a.c1
          have s1 := HR.out.b.c1
          have hz : (z != z) = false := by simp
          have w1 : IntKind.i64.wrap ((Pi : Int) + (j : Int)) = ((Pi + j : Nat) : Int) := by rw [IntKind.wrap_i64]; omega
          have w2 : IntKind.i64.wrap ((Pj : Int) + (i : Int)) = ((Pj + i : Nat) : Int) := by rw [IntKind.wrap_i64]; omega
          have k1 : (Pi : Int) + (j : Int) < (Q : Int) := by omega
          have k2 : (Pj : Int) + (i : Int) < (Q : Int) := by omega
          clear hPj e1 e2
          go_wp2
          go_quiet (fail)
          go_wp2
          go_roundw
          case rel => exact ⟨j + 1, by go_num, by omega, HR.out.drewN nq⟩
          case measure => simp [intOf]; omega
        · go_wp2
          go_roundw
          case rel => exact ⟨i + 1, by go_num, by omega, HR.out⟩
          case measure => simp [intOf]; omega
    · go_wp2
      go_ret
      exact ⟨rfl, HR.out.below⟩
theorem shTurned_any (n : Int) (a : Option Addr) (m c : Nat) (A : List Arc) (d : Bool) (w : World) (h : ArcsAt w a m A) (hc : a = none → c = 0) :
    Calls Try.prog 11 #[.agg #[.int .i64 n, .slice a m c], .bool d] w fun e w' => e = .returned (.bool true) ∧ Below w.heap.size w w' := by
  by_cases hm : 300 < m
  · exact shTurned_bad n a m c A d w h hc (.inl hm)
  · by_cases he : (checkM n A).2 = 0
    · obtain ⟨hn, _⟩ := checkM_ok he
      obtain ⟨k, rfl⟩ : ∃ k : Nat, n = (k : Int) := ⟨n.toNat, by omega⟩
      exact shTurned_good k a m c A d w h hc (by omega) he
    · exact shTurned_bad n a m c A d w h hc (.inr ⟨by omega, he⟩)
end Go.Proofs.Ytkgpjhechopfhaa
