/-
  What the law LiftAgain does.
-/
import Derived.Test.YtlflbjnglmbdeaaZLk
import Derived.Deep.CutRange
namespace Go.Proofs.Ytlflbjnglmbdeaa
open Go.RowKit Go.Sort

/-- Two graphs that were lifted alike. -/
structure L9 (B : Nat) (w : World) (n b lg lc Q : Nat) (ba bb : LfB) (rva rvb : Nat → Int) (U V : Mx) (wr : World) : Prop where
  l8 : L8 B w n b lg lc Q ba rva U V wr
  lb : LfA n wr bb rvb U V
theorem L9.later {B n b lg lc Q : Nat} {w wr w' : World} {ba bb : LfB} {rva rvb : Nat → Int} {U V : Mx} (h : L9 B w n b lg lc Q ba bb rva rvb U V wr) (f : Below wr.heap.size wr w') : L9 B w n b lg lc Q ba bb rva rvb U V w' := ⟨h.l8.later f, h.lb.later f⟩
set_option maxRecDepth 100000 in
set_option maxHeartbeats 1600000 in
theorem again_bad (n : Int) (a : Option Addr) (m c : Nat) (A : List Arc) (d : Bool) (w : World) (h : ArcsAt w a m A) (hc : a = none → c = 0) (hb : 300 < m ∨ (m ≤ 300 ∧ (checkM n A).2 ≠ 0)) :
    Calls Try.prog 10 #[.agg #[.int .i64 n, .slice a m c], .bool d] w fun e w' => e = .returned (.bool true) ∧ Below w.heap.size w w' := by
  have HS := hide (rin_start w n a m c A h)
  have HGR : Hid (∀ w', ArcsAt w' a m A → Calls Try.prog 20 #[.agg #[.int .i64 n, .slice a m c], .bool d] w' fun e w'' => e = .returned (.tuple #[.pointer none, .agg #[.int .i64 0, .slice none 0 0], .agg #[.int .i64 0, .slice none 0 0], .bool false]) ∧ Below w'.heap.size w' w'') := fun w' h' => by
    rcases hb with hm | ⟨hm, he⟩
    · exact graph_many n a m c A d w' h' hm
    · exact graph_bad n a m c A d w' h' hc hm he
  clear h hc hb
  go_enter Try.func10, Try.ntmps10
  go_wp2_with (first
    | (go_at_call 25; refine (awakeL_any _).mono ?_; rintro e w1 ⟨rfl, h1⟩; have H1 := hide (HS.out.later h1); have c0 := H1.out.c0; have c1 := H1.out.c1; clear h1)
    | (go_at_call 20; refine (HGR.out _ H1.out.arcs).mono ?_; rintro e w2 ⟨rfl, h2⟩; have H2 := hide (H1.out.later h2); clear h2))
  go_ret
  exact ⟨rfl, (H2.out.below.alloc H2.out.below.size _).alloc (by have := H2.out.below.size; simp; omega) _⟩
set_option maxRecDepth 100000 in
set_option maxHeartbeats 12800000 in
theorem again_good (n : Nat) (a : Option Addr) (m c : Nat) (A : List Arc) (d : Bool) (w : World) (h : ArcsAt w a m A) (hc : a = none → c = 0) (hm : m ≤ 300) (he : (checkM n A).2 = 0) :
    Calls Try.prog 10 #[.agg #[.int .i64 n, .slice a m c], .bool d] w fun e w' => e = .returned (.bool true) ∧ Below w.heap.size w w' := by
  obtain ⟨hn0, hl, hok⟩ := checkM_ok he
  have hn : 1 ≤ n ∧ n ≤ 32 := by omega
  have HN := hide hn
  have HM := hide (mt_pos he d)
  have HWO : Hid (WOk n (tab (legsM (mtM d) A))) := fun p q x _ _ hx => tab_pos HM.out p q x hx
  have HLP : Hid (∀ a, a < n → tab (legsM (mtM d) A) a a = none) := fun a _ => tab_loop _ _ a
  have HS := hide (rin_start w n a m c A h)
  have HGR := hide (fun (w' : World) (h' : ArcsAt w' a m A) => graph_good n a m c A d w' h' hc hm he)
  obtain ⟨Q, hQ⟩ : ∃ Q, n * n = Q := ⟨_, rfl⟩
  have HQ := hide hQ
  have hQb : Q ≤ 1024 := by rw [← hQ]; exact (mul_wrap hn.2 hn.2).2
  have HQ0 : Hid (0 < n * n) := Nat.mul_pos (by omega) (by omega)
  clear h hc he hn0 hok hQ
  generalize tab (legsM (mtM d) A) = W at HWO HGR HLP
  have HL1 : Hid ((cellsM n W).length = Q) := (cellsM_len n W).trans HQ.out
  have HL2 : Hid ((cellsM n (least n W)).length = Q) := (cellsM_len n (least n W)).trans HQ.out
  go_enter Try.func10, Try.ntmps10
  go_wp2_with (first
    | (go_at_call 25; refine (awakeL_any _).mono ?_; rintro e w1 ⟨rfl, h1⟩; have H1 := hide (HS.out.later h1); have c0 := H1.out.c0; have c1 := H1.out.c1; clear h1)
    | (go_at_call 20; refine (HGR.out _ H1.out.arcs).mono ?_; rintro e w2 ⟨g, vt, vl, rfl, h2, h3, h4, h5⟩; obtain ⟨tg, tc, rfl, _⟩ := h3.form (by rw [cellsM_len]; exact HQ0.out); obtain ⟨lg, lc, rfl, _⟩ := h4.form (by rw [cellsM_len]; exact HQ0.out); rw [HL1.out] at h3 ⊢; rw [HL2.out] at h4 ⊢; have H3 := hide (g3_mk (H1.out.later h5) h2 h3 h4 HQ.out); clear h2 h3 h4 h5)
    | (go_at_call 26; refine (build_any H4.out.g3.gr HN.out HWO.out HLP.out).mono ?_; rintro e w4 ⟨bc, rfl, K2, rk2, Q8, rv2, h1, h2, _, h4⟩; have HBD2 := hide h1; have H5 : Hid (L7 w.heap.size w n a m c A g W w2.heap.size tg tc lg lc Q bb rv (upM K rk) (dnM K rk) w4 ∧ LfA n w4 bc rv2 (upM K2 rk2) (dnM K2 rk2)) := ⟨H4.out.later h4, h2⟩; clear h1 h2 h4)
    | (go_at_call 26; refine (build_any H3.out.gr HN.out HWO.out HLP.out).mono ?_; rintro e w3 ⟨bb, rfl, K, rk, Q9, rv, h1, h2, _, h4⟩; have HBD := hide h1; have H4 : Hid (L7 w.heap.size w n a m c A g W w2.heap.size tg tc lg lc Q bb rv (upM K rk) (dnM K rk) w3) := ⟨H3.out.later h4, h2⟩; clear h1 h2 h4))
  obtain ⟨b1, hb1⟩ : ∃ b, w2.heap.size = b := ⟨_, rfl⟩
  rw [hb1] at H5
  try rw [hb1]
  obtain ⟨e1, e2, e3⟩ := HBD.out.run.eq HBD2.out.run
  subst e1 e2 e3
  have HS : Hid (L9 w.heap.size w n (b1 + 1) lg lc Q bb bc rv rv2 (upM K rk) (dnM K rk) w4) := ⟨H5.out.1.l8 H5.out.1.below.size, H5.out.2⟩
  clear H1 H3 H4 H5 hb1 c0 c1
  go_loopw [11] (fun vi wr => ∃ p : Nat, vi = .int .i64 p ∧ p ≤ n ∧ Hid (L9 w.heap.size w n (b1 + 1) lg lc Q bb bc rv rv2 (upM K rk) (dnM K rk) wr)) (fun vi _ => n - (intOf vi).toNat)
  case atStart => exact ⟨0, rfl, Nat.zero_le _, HS.out⟩
  case round =>
    clear HS
    obtain ⟨p, rfl, hp, HR⟩ := hrel
    have x0 := HR.out.l8.c0
    by_cases hpn : p < n
    · have i1 : (p : Int) < (n : Int) := by omega
      have HPN := hide hpn
      have hrk := bd_all HBD.out p hpn
      have HRA := hide (lrank_any HR.out.l8.lf HN.out.2 hpn)
      have HRB := hide (lrank_any HR.out.lb HN.out.2 hpn)
      rw [HBD.out.rvs p hpn hrk] at HRA
      rw [HBD2.out.rvs p hpn hrk] at HRB
      generalize rk p = kp at HRA HRB
      have HU := hide (upL_len n (upM K rk) p)
      have HD := hide (dnL_len n (dnM K rk) p)
      obtain ⟨LU, hLU⟩ : ∃ L, upL n (upM K rk) p = L := ⟨_, rfl⟩
      obtain ⟨LD, hLD⟩ : ∃ L, dnL n (dnM K rk) p = L := ⟨_, rfl⟩
      have HLU := hide hLU
      have HLD := hide hLD
      have z1 : ((kp : Int) != (kp : Int)) = false := by simp
      have z2 : ((LU.length : Int) != (LU.length : Int)) = false := by simp
      have z3 : ((LD.length : Int) != (LD.length : Int)) = false := by simp
      have HUL : Hid (LU.length ≤ 32) := by have := HU.out; rw [hLU] at this; exact Nat.le_trans this HN.out.2
      have HDL : Hid (LD.length ≤ 32) := by have := HD.out; rw [hLD] at this; exact Nat.le_trans this HN.out.2
      clear hLU hLD hrk HU HD
      go_wp2_with (first
        | (go_at_call 28; have T9 := T1; refine HRB.out.mono ?_; rintro e w5 ⟨rfl, hw⟩; rw [hw]; clear hw)
        | (go_at_call 28; refine HRA.out.mono ?_; rintro e w5 ⟨rfl, hw⟩; rw [hw]; clear hw; have T1 : True := trivial)
        | (go_at_call 29; refine (lup_any HA1.out.lb HN.out.2 HPN.out).mono ?_; rintro e w7 ⟨v7, rfl, h1, h2⟩; rw [HLU.out] at h1; have HA2 := hide (HA1.out.later h2); obtain ⟨va7, vc7, rfl⟩ := h1.shape; clear h1 h2)
        | (go_at_call 29; refine (lup_any HR.out.l8.lf HN.out.2 HPN.out).mono ?_; rintro e w6 ⟨v6, rfl, h1, h2⟩; rw [HLU.out] at h1; have HA1 := hide (HR.out.later h2); obtain ⟨va6, vc6, rfl⟩ := h1.shape; clear h1 h2)
        | (go_at_call 30; refine (ldown_any HA3.out.lb HN.out.2 HPN.out).mono ?_; rintro e w9 ⟨v9, rfl, h1, h2⟩; rw [HLD.out] at h1; have HA4 := hide (HA3.out.later h2); obtain ⟨va9, vc9, rfl⟩ := h1.shape; clear h1 h2)
        | (go_at_call 30; refine (ldown_any HA2.out.l8.lf HN.out.2 HPN.out).mono ?_; rintro e w8 ⟨v8, rfl, h1, h2⟩; rw [HLD.out] at h1; have HA3 := hide (HA2.out.later h2); obtain ⟨va8, vc8, rfl⟩ := h1.shape; clear h1 h2))
      go_roundw
      case rel => exact ⟨p + 1, by go_num, by have := HPN.out; omega, HA4.out⟩
      case measure => have := HPN.out; simp [intOf]; omega
    · have i1 : ¬ (p : Int) < (n : Int) := by omega
      obtain ⟨LL, hLL⟩ : ∃ L, linksL n (upM K rk) (dnM K rk) n = L := ⟨_, rfl⟩
      have HLL := hide hLL
      have hll : LL.length ≤ 2048 := by
        rw [← hLL]
        have h1 := linksL_len n (upM K rk) (dnM K rk) n
        have h2 := Nat.mul_le_mul (show n ≤ 32 by omega) (show n + n ≤ 64 by omega)
        omega
      clear hLL
      go_wp2_with (first
        | (go_at_call 31; refine (llinks_any HA1.out.1.lb HN.out.2).mono ?_; rintro e w7 ⟨v7, rfl, h1, h2⟩; rw [HLL.out] at h1; obtain ⟨va7, vc7, rfl⟩ := h1.shape; have HA2 : Hid (L9 w.heap.size w n (b1 + 1) lg lc Q bb bc rv rv2 (upM K rk) (dnM K rk) w7 ∧ LRow w7 wr.heap.size (.slice va6 LL.length vc6) LL ∧ LRow w7 w6.heap.size (.slice va7 LL.length vc7) LL) := ⟨HA1.out.1.later h2, HA1.out.2.later (Nat.le_refl _) h2, h1⟩; clear h1 h2)
        | (go_at_call 31; refine (llinks_any HR.out.l8.lf HN.out.2).mono ?_; rintro e w6 ⟨v6, rfl, h1, h2⟩; rw [HLL.out] at h1; obtain ⟨va6, vc6, rfl⟩ := h1.shape; have HA1 : Hid (L9 w.heap.size w n (b1 + 1) lg lc Q bb bc rv rv2 (upM K rk) (dnM K rk) w6 ∧ LRow w6 wr.heap.size (.slice va6 LL.length vc6) LL) := ⟨HR.out.later h2, h1⟩; clear h1 h2))
      obtain ⟨B6, hB6⟩ : ∃ B, wr.heap.size = B := ⟨_, rfl⟩
      obtain ⟨B7, hB7⟩ : ∃ B, w6.heap.size = B := ⟨_, rfl⟩
      rw [hB6, hB7] at HA2
      clear HA1 HR hB6 hB7 x0
      go_loopw [72] (fun vi wr => ∃ i : Nat, vi = .int .i64 i ∧ i ≤ LL.length ∧ Hid (L9 w.heap.size w n (b1 + 1) lg lc Q bb bc rv rv2 (upM K rk) (dnM K rk) wr ∧ LRow wr B6 (.slice va6 LL.length vc6) LL ∧ LRow wr B7 (.slice va7 LL.length vc7) LL)) (fun vi _ => LL.length - (intOf vi).toNat)
      case atStart => exact ⟨0, rfl, Nat.zero_le _, HA2.out⟩
      case round =>
        clear HA2
        obtain ⟨i, rfl, hi, HR⟩ := hrel
        by_cases hil : i < LL.length
        · obtain ⟨g1, c1, hv, _, _, _, _⟩ := HR.out.2.1.form (by omega)
          injection hv with e1 e2 e3
          subst e1 e3
          obtain ⟨g2, c2, hv2, _, _, _, _⟩ := HR.out.2.2.form (by omega)
          injection hv2 with e4 e5 e6
          subst e4 e6
          obtain ⟨y0, y1, y2, y3⟩ := HR.out.2.1.cells i hil
          obtain ⟨u0, u1, u2, u3⟩ := HR.out.2.2.cells i hil
          generalize LL[i]! = k at y0 y1 y2 y3 u0 u1 u2 u3
          obtain ⟨k1, k2, k3, k4⟩ := k
          simp only at y0 y1 y2 y3 u0 u1 u2 u3
          have i3 : (i : Int) < (LL.length : Int) := by omega
          have z1 : ((k1 : Int) == (k1 : Int)) = true := by simp
          have z2 : ((k2 : Int) == (k2 : Int)) = true := by simp
          have z3 : (k3 == k3) = true := by simp
          have z4 : (k4 == k4) = true := by simp
          go_wp2
          go_quiet (fail)
          go_wp2
          go_roundw
          case rel => exact ⟨i + 1, by go_num, by omega, HR.out.1.later (Qu.below_drewN (Below.refl _ _) nq), HR.out.2.1.later (Nat.le_refl _) (Qu.below_drewN (Below.refl _ _) nq), HR.out.2.2.later (Nat.le_refl _) (Qu.below_drewN (Below.refl _ _) nq)⟩
          case measure => simp [intOf]; omega
        · have i3 : ¬ (i : Int) < (LL.length : Int) := by omega
          have z1 : ((LL.length : Int) == (LL.length : Int)) = true := by simp
          go_wp2
          go_ret
          exact ⟨rfl, HR.out.1.l8.below⟩
theorem again_any (n : Int) (a : Option Addr) (m c : Nat) (A : List Arc) (d : Bool) (w : World) (h : ArcsAt w a m A) (hc : a = none → c = 0) :
    Calls Try.prog 10 #[.agg #[.int .i64 n, .slice a m c], .bool d] w fun e w' => e = .returned (.bool true) ∧ Below w.heap.size w w' := by
  by_cases hm : 300 < m
  · exact again_bad n a m c A d w h hc (.inl hm)
  · by_cases he : (checkM n A).2 = 0
    · obtain ⟨hn, _⟩ := checkM_ok he
      obtain ⟨k, rfl⟩ : ∃ k : Nat, n = (k : Int) := ⟨n.toNat, by omega⟩
      exact again_good k a m c A d w h hc (by omega) he
    · exact again_bad n a m c A d w h hc (.inr ⟨by omega, he⟩)
end Go.Proofs.Ytlflbjnglmbdeaa
