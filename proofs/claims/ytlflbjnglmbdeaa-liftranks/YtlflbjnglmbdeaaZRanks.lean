/-
  What the law LiftRanks does.
-/
import Derived.Test.YtlflbjnglmbdeaaZLk
import Derived.Deep.CutRange
namespace Go.Proofs.Ytlflbjnglmbdeaa
open Go.RowKit Go.Sort

def seenB (rk : Nat → Nat) (p k : Nat) : Bool := (List.range p).any fun q => rk q == k
theorem seenB_succ (rk : Nat → Nat) (p k : Nat) : seenB rk (p + 1) k = (seenB rk p k || (rk p == k)) := by
  unfold seenB
  rw [List.range_succ, List.any_append]
  simp
theorem seenB_zero (rk : Nat → Nat) (k : Nat) : seenB rk 0 k = false := rfl
/-- What is so between two rounds: the ranks of the first p places are seen. -/
structure RkIn (B : Nat) (w : World) (n b lg lc Q : Nat) (bb : LfB) (rv : Nat → Int) (U V : Mx) (rk : Nat → Nat) (sb p : Nat) (wr : World) : Prop where
  l8 : L8 B w n b lg lc Q bb rv U V wr
  sn : wr.heap[sb]? = some (.cells ((List.range n).map fun k => Value.bool (seenB rk p k)).toArray 4 (0, 0))
  sB : B ≤ sb
section
variable {B n b lg lc Q sb p : Nat} {w wr w' : World} {bb : LfB} {rv : Nat → Int} {U V : Mx} {rk : Nat → Nat}
theorem rk_next (h : RkIn B w n b lg lc Q bb rv U V rk sb p wr) : RkIn B w n b lg lc Q bb rv U V rk sb (p + 1) (wr.setCell ⟨sb, rk p, none⟩ (.bool true)) := by
  refine ⟨h.l8.put h.sn (by decide) (by decide) (by decide) (by decide) h.sB _ _, ?_, h.sB⟩
  rw [heap_setCell_same _ _ (rk p) _ _ _ h.sn, List.setIfInBounds_toArray]
  congr 3
  have := map_set (fun k => Value.bool (seenB rk p k)) (fun k => Value.bool (seenB rk (p + 1) k)) n (rk p) (fun v hv => by
    rw [seenB_succ]
    have : (rk p == v) = false := by simp; omega
    rw [this, Bool.or_false])
  have e2 : seenB rk (p + 1) (rk p) = true := by rw [seenB_succ]; simp
  rw [e2] at this
  exact this
theorem RkIn.later (h : RkIn B w n b lg lc Q bb rv U V rk sb p wr) (f : Below wr.heap.size wr w') : RkIn B w n b lg lc Q bb rv U V rk sb p w' :=
  ⟨h.l8.later f, (f.block _ (Array.getElem?_eq_some_iff.1 h.sn).1).trans h.sn, h.sB⟩
end
set_option maxRecDepth 100000 in
set_option maxHeartbeats 1600000 in
theorem ranks_bad (n : Int) (a : Option Addr) (m c : Nat) (A : List Arc) (d : Bool) (w : World) (h : ArcsAt w a m A) (hc : a = none → c = 0) (hb : 300 < m ∨ (m ≤ 300 ∧ (checkM n A).2 ≠ 0)) :
    Calls Try.prog 6 #[.agg #[.int .i64 n, .slice a m c], .bool d] w fun e w' => e = .returned (.bool true) ∧ Below w.heap.size w w' := by
  have HS := hide (rin_start w n a m c A h)
  have HGR : Hid (∀ w', ArcsAt w' a m A → Calls Try.prog 20 #[.agg #[.int .i64 n, .slice a m c], .bool d] w' fun e w'' => e = .returned (.tuple #[.pointer none, .agg #[.int .i64 0, .slice none 0 0], .agg #[.int .i64 0, .slice none 0 0], .bool false]) ∧ Below w'.heap.size w' w'') := fun w' h' => by
    rcases hb with hm | ⟨hm, he⟩
    · exact graph_many n a m c A d w' h' hm
    · exact graph_bad n a m c A d w' h' hc hm he
  clear h hc hb
  go_enter Try.func6, Try.ntmps6
  go_wp2_with (first
    | (go_at_call 25; refine (awakeL_any _).mono ?_; rintro e w1 ⟨rfl, h1⟩; have H1 := hide (HS.out.later h1); have c0 := H1.out.c0; have c1 := H1.out.c1; clear h1)
    | (go_at_call 20; refine (HGR.out _ H1.out.arcs).mono ?_; rintro e w2 ⟨rfl, h2⟩; have H2 := hide (H1.out.later h2); clear h2))
  go_ret
  exact ⟨rfl, (H2.out.below.alloc H2.out.below.size _).alloc (by have := H2.out.below.size; simp; omega) _⟩
set_option maxRecDepth 100000 in
set_option maxHeartbeats 12800000 in
theorem ranks_good (n : Nat) (a : Option Addr) (m c : Nat) (A : List Arc) (d : Bool) (w : World) (h : ArcsAt w a m A) (hc : a = none → c = 0) (hm : m ≤ 300) (he : (checkM n A).2 = 0) :
    Calls Try.prog 6 #[.agg #[.int .i64 n, .slice a m c], .bool d] w fun e w' => e = .returned (.bool true) ∧ Below w.heap.size w w' := by
  obtain ⟨hn0, hl, hok⟩ := checkM_ok he
  have hn : 1 ≤ n ∧ n ≤ 32 := by omega
  have HN := hide hn
  have HM := hide (mt_pos he d)
  have HWO : Hid (WOk n (tab (legsM (mtM d) A))) := fun p q x _ _ hx => tab_pos HM.out p q x hx
  have HLP : Hid (∀ a, a < n → tab (legsM (mtM d) A) a a = none) := fun a _ => tab_loop _ _ a
  have HS := hide (rin_start w n a m c A h)
  have HGR := hide (fun (w' : World) (h' : ArcsAt w' a m A) => graph_good n a m c A d w' h' hc hm he)
  obtain ⟨Q, hQ⟩ : ∃ Q, n * n = Q := ⟨_, rfl⟩
  have HQ := hide hQ
  have hQb : Q ≤ 1024 := by rw [← hQ]; exact (mul_wrap hn.2 hn.2).2
  have HQ0 : Hid (0 < n * n) := Nat.mul_pos (by omega) (by omega)
  clear h hc he hn0 hok hQ
  generalize tab (legsM (mtM d) A) = W at HWO HGR HLP
  have HL1 : Hid ((cellsM n W).length = Q) := (cellsM_len n W).trans HQ.out
  have HL2 : Hid ((cellsM n (least n W)).length = Q) := (cellsM_len n (least n W)).trans HQ.out
  have hmb := fun w => made_bools n hn.2 w
  go_enter Try.func6, Try.ntmps6
  go_upto_region 7 with (first
    | (go_at_call 25; refine (awakeL_any _).mono ?_; rintro e w1 ⟨rfl, h1⟩; have H1 := hide (HS.out.later h1); have c0 := H1.out.c0; have c1 := H1.out.c1; clear h1)
    | (go_at_call 20; refine (HGR.out _ H1.out.arcs).mono ?_; rintro e w2 ⟨g, vt, vl, rfl, h2, h3, h4, h5⟩; obtain ⟨tg, tc, rfl, _⟩ := h3.form (by rw [cellsM_len]; exact HQ0.out); obtain ⟨lg, lc, rfl, _⟩ := h4.form (by rw [cellsM_len]; exact HQ0.out); rw [HL1.out] at h3 ⊢; rw [HL2.out] at h4 ⊢; have H3 := hide (g3_mk (H1.out.later h5) h2 h3 h4 HQ.out); clear h2 h3 h4 h5)
    | (go_at_call 26; refine (build_any H3.out.gr HN.out HWO.out HLP.out).mono ?_; rintro e w3 ⟨bb, rfl, K, rk, Q9, rv, h1, h2, _, h4⟩; have HBD := hide h1; have H4 : Hid (L7 w.heap.size w n a m c A g W w2.heap.size tg tc lg lc Q bb rv (upM K rk) (dnM K rk) w3) := ⟨H3.out.later h4, h2⟩; clear h1 h2 h4))
  obtain ⟨b1, hb1⟩ : ∃ b, w2.heap.size = b := ⟨_, rfl⟩
  rw [hb1] at H4
  try rw [hb1]
  clear H1 H3 hb1 c0 c1
  have x0 := H4.out.g3.ml.c0
  have p1 : inP n (-1) = false := decide_eq_false (by omega)
  have p2 : inP n (n : Int) = false := decide_eq_false (by omega)
  have z0 : ((n : Int) != (n : Int)) = false := by simp
  go_quiet (first
    | (go_at_call 27; exact Calls.quiet_of_same (lplaces_any (H4.out.lf.drewN _) HN.out.2))
    | (go_at_call 28; exact Calls.quiet_of_same (lrank_out (H4.out.lf.drewN _) HN.out.2 p1))
    | (go_at_call 28; exact Calls.quiet_of_same (lrank_out (H4.out.lf.drewN _) HN.out.2 p2))
    | (go_at_call 29; exact Calls.quiet_of_same (lup_out (H4.out.lf.drewN _) HN.out.2 p1))
    | (go_at_call 30; exact Calls.quiet_of_same (ldown_out (H4.out.lf.drewN _) HN.out.2 p2)))
  have H5 := hide (H4.out.drewN nq)
  generalize w3.drewN nq = W4 at H5 ⊢
  clear H4 x0 p1 p2 z0
  have x0 := H5.out.g3.ml.c0
  have HS6 : Hid (RkIn w.heap.size w n (b1 + 1) lg lc Q bb rv (upM K rk) (dnM K rk) rk W4.heap.size 0 (W4.alloc (.cells (Array.replicate n (.bool false)) 4))) := by
    refine ⟨(H5.out.l8 H5.out.below.size).later ((Below.refl _ _).alloc (Nat.le_refl _) _), ?_, H5.out.below.size⟩
    have e : ((List.range n).map fun k => Value.bool (seenB rk 0 k)).toArray = Array.replicate n (.bool false) := by
      simp only [seenB_zero]
      rw [range_rep]
    rw [e]
    exact heap_alloc_new _ _
  go_wp2
  obtain ⟨sb, hsb⟩ : ∃ sb, W4.heap.size = sb := ⟨_, rfl⟩
  rw [hsb] at HS6
  try rw [hsb]
  generalize W4.alloc (.cells (Array.replicate n (.bool false)) 4) = W6 at HS6 ⊢
  clear H5 x0 hsb hmb
  go_loopw [11, 12] (fun vn vi wr => ∃ p : Nat, vn = .int .i64 ((linksL n (upM K rk) (dnM K rk) p).length : Nat) ∧ vi = .int .i64 p ∧ p ≤ n ∧ Hid (RkIn w.heap.size w n (b1 + 1) lg lc Q bb rv (upM K rk) (dnM K rk) rk sb p wr)) (fun _ vi _ => n - (intOf vi).toNat)
  case atStart => exact ⟨0, rfl, rfl, Nat.zero_le _, HS6.out⟩
  case round =>
    clear HS6
    obtain ⟨p, rfl, rfl, hp, HR⟩ := hrel
    have x0 := HR.out.l8.c0
    by_cases hpn : p < n
    · have i1 : (p : Int) < (n : Int) := by omega
      have HPN := hide hpn
      have hrk := bd_all HBD.out p hpn
      have hrv := HBD.out.rvs p hpn hrk
      have HRK := hide (lrank_any HR.out.l8.lf HN.out.2 hpn)
      rw [hrv] at HRK
      have s0 : wr.cell? ⟨sb, rk p, none⟩ = some (.bool false) := by
        rw [cell_of_row wr sb (rk p) _ _ _ HR.out.sn]
        have e : seenB rk p (rk p) = false := by
          unfold seenB
          rw [List.any_eq_false]
          intro q hq
          have hq2 := List.mem_range.1 hq
          simp only [beq_iff_eq]
          intro e
          have := HBD.out.lft.inj q p (by omega) HPN.out e (bd_all HBD.out q (by omega))
          omega
        simp [hrk, e]
      have z1 := frozen_of_row wr sb (rk p) _ _ HR.out.sn
      have HS6 : Hid (RkIn w.heap.size w n (b1 + 1) lg lc Q bb rv (upM K rk) (dnM K rk) rk sb (p + 1) (wr.setCell ⟨sb, rk p, none⟩ (.bool true))) := rk_next HR.out
      obtain ⟨kp, hkp⟩ : ∃ kp, rk p = kp := ⟨_, rfl⟩
      rw [hkp] at hrk HRK s0 z1 HS6
      have HKP := hide hkp
      have i2 : (kp : Int) < (n : Int) := by omega
      have hcl : (linksL n (upM K rk) (dnM K rk) p).length ≤ 2048 := by
        have h1 := linksL_len n (upM K rk) (dnM K rk) p
        have h2 := Nat.mul_le_mul (show p ≤ 32 by omega) (show n + n ≤ 64 by omega)
        omega
      have HSU := hide (linksL_succ n (upM K rk) (dnM K rk) p)
      have HUL := hide (upL_len n (upM K rk) p)
      have HDL := hide (dnL_len n (dnM K rk) p)
      generalize (linksL n (upM K rk) (dnM K rk) p) = LP at HSU hcl ⊢
      obtain ⟨C0, hC0⟩ : ∃ C0, LP.length = C0 := ⟨_, rfl⟩
      have HC0 := hide hC0
      rw [hC0] at hcl ⊢
      clear hrv hkp hC0 HR
      go_wp2_with (first
        | (go_at_call 28; refine HRK.out.mono ?_; rintro e w4 ⟨rfl, hw⟩; rw [hw]; clear hw)
        | (go_at_call 29; refine (lup_any HS6.out.l8.lf HN.out.2 HPN.out).mono ?_; rintro e w5 ⟨v5, rfl, h1, h2⟩; have H6 := hide (HS6.out.later h2); obtain ⟨va, vc, rfl⟩ := h1.shape; have HLR := hide h1; clear h1 h2))
      have HMEM : Hid (∀ i, i < (upL n (upM K rk) p).length → ∃ (q : Nat) (x y : Int), q < n ∧ kp < rk q ∧ (upL n (upM K rk) p)[i]! = (p, q, (x, y))) := fun i hi => by
        have hm : (upL n (upM K rk) p)[i]! ∈ upL n (upM K rk) p := by rw [getElem!_pos _ i hi]; exact List.getElem_mem hi
        obtain ⟨e1, e2, e3, _⟩ := up_mem HBD.out hm
        rw [HKP.out] at e3
        refine ⟨(upL n (upM K rk) p)[i]!.2.1, (upL n (upM K rk) p)[i]!.2.2.1, (upL n (upM K rk) p)[i]!.2.2.2, e2, e3, ?_⟩
        generalize (upL n (upM K rk) p)[i]! = k at e1
        obtain ⟨k1, k2, k3, k4⟩ := k
        simp only at e1 ⊢
        rw [e1]
      generalize upL n (upM K rk) p = LU at HLR HMEM HUL HDL HSU ⊢
      have hLU : LU.length ≤ n := HUL.out
      have HLR2 : Hid (RkIn w.heap.size w n (b1 + 1) lg lc Q bb rv (upM K rk) (dnM K rk) rk sb (p + 1) w5 ∧ LRow w5 (wr.setCell ⟨sb, kp, none⟩ (.bool true)).heap.size (.slice va LU.length vc) LU) := ⟨H6.out, HLR.out⟩
      obtain ⟨B5, hB5⟩ : ∃ B5, (wr.setCell ⟨sb, kp, none⟩ (.bool true)).heap.size = B5 := ⟨_, rfl⟩
      rw [hB5] at HLR2
      clear H6 HLR hB5
      go_loopw [11, 96] (fun vn vi wr => ∃ i : Nat, vn = .int .i64 ((C0 + i : Nat) : Int) ∧ vi = .int .i64 i ∧ i ≤ LU.length ∧ Hid (RkIn w.heap.size w n (b1 + 1) lg lc Q bb rv (upM K rk) (dnM K rk) rk sb (p + 1) wr ∧ LRow wr B5 (.slice va LU.length vc) LU)) (fun _ vi _ => LU.length - (intOf vi).toNat)
      case atStart => exact ⟨0, rfl, rfl, Nat.zero_le _, HLR2.out⟩
      case round =>
        clear HLR2
        obtain ⟨i, rfl, rfl, hi, HR⟩ := hrel
        by_cases hil : i < LU.length
        · obtain ⟨q, x, y, hq, hqk, hLi⟩ := HMEM.out i hil
          obtain ⟨g1, c1, hv, _, _, _, _⟩ := HR.out.2.form (by omega)
          injection hv with e1 e2 e3
          subst e1 e3
          obtain ⟨y0, y1, y2, y3⟩ := HR.out.2.cells i hil
          rw [hLi] at y0 y1 y2 y3
          simp only at y0 y1 y2 y3
          have i3 : (i : Int) < (LU.length : Int) := by omega
          have hf : Below wr.heap.size wr (wr.alloc (.cells #[.int .i64 p, .int .i64 q, .int .i64 x, .int .i64 y] 59)) := (Below.refl _ _).alloc (Nat.le_refl _) _
          have H7 : Hid (RkIn w.heap.size w n (b1 + 1) lg lc Q bb rv (upM K rk) (dnM K rk) rk sb (p + 1) (wr.alloc (.cells #[.int .i64 p, .int .i64 q, .int .i64 x, .int .i64 y] 59)) ∧ LRow (wr.alloc (.cells #[.int .i64 p, .int .i64 q, .int .i64 x, .int .i64 y] 59)) B5 (.slice (some ⟨g1, 0, none⟩) LU.length vc) LU) := ⟨HR.out.1.later hf, HR.out.2.later (Nat.le_refl _) hf⟩
          have HRQ := hide (lrank_any H7.out.1.l8.lf HN.out.2 hq)
          rw [HBD.out.rvs q hq (bd_all HBD.out q hq)] at HRQ
          obtain ⟨rq, hrq⟩ : ∃ rq, rk q = rq := ⟨_, rfl⟩
          rw [hrq] at hqk HRQ
          have z4 : ((p : Int) != (p : Int)) = false := by simp
          have z5 : ¬ (rq : Int) ≤ (kp : Int) := by omega
          clear hf HR hLi hrq
          go_wp2_with (go_at_call 28; refine HRQ.out.mono ?_; rintro e w8 ⟨rfl, hw⟩; rw [hw]; clear hw)
          go_roundw
          case rel => exact ⟨i + 1, by go_num, by go_num, by omega, H7.out⟩
          case measure => simp [intOf]; omega
        · have e : i = LU.length := by omega
          have i3 : ¬ (i : Int) < (LU.length : Int) := by omega
          have H8 := hide HR.out.1
          clear HR
          subst e
          have HDN := hide (ldown_any H8.out.l8.lf HN.out.2 HPN.out)
          go_wp2_with (go_at_call 30; refine HDN.out.mono ?_; rintro e w9 ⟨v9, rfl, h1, h2⟩; have H6 := hide (H8.out.later h2); obtain ⟨va, vc, rfl⟩ := h1.shape; have HLR := hide h1; clear h1 h2)
          clear H8 HDN
          have HMEM : Hid (∀ i, i < (dnL n (dnM K rk) p).length → ∃ (q : Nat) (x y : Int), q < n ∧ kp < rk q ∧ (dnL n (dnM K rk) p)[i]! = (q, p, (x, y))) := fun i hi => by
            have hm : (dnL n (dnM K rk) p)[i]! ∈ dnL n (dnM K rk) p := by rw [getElem!_pos _ i hi]; exact List.getElem_mem hi
            obtain ⟨e1, e2, e3, _⟩ := dn_mem HBD.out hm
            rw [HKP.out] at e3
            refine ⟨(dnL n (dnM K rk) p)[i]!.1, (dnL n (dnM K rk) p)[i]!.2.2.1, (dnL n (dnM K rk) p)[i]!.2.2.2, e2, e3, ?_⟩
            generalize (dnL n (dnM K rk) p)[i]! = k at e1
            obtain ⟨k1, k2, k3, k4⟩ := k
            simp only at e1 ⊢
            rw [e1]
          generalize dnL n (dnM K rk) p = LD at HLR HMEM HUL HDL HSU ⊢
          have hLD : LD.length ≤ n := HDL.out
          have HLR2 : Hid (RkIn w.heap.size w n (b1 + 1) lg lc Q bb rv (upM K rk) (dnM K rk) rk sb (p + 1) w9 ∧ LRow w9 wr.heap.size (.slice va LD.length vc) LD) := ⟨H6.out, HLR.out⟩
          obtain ⟨B5, hB5⟩ : ∃ B5, wr.heap.size = B5 := ⟨_, rfl⟩
          rw [hB5] at HLR2
          clear H6 HLR hB5
          go_loopw [11, 119] (fun vn vi wr => ∃ i : Nat, vn = .int .i64 ((C0 + LU.length + i : Nat) : Int) ∧ vi = .int .i64 i ∧ i ≤ LD.length ∧ Hid (RkIn w.heap.size w n (b1 + 1) lg lc Q bb rv (upM K rk) (dnM K rk) rk sb (p + 1) wr ∧ LRow wr B5 (.slice va LD.length vc) LD)) (fun _ vi _ => LD.length - (intOf vi).toNat)
          case atStart => exact ⟨0, rfl, rfl, Nat.zero_le _, HLR2.out⟩
          case round =>
            clear HLR2
            obtain ⟨i, rfl, rfl, hi, HR⟩ := hrel
            by_cases hil : i < LD.length
            · obtain ⟨q, x, y, hq, hqk, hLi⟩ := HMEM.out i hil
              obtain ⟨g1, c1, hv, _, _, _, _⟩ := HR.out.2.form (by omega)
              injection hv with e1 e2 e3
              subst e1 e3
              obtain ⟨y0, y1, y2, y3⟩ := HR.out.2.cells i hil
              rw [hLi] at y0 y1 y2 y3
              simp only at y0 y1 y2 y3
              have i3 : (i : Int) < (LD.length : Int) := by omega
              have hf : Below wr.heap.size wr (wr.alloc (.cells #[.int .i64 q, .int .i64 p, .int .i64 x, .int .i64 y] 59)) := (Below.refl _ _).alloc (Nat.le_refl _) _
              have H7 : Hid (RkIn w.heap.size w n (b1 + 1) lg lc Q bb rv (upM K rk) (dnM K rk) rk sb (p + 1) (wr.alloc (.cells #[.int .i64 q, .int .i64 p, .int .i64 x, .int .i64 y] 59)) ∧ LRow (wr.alloc (.cells #[.int .i64 q, .int .i64 p, .int .i64 x, .int .i64 y] 59)) B5 (.slice (some ⟨g1, 0, none⟩) LD.length vc) LD) := ⟨HR.out.1.later hf, HR.out.2.later (Nat.le_refl _) hf⟩
              have HRQ := hide (lrank_any H7.out.1.l8.lf HN.out.2 hq)
              rw [HBD.out.rvs q hq (bd_all HBD.out q hq)] at HRQ
              obtain ⟨rq, hrq⟩ : ∃ rq, rk q = rq := ⟨_, rfl⟩
              rw [hrq] at hqk HRQ
              have z4 : ((p : Int) != (p : Int)) = false := by simp
              have z5 : ¬ (rq : Int) ≤ (kp : Int) := by omega
              clear hf HR hLi hrq
              go_wp2_with (go_at_call 28; refine HRQ.out.mono ?_; rintro e w8 ⟨rfl, hw⟩; rw [hw]; clear hw)
              go_roundw
              case rel => exact ⟨i + 1, by go_num, by go_num, by omega, H7.out⟩
              case measure => simp [intOf]; omega
            · have e : i = LD.length := by omega
              have i3 : ¬ (i : Int) < (LD.length : Int) := by omega
              have H8 := hide HR.out.1
              clear HR
              subst e
              have HCN : Hid (C0 + LU.length + LD.length = (linksL n (upM K rk) (dnM K rk) (p + 1)).length) := by show _ = _; rw [HSU.out, List.length_append, List.length_append, HC0.out]
              go_wp2
              go_roundw
              case rel => exact ⟨p + 1, by rw [← HCN.out], by go_num, by have := HPN.out; omega, H8.out⟩
              case measure => have := HPN.out; simp [intOf]; omega

    · have e : p = n := by omega
      have i1 : ¬ (p : Int) < (n : Int) := by omega
      have HLK := hide (llinks_any HR.out.l8.lf HN.out.2)
      have HRB := hide HR.out.l8
      subst e
      generalize (linksL p (upM K rk) (dnM K rk) p) = LL at HLK ⊢
      have z4 : ((LL.length : Int) == (LL.length : Int)) = true := by simp
      clear HR
      go_wp2_with (go_at_call 31; refine HLK.out.mono ?_; rintro e w9 ⟨v9, rfl, h1, h2⟩; obtain ⟨va, vc, rfl⟩ := h1.shape; have H9 := hide (HRB.out.later h2); clear h1 h2)
      go_ret
      exact ⟨rfl, H9.out.below⟩
theorem ranks_any (n : Int) (a : Option Addr) (m c : Nat) (A : List Arc) (d : Bool) (w : World) (h : ArcsAt w a m A) (hc : a = none → c = 0) :
    Calls Try.prog 6 #[.agg #[.int .i64 n, .slice a m c], .bool d] w fun e w' => e = .returned (.bool true) ∧ Below w.heap.size w w' := by
  by_cases hm : 300 < m
  · exact ranks_bad n a m c A d w h hc (.inl hm)
  · by_cases he : (checkM n A).2 = 0
    · obtain ⟨hn, _⟩ := checkM_ok he
      obtain ⟨k, rfl⟩ : ∃ k : Nat, n = (k : Int) := ⟨n.toNat, by omega⟩
      exact ranks_good k a m c A d w h hc (by omega) he
    · exact ranks_bad n a m c A d w h hc (.inr ⟨by omega, he⟩)
end Go.Proofs.Ytlflbjnglmbdeaa
