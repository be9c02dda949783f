/-
  What the law ShortAll does.
-/
import Derived.Test.YtlflbjnglmbdeaaSameI
import Derived.Deep.CutRange
import Derived.Deep.RegionHeld3
namespace Go.Proofs.Ytlflbjnglmbdeaa
open Go.RowKit Go.Sort

theorem lstV_at {n k : Nat} (D : Nat → Option Int) (hk : k < n) : (lstV n D)[k]! = cv (D k) := by
  rw [getElem!_pos _ _ (by rw [lstV_len]; exact hk)]
  simp [lstV, cv]
theorem ahdV_at {n k : Nat} (A : Nat → Int) (hk : k < n) : (ahdV n A)[k]! = A k := by
  rw [getElem!_pos _ _ (by simp [ahdV]; exact hk)]
  simp [ahdV]
/-- Behind the call of From: what Graph answered, and the two rows. -/
structure AB (B : Nat) (w : World) (n : Nat) (a : Option Addr) (m c : Nat) (A : List Arc) (g : Nat) (W : Nat → Nat → Option Int) (b tg tc lg lc Q gl ga : Nat) (D : Nat → Option Int) (Ah : Nat → Int) (wr : World) : Prop where
  g3 : G3 B w n a m c A g W b tg tc lg lc Q wr
  dr : ∀ k, k < n → wr.cell? ⟨gl, k, none⟩ = some (.int .i64 (cv (D k)))
  ar : ∀ k, k < n → wr.cell? ⟨ga, k, none⟩ = some (.int .i64 (Ah k))
section
variable {B n m c g b tg tc lg lc Q gl ga : Nat} {w wr w' : World} {a : Option Addr} {A : List Arc} {W : Nat → Nat → Option Int} {D : Nat → Option Int} {Ah : Nat → Int}
theorem AB.later (h : AB B w n a m c A g W b tg tc lg lc Q gl ga D Ah wr) (f : Below wr.heap.size wr w') : AB B w n a m c A g W b tg tc lg lc Q gl ga D Ah w' :=
  ⟨h.g3.later f, fun k hk => (f.cell (p := ⟨gl, k, none⟩) (block_lt_of_cell (h.dr k hk))).trans (h.dr k hk), fun k hk => (f.cell (p := ⟨ga, k, none⟩) (block_lt_of_cell (h.ar k hk))).trans (h.ar k hk)⟩
theorem AB.drewN (h : AB B w n a m c A g W b tg tc lg lc Q gl ga D Ah wr) (q : Nat) : AB B w n a m c A g W b tg tc lg lc Q gl ga D Ah (wr.drewN q) := h.later (Qu.below_drewN (Below.refl _ _) q)
end
theorem ab_mk {B n m c g b tg tc lg lc Q gl ga b1 b2 c1 c2 : Nat} {w wr : World} {a : Option Addr} {A : List Arc} {W : Nat → Nat → Option Int} {D : Nat → Option Int} {Ah : Nat → Int} (h : G3 B w n a m c A g W b tg tc lg lc Q wr)
    (h1 : IRow wr b1 (.slice (some ⟨gl, 0, none⟩) n c1) (lstV n D)) (h2 : IRow wr b2 (.slice (some ⟨ga, 0, none⟩) n c2) (ahdV n Ah)) : AB B w n a m c A g W b tg tc lg lc Q gl ga D Ah wr :=
  ⟨h, fun k hk => by rw [h1.cell k (by rw [lstV_len]; exact hk), lstV_at D hk], fun k hk => by rw [h2.cell k (by simp [ahdV]; exact hk), ahdV_at Ah hk]⟩
/-- The row of least weights inside the matrix. -/
theorem row_ints {B n m c g b tg tc lg lc Q p P : Nat} {w wr : World} {a : Option Addr} {A : List Arc} {W : Nat → Nat → Option Int} {D : Nat → Option Int} (h : G3 B w n a m c A g W b tg tc lg lc Q wr) (hQ : n * n = Q) (hP : p * n = P) (hp : p < n) (hD : ∀ q, q < n → D q = least n W p q) :
    IntsAt wr (some ⟨lg, P, none⟩) (lstV n D) := fun k hk => by
  rw [lstV_len] at hk
  have hl := cell_lt hp hk
  rw [hP, hQ] at hl
  refine ⟨lg, P, rfl, ?_⟩
  rw [h.ml.cells (P + k) hl, lstV_at D hk, hD k hk, ← hP, cellsM_at _ hp hk]
  rfl
/-- On the way back from q: at v, c steps behind. -/
structure Trace (n : Nat) (D : Nat → Option Int) (rk : Nat → Nat) (v c : Nat) : Prop where
  vn : v < n
  dv : ∃ d, D v = some d
  len : c + rk v + 1 ≤ n
set_option maxRecDepth 100000 in
set_option maxHeartbeats 1600000 in
theorem alls_bad (n : Int) (a : Option Addr) (m c : Nat) (A : List Arc) (d : Bool) (w : World) (h : ArcsAt w a m A) (hc : a = none → c = 0) (hb : 300 < m ∨ (m ≤ 300 ∧ (checkM n A).2 ≠ 0)) :
    Calls Try.prog 4 #[.agg #[.int .i64 n, .slice a m c], .bool d] w fun e w' => e = .returned (.bool true) ∧ Below w.heap.size w w' := by
  have HS := hide (rin_start w n a m c A h)
  have HGR : Hid (∀ w', ArcsAt w' a m A → Calls Try.prog 20 #[.agg #[.int .i64 n, .slice a m c], .bool d] w' fun e w'' => e = .returned (.tuple #[.pointer none, .agg #[.int .i64 0, .slice none 0 0], .agg #[.int .i64 0, .slice none 0 0], .bool false]) ∧ Below w'.heap.size w' w'') := fun w' h' => by
    rcases hb with hm | ⟨hm, he⟩
    · exact graph_many n a m c A d w' h' hm
    · exact graph_bad n a m c A d w' h' hc hm he
  clear h hc hb
  go_enter Try.func4, Try.ntmps4
  go_wp2_with (first
    | (go_at_call 19; refine (awakeS_any _).mono ?_; rintro e w1 ⟨rfl, h1⟩; have H1 := hide (HS.out.later h1); have c0 := H1.out.c0; have c1 := H1.out.c1; clear h1)
    | (go_at_call 20; refine (HGR.out _ H1.out.arcs).mono ?_; rintro e w2 ⟨rfl, h2⟩; have H2 := hide (H1.out.later h2); clear h2))
  go_ret
  exact ⟨rfl, (H2.out.below.alloc H2.out.below.size _).alloc (by have := H2.out.below.size; simp; omega) _⟩
set_option maxRecDepth 100000 in
set_option maxHeartbeats 6400000 in
theorem alls_good (n : Nat) (a : Option Addr) (m c : Nat) (A : List Arc) (d : Bool) (w : World) (h : ArcsAt w a m A) (hc : a = none → c = 0) (hm : m ≤ 300) (he : (checkM n A).2 = 0) :
    Calls Try.prog 4 #[.agg #[.int .i64 n, .slice a m c], .bool d] w fun e w' => e = .returned (.bool true) ∧ Below w.heap.size w w' := by
  obtain ⟨hn0, hl, hok⟩ := checkM_ok he
  have hn : 1 ≤ n ∧ n ≤ 32 := by omega
  have HN := hide hn
  have HM := hide (mt_pos he d)
  have HWO : Hid (WOk n (tab (legsM (mtM d) A))) := fun p q x _ _ hx => tab_pos HM.out p q x hx
  have HS := hide (rin_start w n a m c A h)
  have HGR := hide (fun (w' : World) (h' : ArcsAt w' a m A) => graph_good n a m c A d w' h' hc hm he)
  obtain ⟨Q, hQ⟩ : ∃ Q, n * n = Q := ⟨_, rfl⟩
  have HQ := hide hQ
  have hQb : Q ≤ 1024 := by rw [← hQ]; exact (mul_wrap hn.2 hn.2).2
  have HQ0 : Hid (0 < n * n) := Nat.mul_pos (by omega) (by omega)
  clear h hc he hn0 hok hQ
  generalize tab (legsM (mtM d) A) = W at HWO HGR
  have HL1 : Hid ((cellsM n W).length = Q) := (cellsM_len n W).trans HQ.out
  have HL2 : Hid ((cellsM n (least n W)).length = Q) := (cellsM_len n (least n W)).trans HQ.out
  go_enter Try.func4, Try.ntmps4
  go_wp2_with (first
    | (go_at_call 19; refine (awakeS_any _).mono ?_; rintro e w1 ⟨rfl, h1⟩; have H1 := hide (HS.out.later h1); have c0 := H1.out.c0; have c1 := H1.out.c1; clear h1)
    | (go_at_call 20; refine (HGR.out _ H1.out.arcs).mono ?_; rintro e w2 ⟨g, vt, vl, rfl, h2, h3, h4, h5⟩; obtain ⟨tg, tc, rfl, _⟩ := h3.form (by rw [cellsM_len]; exact HQ0.out); obtain ⟨lg, lc, rfl, _, _, hc1, hc2⟩ := h4.form (by rw [cellsM_len]; exact HQ0.out); rw [HL2.out] at hc1; rw [HL1.out] at h3 ⊢; rw [HL2.out] at h4 ⊢; have H3 := hide (g3_mk (H1.out.later h5) h2 h3 h4 HQ.out); clear h2 h3 h4 h5))
  obtain ⟨b1, hb1⟩ : ∃ b, w2.heap.size = b := ⟨_, rfl⟩
  rw [hb1] at H3
  try rw [hb1]
  generalize (w2.alloc (.cells #[.int .i64 n, .slice (some ⟨tg, 0, none⟩) Q tc] 39)).alloc (.cells #[.int .i64 n, .slice (some ⟨lg, 0, none⟩) Q lc] 39) = W3 at H3 ⊢
  clear H1 hb1 c0 c1
  go_loopw [9] (fun vi wr => ∃ p : Nat, vi = .int .i64 p ∧ p ≤ n ∧ Hid (G3 w.heap.size w n a m c A g W b1 tg tc lg lc Q wr)) (fun vi _ => n - (intOf vi).toNat)
  case atStart => exact ⟨0, rfl, Nat.zero_le _, H3.out⟩
  case round =>
    clear H3
    obtain ⟨p, rfl, hp, HR⟩ := hrel
    have r0 := HR.out.ml.c0
    by_cases hpn : p < n
    · have i1 : (p : Int) < (n : Int) := by omega
      obtain ⟨hmul, hmb⟩ := mul_wrap (show p ≤ 32 by omega) hn.2
      obtain ⟨P, hP⟩ : ∃ P, p * n = P := ⟨_, rfl⟩
      have HP := hide hP
      rw [hP] at hmul hmb
      have hPQ : P + n ≤ Q := by rw [← hP, ← HQ.out]; exact Nat.le_trans (by rw [← Nat.succ_mul]; exact Nat.mul_le_mul_right _ hpn) (Nat.le_refl _)
      clear hP
      have HPN := hide hpn
      have x1 : (P : Int) + (n : Int) ≤ (lc : Int) := by omega
      have x2 : IntKind.i64.wrap ((P : Int) + (n : Int)) = ((P + n : Nat) : Int) := by rw [IntKind.wrap_i64]; omega
      have x3 : ¬ lc - P = 0 := by omega
      have x4 : P + n - P = n := by omega
      have z1 : ((n : Int) != (n : Int)) = false := by simp
      go_wp2_with (first
        | (go_at_call 21; refine (from_any HR.out.gr HN.out HWO.out p HPN.out).mono ?_; rintro e w3 ⟨gl, ga, D, Ah, rk, rfl, h1, h2, h3, h4, h5⟩; have HD := hide (fun q hq => h1.eq (least_is HWO.out p HPN.out) q hq); have H4 : Hid (AB w.heap.size w n a m c A g W b1 tg tc lg lc Q gl ga D Ah w3) := ab_mk (HR.out.later h5) h3 h4; have HBK := hide h2; have HI1 := hide (intsAt_row h3); have HI2 := hide (row_ints H4.out.g3 HQ.out HP.out HPN.out HD.out); have r0 := H4.out.g3.ml.c0; have r1 := H4.out.g3.ml.c1; clear h1 h2 h3 h4 h5)
        | (go_at_call 22; have h6 := sameInts_true (ca := n) (cb := lc - P) HI1.out HI2.out (by rw [lstV_len]; omega); rw [lstV_len] at h6; refine h6.mono ?_; clear h6; rintro e w4 ⟨rfl, h7⟩; have H5 := hide (H4.out.later h7); have r0 := H5.out.g3.ml.c0; clear h7))
      have HRO := hide HBK.out
      go_loopw [12] (fun vi wr => ∃ q : Nat, vi = .int .i64 q ∧ q ≤ n ∧ Hid (AB w.heap.size w n a m c A g W b1 tg tc lg lc Q gl ga D Ah wr)) (fun vi _ => n - (intOf vi).toNat)
      case atStart => exact ⟨0, rfl, Nat.zero_le _, H5.out⟩
      case round =>
        clear H5 H4 r0 r1 HI1 HI2 HR
        obtain ⟨q, rfl, hq, HR⟩ := hrel
        have r0 := HR.out.g3.ml.c0
        by_cases hqn : q < n
        · have i2 : (q : Int) < (n : Int) := by omega
          have x5 := HR.out.dr q hqn
          have x6 := HR.out.ar q hqn
          have HQN := hide hqn
          have hpz : (q : Int) = (p : Int) ↔ q = p := by omega
          cases hDq : D q with
          | none =>
            have hA : Ah q = -1 := HBK.out.none q hqn hDq
            rw [hDq] at x5
            rw [hA] at x6
            have x5' : wr.cell? ⟨gl, q, none⟩ = some (.int .i64 (-1)) := x5
            clear x5
            have hqp : ¬ q = p := fun e => by
              have := HD.out p HPN.out
              rw [← e, hDq, (least_is HWO.out q HQN.out).here] at this
              cases this
            have z3 : ((q : Int) == (p : Int)) = false := by simp; omega
            replace hDq := hide hDq
            replace hA := hide hA
            go_wp2
            go_quiet (fail)
            have HR2 := hide (HR.out.drewN nq)
            generalize wr.drewN nq = W8 at HR2 ⊢
            have x5 : W8.cell? ⟨gl, q, none⟩ = some (.int .i64 (-1)) := by have := HR2.out.dr q HQN.out; rw [hDq.out] at this; exact this
            clear HR x5' x6 r0
            go_wp2
            go_loopw [13, 14] (fun vv vc wr => vv = .int .i64 q ∧ vc = .int .i64 0 ∧ wr = W8) (fun _ _ _ => 0)
            case atStart => exact ⟨rfl, rfl, rfl⟩
            case round =>
              obtain ⟨rfl, rfl, rfl⟩ := hrel
              have r0 := HR2.out.g3.ml.c0
              go_wp2
              go_roundw
              case rel => exact ⟨q + 1, by go_num, by have := HQN.out; omega, HR2.out⟩
              case measure => have := HQN.out; simp [intOf]; omega
          | some dq =>
            rw [hDq] at x5
            have x5' : wr.cell? ⟨gl, q, none⟩ = some (.int .i64 dq) := x5
            clear x5
            obtain ⟨hd0, hdM⟩ := HBK.out.pos q dq hDq
            have j1 : ¬ dq < 0 := by omega
            have j2 : 0 ≤ dq := hd0
            obtain ⟨aq, haq⟩ : ∃ aq, Ah q = aq := ⟨_, rfl⟩
            rw [haq] at x6
            have HTR : Hid (Trace n D rk q 0) := ⟨HQN.out, ⟨dq, hDq⟩, by have := HBK.out.rank q dq HQN.out hDq; omega⟩
            have HE : Hid ((aq < 0) = ((q : Int) = (p : Int))) := by
              show (aq < 0) = ((q : Int) = (p : Int))
              by_cases e : q = p
              · have := HBK.out.first
                rw [← e, haq] at this
                rw [this, e]
                simp
              · obtain ⟨u, du, x, _, _, _, _, h5, _⟩ := HBK.out.ahead q dq HQN.out hDq e
                rw [haq] at h5
                rw [h5]
                apply propext
                constructor
                · intro h; omega
                · intro h; omega
            replace hDq := hide hDq
            have HB8 : Hid (∀ nq, AB w.heap.size w n a m c A g W b1 tg tc lg lc Q gl ga D Ah (wr.drewN nq)) := fun nq => HR.out.drewN nq
            clear haq hd0
            by_cases hqp : q = p
            · have e1 : aq < 0 := by have := HE.out; rw [this]; omega
              have e2 : ((q : Int) == (p : Int)) = true := by simp; omega
              replace hqp := hide hqp
              go_wp2
              go_quiet (fail)
              have HR2 := hide (HB8.out nq)
              generalize wr.drewN nq = W8 at HR2 ⊢
              clear HR HB8 x5' x6 r0 HE
              go_wp2
              clear e1 e2
              go_loopw [13, 14] (fun vv vc wr => ∃ v k : Nat, vv = .int .i64 v ∧ vc = .int .i64 k ∧ Hid (Trace n D rk v k) ∧ Hid (AB w.heap.size w n a m c A g W b1 tg tc lg lc Q gl ga D Ah wr)) (fun vv _ _ => rk (intOf vv).toNat)
              case atStart => exact ⟨q, 0, rfl, rfl, HTR.out, HR2.out⟩
              case round =>
                clear HR2 HTR
                obtain ⟨v, k, rfl, rfl, HTR, HR⟩ := hrel
                have r0 := HR.out.g3.ml.c0
                have y5 : wr.cell? ⟨gl, q, none⟩ = some (.int .i64 dq) := by have := HR.out.dr q HQN.out; rw [hDq.out] at this; exact this
                by_cases hvp : v = p
                · have z4 : ((v : Int) != (p : Int)) = false := by simp; omega
                  go_wp2
                  go_roundw
                  case rel => exact ⟨q + 1, by go_num, by have := HQN.out; omega, HR.out⟩
                  case measure => have := HQN.out; simp [intOf]; omega
                · have z4 : ((v : Int) != (p : Int)) = true := by simp; omega
                  obtain ⟨dv, hdv⟩ := HTR.out.dv
                  obtain ⟨u, du, x, hu, hdu, hWx, hsum, hAv, hrk⟩ := HBK.out.ahead v dv HTR.out.vn hdv hvp
                  have hvn := HTR.out.vn
                  have hkl := HTR.out.len
                  obtain ⟨hu0, huM⟩ := HBK.out.pos u du hdu
                  obtain ⟨hv0, hvM⟩ := HBK.out.pos v dv hdv
                  obtain ⟨hx0, hxM⟩ := HWO.out u v x hu hvn hWx
                  have HRK := hide hrk
                  have HTN : Hid (Trace n D rk u (k + 1)) := ⟨hu, ⟨du, hdu⟩, by omega⟩
                  have hk32 : k + 1 ≤ n := by omega
                  have y6 : wr.cell? ⟨ga, v, none⟩ = some (.int .i64 u) := by have := HR.out.ar v hvn; rw [hAv] at this; exact this
                  have y7 : wr.cell? ⟨gl, v, none⟩ = some (.int .i64 dv) := by have := HR.out.dr v hvn; rw [hdv] at this; exact this
                  have y8 : wr.cell? ⟨gl, u, none⟩ = some (.int .i64 du) := by have := HR.out.dr u hu; rw [hdu] at this; exact this
                  have r2 := HR.out.g3.mt.c1
                  obtain ⟨hmul, hmb2⟩ := mul_wrap (show u ≤ 32 by omega) HN.out.2
                  obtain ⟨U, hU⟩ : ∃ U, u * n = U := ⟨_, rfl⟩
                  have hcl := cell_lt hu hvn
                  rw [HQ.out, hU] at hcl
                  rw [hU] at hmul hmb2
                  have y9 : wr.cell? ⟨tg, U + v, none⟩ = some (.int .i64 x) := by
                    rw [HR.out.g3.mt.cells (U + v) hcl, ← hU, cellsM_at _ hu hvn, hWx]
                    rfl
                  have k1 : ¬ (u : Int) < 0 := by omega
                  have k2 : ¬ (n : Int) ≤ (u : Int) := by omega
                  have k3 : ¬ (n : Int) < ((k + 1 : Nat) : Int) := by omega
                  have k3' : ¬ (n : Int) < (k : Int) + 1 := by omega
                  have k4 : (dv != du + x) = false := by rw [hsum]; simp
                  have k5 : ¬ x < 0 := by omega
                  have d1 : decide ((u : Int) < 0) = false := decide_eq_false k1
                  have d2 : decide (n ≤ u) = false := decide_eq_false (by omega)
                  have d3 : decide ((n : Int) < (k : Int) + 1) = false := decide_eq_false k3'
                  have d4 : decide (x < 0) = false := decide_eq_false k5
                  have k6 : (v : Int) < (n : Int) := by omega
                  have k7 : (u : Int) < (n : Int) := by omega
                  have k8 : IntKind.i64.wrap ((U : Int) + (v : Int)) = ((U + v : Nat) : Int) := by rw [IntKind.wrap_i64]; omega
                  have k9 : (U : Int) + (v : Int) < (Q : Int) := by omega
                  have k10 : IntKind.i64.wrap (du + x) = du + x := by rw [IntKind.wrap_i64]; omega
                  clear hsum hdv hdu hWx hAv hrk hU
                  go_wp2
                  go_quiet (fail)
                  have HR3 := hide (HR.out.drewN nq)
                  clear HR
                  go_wp2
                  go_roundw
                  case rel => exact ⟨u, k + 1, rfl, by go_num, HTN.out, HR3.out⟩
                  case measure => have := HRK.out; simp [intOf]; omega
            · have e1 : ¬ aq < 0 := by have := HE.out; rw [this]; omega
              have e2 : ((q : Int) == (p : Int)) = false := by simp; omega
              have e3 : decide (aq < 0) = false := decide_eq_false e1
              have e4 : decide (dq < 0) = false := decide_eq_false j1
              go_wp2
              go_quiet (fail)
              have HR2 := hide (HB8.out nq)
              generalize wr.drewN nq = W8 at HR2 ⊢
              clear HR HB8 x5' x6 r0 HE
              go_wp2
              clear e1 e2
              go_loopw [13, 14] (fun vv vc wr => ∃ v k : Nat, vv = .int .i64 v ∧ vc = .int .i64 k ∧ Hid (Trace n D rk v k) ∧ Hid (AB w.heap.size w n a m c A g W b1 tg tc lg lc Q gl ga D Ah wr)) (fun vv _ _ => rk (intOf vv).toNat)
              case atStart => exact ⟨q, 0, rfl, rfl, HTR.out, HR2.out⟩
              case round =>
                clear HR2 HTR
                obtain ⟨v, k, rfl, rfl, HTR, HR⟩ := hrel
                have r0 := HR.out.g3.ml.c0
                have y5 : wr.cell? ⟨gl, q, none⟩ = some (.int .i64 dq) := by have := HR.out.dr q HQN.out; rw [hDq.out] at this; exact this
                by_cases hvp : v = p
                · have z4 : ((v : Int) != (p : Int)) = false := by simp; omega
                  go_wp2
                  go_roundw
                  case rel => exact ⟨q + 1, by go_num, by have := HQN.out; omega, HR.out⟩
                  case measure => have := HQN.out; simp [intOf]; omega
                · have z4 : ((v : Int) != (p : Int)) = true := by simp; omega
                  obtain ⟨dv, hdv⟩ := HTR.out.dv
                  obtain ⟨u, du, x, hu, hdu, hWx, hsum, hAv, hrk⟩ := HBK.out.ahead v dv HTR.out.vn hdv hvp
                  have hvn := HTR.out.vn
                  have hkl := HTR.out.len
                  obtain ⟨hu0, huM⟩ := HBK.out.pos u du hdu
                  obtain ⟨hv0, hvM⟩ := HBK.out.pos v dv hdv
                  obtain ⟨hx0, hxM⟩ := HWO.out u v x hu hvn hWx
                  have HRK := hide hrk
                  have HTN : Hid (Trace n D rk u (k + 1)) := ⟨hu, ⟨du, hdu⟩, by omega⟩
                  have hk32 : k + 1 ≤ n := by omega
                  have y6 : wr.cell? ⟨ga, v, none⟩ = some (.int .i64 u) := by have := HR.out.ar v hvn; rw [hAv] at this; exact this
                  have y7 : wr.cell? ⟨gl, v, none⟩ = some (.int .i64 dv) := by have := HR.out.dr v hvn; rw [hdv] at this; exact this
                  have y8 : wr.cell? ⟨gl, u, none⟩ = some (.int .i64 du) := by have := HR.out.dr u hu; rw [hdu] at this; exact this
                  have r2 := HR.out.g3.mt.c1
                  obtain ⟨hmul, hmb2⟩ := mul_wrap (show u ≤ 32 by omega) HN.out.2
                  obtain ⟨U, hU⟩ : ∃ U, u * n = U := ⟨_, rfl⟩
                  have hcl := cell_lt hu hvn
                  rw [HQ.out, hU] at hcl
                  rw [hU] at hmul hmb2
                  have y9 : wr.cell? ⟨tg, U + v, none⟩ = some (.int .i64 x) := by
                    rw [HR.out.g3.mt.cells (U + v) hcl, ← hU, cellsM_at _ hu hvn, hWx]
                    rfl
                  have k1 : ¬ (u : Int) < 0 := by omega
                  have k2 : ¬ (n : Int) ≤ (u : Int) := by omega
                  have k3 : ¬ (n : Int) < ((k + 1 : Nat) : Int) := by omega
                  have k3' : ¬ (n : Int) < (k : Int) + 1 := by omega
                  have k4 : (dv != du + x) = false := by rw [hsum]; simp
                  have k5 : ¬ x < 0 := by omega
                  have d1 : decide ((u : Int) < 0) = false := decide_eq_false k1
                  have d2 : decide (n ≤ u) = false := decide_eq_false (by omega)
                  have d3 : decide ((n : Int) < (k : Int) + 1) = false := decide_eq_false k3'
                  have d4 : decide (x < 0) = false := decide_eq_false k5
                  have k6 : (v : Int) < (n : Int) := by omega
                  have k7 : (u : Int) < (n : Int) := by omega
                  have k8 : IntKind.i64.wrap ((U : Int) + (v : Int)) = ((U + v : Nat) : Int) := by rw [IntKind.wrap_i64]; omega
                  have k9 : (U : Int) + (v : Int) < (Q : Int) := by omega
                  have k10 : IntKind.i64.wrap (du + x) = du + x := by rw [IntKind.wrap_i64]; omega
                  clear hsum hdv hdu hWx hAv hrk hU
                  go_wp2
                  go_quiet (fail)
                  have HR3 := hide (HR.out.drewN nq)
                  clear HR
                  go_wp2
                  go_roundw
                  case rel => exact ⟨u, k + 1, rfl, by go_num, HTN.out, HR3.out⟩
                  case measure => have := HRK.out; simp [intOf]; omega
        · have e : q = n := by omega
          have i2 : ¬ (q : Int) < (n : Int) := by omega
          have H6 := hide HR.out.g3
          clear HR
          go_wp2
          go_roundw
          case rel => exact ⟨p + 1, by go_num, by have := HPN.out; omega, H6.out⟩
          case measure => have := HPN.out; simp [intOf]; omega
    · have i1 : ¬ (p : Int) < (n : Int) := by omega
      have r1 := HR.out.ml.c1
      have HM2 : Hid (∀ w', G3 w.heap.size w n a m c A g W b1 tg tc lg lc Q w' → IntsAt w' (some ⟨lg, 0, none⟩) (cellsM n (least n W))) := fun w' h k hk => by
        rw [HL2.out] at hk
        refine ⟨lg, 0, rfl, ?_⟩
        rw [Nat.zero_add]
        exact h.ml.cells k hk
      go_wp2
      first | (go_region_held3 (fun w' => w'.cell? ⟨b1 + 1, 0, none⟩ = some (.int .i64 n) ∧ w'.cell? ⟨b1 + 1, 1, none⟩ = some (.slice (some ⟨lg, 0, none⟩) Q lc)) (go_keep) (first
        | (go_at_call 24; refine (all_any (HR.out.gr.later (Below.refl _ _).drew) HN.out HWO.out).mono ?_; rintro e w5 ⟨v5, rfl, h1, h2⟩; obtain ⟨va, vc, rfl⟩ := h1.shape; have HV5 := hide (intsAt_row h1); have H5 := hide (HR.out.later (((Below.refl _ _).drew).trans h2)); have r0 := H5.out.ml.c0; have r1 := H5.out.ml.c1; rw [HL2.out]; clear h1 h2)
        | (go_at_call 23; have h6 := same_true (n := n) (ca := vc) (cb := lc) HV5.out (HM2.out _ H5.out) (by rw [HL2.out]; omega); rw [HL2.out] at h6; refine h6.mono ?_; clear h6; rintro e w6 ⟨rfl, h7⟩; have H6 := hide (H5.out.later h7); have r2 := H6.out.ml.c0; have r3 := H6.out.ml.c1; clear h7)))
      all_goals
        go_wp2
        go_ret
        exact ⟨rfl, H6.out.rin.below⟩
theorem alls_any (n : Int) (a : Option Addr) (m c : Nat) (A : List Arc) (d : Bool) (w : World) (h : ArcsAt w a m A) (hc : a = none → c = 0) :
    Calls Try.prog 4 #[.agg #[.int .i64 n, .slice a m c], .bool d] w fun e w' => e = .returned (.bool true) ∧ Below w.heap.size w w' := by
  by_cases hm : 300 < m
  · exact alls_bad n a m c A d w h hc (.inl hm)
  · by_cases he : (checkM n A).2 = 0
    · obtain ⟨hn, _⟩ := checkM_ok he
      obtain ⟨k, rfl⟩ : ∃ k : Nat, n = (k : Int) := ⟨n.toNat, by omega⟩
      exact alls_good k a m c A d w h hc (by omega) he
    · exact alls_bad n a m c A d w h hc (.inr ⟨by omega, he⟩)
end Go.Proofs.Ytlflbjnglmbdeaa
