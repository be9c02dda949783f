/-
  What the call of climb's Table does.
-/
import Derived.Test.YtojkdmkeankcgaaGreatZTp
namespace Go.Proofs.YtojkdmkeankcgaaGreat
open Go.RowKit Go.Sort

/-- While Table runs: its result's and its matrix' boxes, the row of cells, the buckets. -/
structure TbIn (B : Nat) (w : World) (n g Q : Nat) (b4 O : Nat) (R : Nat → List (Int × Int)) (vs : List Value) (xs : List Int) (wr : World) : Prop where
  below : Below B w wr
  hB : B ≤ wr.heap.size
  b2 : wr.heap[B]? = some (.cells #[.int .i64 0, .slice none 0 0] 29 (0, 0))
  bx : wr.heap[b4]? = some (.cells #[.int .i64 n, .slice (some ⟨g, 0, none⟩) Q Q] 29 (0, 0))
  row : IRow wr (B + 1) (.slice (some ⟨g, 0, none⟩) Q Q) xs
  outs : Outs O O n wr R vs
section
variable {B n g Q b4 O : Nat} {w wr w' : World} {R : Nat → List (Int × Int)} {vs : List Value} {xs : List Int}
theorem TbIn.later (h : TbIn B w n g Q b4 O R vs xs wr) (f : Below wr.heap.size wr w') : TbIn B w n g Q b4 O R vs xs w' :=
  ⟨h.below.trans (f.mono h.hB), Nat.le_trans h.hB f.size, (f.block _ (Array.getElem?_eq_some_iff.1 h.b2).1).trans h.b2, (f.block _ (Array.getElem?_eq_some_iff.1 h.bx).1).trans h.bx, h.row.later (Nat.le_refl _) f, h.outs.later f⟩
theorem TbIn.drewN (h : TbIn B w n g Q b4 O R vs xs wr) (q : Nat) : TbIn B w n g Q b4 O R vs xs (wr.drewN q) := h.later (Qu.below_drewN (Below.refl _ _) q)
theorem TbIn.put (h : TbIn B w n g Q b4 O R vs xs wr) (k : Nat) (x : Int) : TbIn B w n g Q b4 O R vs (xs.set k x) (wr.setCell ⟨g, k, none⟩ (.int .i64 x)) := by
  have hg := (h.row.lt g rfl).1
  obtain ⟨cur, hc⟩ := own_tag h.row (show (Value.slice (some ⟨g, 0, none⟩) Q Q).ownBlock = some g from rfl)
  have ne : ∀ {k t : Nat} {c : Array Value}, wr.heap[k]? = some (.cells c t (0, 0)) → t ≠ 3 → k ≠ g := fun hk ht e => by
    rw [e, hc] at hk
    simp at hk
    exact ht hk.2.symm
  refine ⟨h.below.setCell (by show B ≤ g; omega) _, by simpa [World.setCell] using h.hB, by rw [heap_setCell_other _ _ _ _ (ne h.b2 (by omega))]; exact h.b2, by rw [heap_setCell_other _ _ _ _ (ne h.bx (by omega))]; exact h.bx, h.row.set k x, ?_⟩
  refine ⟨h.outs.len, by rw [heap_setCell_other _ _ _ _ (ne h.outs.blk (by omega))]; exact h.outs.blk, fun p hp => own_of_block (h.outs.row p hp) fun j hj => heap_setCell_other _ _ _ _ ?_, h.outs.dis⟩
  obtain ⟨c2, hc2⟩ := own_tag (h.outs.row p hp) hj
  exact ne hc2 (by omega)
theorem outs_cell (h : Outs O O n wr R vs) {p : Nat} (hp : p < n) : ∃ ra rc, wr.cell? ⟨O, p, none⟩ = some (.slice ra (R p).length rc) ∧ ∀ j, j < (R p).length → ∃ gb, ra = some ⟨gb, 0, none⟩ ∧ wr.cell? ⟨gb, j * 2, none⟩ = some (.int .i64 (R p)[j]!.1) ∧ wr.cell? ⟨gb, j * 2 + 1, none⟩ = some (.int .i64 (R p)[j]!.2) := by
  obtain ⟨ra, rc, hv⟩ := outs_len h p hp
  refine ⟨ra, rc, ?_, fun j hj => ?_⟩
  · rw [cell_of_row wr O p _ _ _ h.blk, ← hv]
    simp [List.getD_eq_getElem?_getD, h.len, hp]
  · have hr := h.row p hp
    rw [hv] at hr
    rcases hr.2 with ⟨_, e2⟩ | ⟨gb, cap, cur, e0, hb, _⟩
    · omega
    · cases e0
      have f := flatE_get (R p) j hj
      exact ⟨gb, rfl, by rw [hr.cellAt _ (by omega)]; exact f.1, by rw [hr.cellAt _ (by omega)]; exact f.2⟩
end
theorem mulS_wrap {i n : Nat} (hi : i < n) (hn : n ≤ 32) : IntKind.i64.wrap (((i : Int) + 1) * (n : Int)) = ((i * n + n : Nat) : Int) ∧ i * n + n ≤ n * n := by
  have h1 := (mul_wrap (p := i + 1) (n := n) (by omega) hn).1
  rw [show ((i + 1 : Nat) : Int) = (i : Int) + 1 by push_cast; rfl, Nat.succ_mul] at h1
  exact ⟨h1, by have := Nat.mul_le_mul_right n (show i + 1 ≤ n from hi); rw [Nat.succ_mul] at this; exact this⟩
/-- In the middle of Table. -/
structure TbR (B : Nat) (w : World) (n g Q b4 O : Nat) (R : Nat → List (Int × Int)) (vs : List Value) (xs : List Int) (bp : Nat) (pa : Option Addr) (pc : Nat) (ma : Option Addr) (mc : Nat) (U : Nat → Option Int) (wr : World) : Prop where
  tb : TbIn B w n g Q b4 O R vs xs wr
  rp : IRow wr bp (.slice pa (rcL U n).length pc) (rcP U n)
  rm : IRow wr bp (.slice ma (rcL U n).length mc) (rcW U n)
  gb : g < bp
section
variable {B n g Q b4 O bp pc mc : Nat} {w wr w' : World} {R : Nat → List (Int × Int)} {vs : List Value} {xs : List Int} {pa ma : Option Addr} {U : Nat → Option Int}
theorem TbR.later (h : TbR B w n g Q b4 O R vs xs bp pa pc ma mc U wr) (f : Below wr.heap.size wr w') : TbR B w n g Q b4 O R vs xs bp pa pc ma mc U w' := ⟨h.tb.later f, h.rp.later (Nat.le_refl _) f, h.rm.later (Nat.le_refl _) f, h.gb⟩
theorem TbR.put (h : TbR B w n g Q b4 O R vs xs bp pa pc ma mc U wr) (k : Nat) (x : Int) : TbR B w n g Q b4 O R vs (xs.set k x) bp pa pc ma mc U (wr.setCell ⟨g, k, none⟩ (.int .i64 x)) := ⟨h.tb.put k x, h.rp.setOther h.gb _, h.rm.setOther h.gb _, h.gb⟩
end
/-- What lies in memory when fill is called. -/
structure TbS (B : Nat) (w : World) (n g Q b4 : Nat) (xs : List Int) (wr : World) : Prop where
  below : Below B w wr
  b2 : wr.heap[B]? = some (.cells #[.int .i64 0, .slice none 0 0] 29 (0, 0))
  bx : wr.heap[b4]? = some (.cells #[.int .i64 n, .slice (some ⟨g, 0, none⟩) Q Q] 29 (0, 0))
  row : IRow wr (B + 1) (.slice (some ⟨g, 0, none⟩) Q Q) xs
theorem tb_start {n Q q : Nat} (w w2 : World) (hQ : Q ≤ 1024) (h : w2 = (((w.alloc (.cells #[.int .i64 0, .slice none 0 0] 29)).alloc (.cells #[.int .i64 (-1)] 3)).alloc (.cells (List.replicate Q (.int .i64 (-1))).toArray 3)).drewN q) :
    TbS w.heap.size w n (w.heap.size + 1 + 1) Q w2.heap.size (List.replicate Q (-1)) (w2.alloc (.cells #[.int .i64 n, .slice (some ⟨w.heap.size + 1 + 1, 0, none⟩) Q Q] 29)) := by
  have z : w2.heap.size = w.heap.size + 3 := by rw [h, size_drewN]; simp only [size_alloc]
  have g1 : w2.heap[w.heap.size]? = some (.cells #[.int .i64 0, .slice none 0 0] 29 (0, 0)) := by
    rw [h, Qu.drewN_heap]
    exact at_old (by simp only [size_alloc]; omega) (at_old (by simp only [size_alloc]; omega) (at_new rfl))
  have g2 : w2.heap[w.heap.size + 1 + 1]? = some (.cells (List.replicate Q (.int .i64 (-1))).toArray 3 (0, 0)) := by
    rw [h, Qu.drewN_heap]
    exact at_new (by simp only [size_alloc])
  have f2 : Below w.heap.size w w2 := by
    rw [h]
    exact Qu.below_drewN ((((Below.refl _ _).alloc (Nat.le_refl _) _).alloc (by simp) _).alloc (by simp only [size_alloc]; omega) _) q
  refine ⟨f2.alloc f2.size _, at_old (by omega) g1, at_new rfl, ?_⟩
  have hi : IRow w2 (w.heap.size + 1) (.slice (some ⟨w.heap.size + 1 + 1, 0, none⟩) Q Q) (List.replicate Q (-1)) := by
    refine ⟨by rw [intsV_len]; simp, .inr ⟨_, Q, _, by simp, by omega, g2, by simp, by unfold maxLen; omega, by simp, ?_⟩⟩
    simp [intsV]
  exact hi.alloc _
set_option maxRecDepth 100000
set_option maxHeartbeats 12800000
theorem table8_any {n : Nat} {w : World} {b : LfB} {rv : Nat → Int} {W : Nat → Nat → Option Int} {K : Mx} {rk : Nat → Nat} {Q9 : Nat → Option Int} (hl : LfA n w b rv (upM K rk) (dnM K rk)) (hn : 1 ≤ n ∧ n ≤ 32) (hBd : Bd n W n K rk Q9 rv) (hW : WOk n W) :
    Calls Tryz.prog 13 #[.pointer (some ⟨b.l, 0, none⟩)] w fun e w' => ∃ v, e = .returned (.agg #[.int .i64 n, v]) ∧ IRow w' w.heap.size v (cellsM n (least n W)) ∧ Below w.heap.size w w' := by
  obtain ⟨Q, hQ⟩ : ∃ Q, n * n = Q := ⟨_, rfl⟩
  have hQb := (mul_wrap hn.2 hn.2).2
  have hmul := (mul_wrap hn.2 hn.2).1
  have hQ1 : 1 ≤ n * n := Nat.mul_pos (by omega) (by omega)
  rw [hQ] at hQb hmul hQ1
  have HQ := hide hQ
  have HL := hide hl
  have HN := hide hn
  have HBD := hide hBd
  have HW := hide hW
  have f1 : Below w.heap.size w (w.alloc (.cells #[.int .i64 0, .slice none 0 0] 29)) := (Below.refl _ _).alloc (Nat.le_refl _) _
  have HF1 := hide f1
  have HPL := hide (lplaces_any (hl.later f1) hn.2)
  have f2 : Below w.heap.size w ((w.alloc (.cells #[.int .i64 0, .slice none 0 0] 29)).alloc (.cells #[.int .i64 (-1)] 3)) := f1.alloc f1.size _
  have hcl : ((w.alloc (.cells #[.int .i64 0, .slice none 0 0] 29)).alloc (.cells #[.int .i64 (-1)] 3)).cell? ⟨w.heap.size + 1, 0, none⟩ = some (.int .i64 (-1)) := by
    have := heap_alloc_new (w.alloc (.cells #[.int .i64 0, .slice none 0 0] 29)) (.cells #[.int .i64 (-1)] 3)
    rw [size_alloc] at this
    rw [cell_of_row _ (w.heap.size + 1) 0 _ _ _ this]
    rfl
  have HRP := hide (repeat8 (-1) Q _ ⟨hQ1, hQb⟩ _ hcl)
  obtain ⟨B, hB⟩ : ∃ B, w.heap.size = B := ⟨_, rfl⟩
  have HB := hide hB
  clear hl hBd hW f1 f2 hcl hQ hB
  go_enter Tryz.func13, Tryz.ntmps13
  go_wp2_with (first
    | (go_at_call 31; refine HPL.out.mono ?_; rintro e w1 ⟨rfl, hw⟩; rw [hw]; clear hw)
    | (go_at_call 38; refine HRP.out.mono ?_; rintro e w2 ⟨rfl, q, hw⟩; have H2 := hide hw; clear hw))
  have HTS := hide (tb_start (n := n) w w2 hQb H2.out)
  have HLF := hide (HL.out.later HTS.out.below)
  rw [HB.out] at HTS HLF
  try rw [HB.out]
  generalize w2.alloc (.cells #[.int .i64 n, .slice (some ⟨B + 1 + 1, 0, none⟩) Q Q] 29) = W3 at HTS HLF ⊢
  generalize w2.heap.size = b4 at HTS ⊢
  generalize hg : B + 1 + 1 = g at HTS ⊢
  clear H2 HRP HPL hg
  go_wp2_with (go_at_call 39; refine (fill_any HLF.out HN.out.2 HBD.out).mono ?_; rintro e w3 ⟨O, vs, rfl, h1, h2, h3⟩; have H3 := hide (And.intro h1 h3); clear h1 h2 h3)
  generalize hF : sideD n (dnE K rk) = F at H3
  have HFE := hide hF
  have HFO : Hid (∀ t, t < n → DOk n (F t)) := fun t ht => by rw [← hF]; exact sideD_ok (eok_dn HBD.out HN.out.2) ht
  have HFL : Hid (∀ t, t < n → IsLeast n (wtM (dnE K rk)) t (F t)) := fun t ht => by rw [← hF]; exact sideD_is (eok_dn HBD.out HN.out.2) ht
  have HS : Hid (TbIn B w n g Q b4 O (fB F n) vs (cellsM n (tM (least n W) 0 fun _ => none)) w3) := by
    rw [tM_zero, HQ.out]
    have f := H3.out.2
    have hs := HTS.out
    have hBz : B ≤ W3.heap.size := by rw [← HB.out]; exact hs.below.size
    exact ⟨hs.below.trans (f.mono hBz), Nat.le_trans hBz f.size, (f.block _ (Array.getElem?_eq_some_iff.1 hs.b2).1).trans hs.b2, (f.block _ (Array.getElem?_eq_some_iff.1 hs.bx).1).trans hs.bx, hs.row.later (Nat.le_refl _) f, H3.out.1⟩
  clear H3 HTS HLF hF hmul
  go_loopw [27] (fun vi wr => ∃ i : Nat, vi = .int .i64 i ∧ i ≤ n ∧ Hid (TbIn B w n g Q b4 O (fB F n) vs (cellsM n (tM (least n W) i fun _ => none)) wr)) (fun vi _ => n - (intOf vi).toNat)
  case atStart => exact ⟨0, rfl, Nat.zero_le _, HS.out⟩
  case round =>
    clear HS
    obtain ⟨i, rfl, hi, HR⟩ := hrel
    by_cases hin : i < n
    · have j1 : (i : Int) < (n : Int) := by omega
      have HIN := hide hin
      obtain ⟨hm1, hm1b⟩ := mul_wrap (show i ≤ 32 by omega) HN.out.2
      obtain ⟨hm2, hm2b⟩ := mulS_wrap hin HN.out.2
      obtain ⟨P, hP⟩ : ∃ P, i * n = P := ⟨_, rfl⟩
      have HP := hide hP
      rw [hP] at hm1 hm1b hm2 hm2b
      rw [HQ.out] at hm2b
      have x0 : wr.cell? ⟨b4, 1, none⟩ = some (.slice (some ⟨g, 0, none⟩) Q Q) := by rw [cell_of_row _ b4 1 _ _ _ HR.out.bx]; rfl
      have x1 : (P : Int) + (n : Int) ≤ (Q : Int) := by omega
      have x3 : ¬ Q - P = 0 := by omega
      have x4 : P + n - P = n := by omega
      have HLR : Hid (LfA n wr b rv (upM K rk) (dnM K rk)) := HL.out.of_blocks fun j hj => HR.out.below.block j (by rw [← HB.out]; exact HL.out.lt hj)
      clear hP
      go_wp2_with (go_at_call 17; refine (reach_up_any HLR.out HN.out.2 HBD.out HIN.out).mono ?_; rintro e w4 ⟨vp, vm, rfl, h1, h2, h3⟩; obtain ⟨pa, pc, rfl⟩ := h1.shape; obtain ⟨ma, mc, rfl⟩ := h2.shape; have H4 := hide (And.intro h1 (And.intro h2 h3)); clear h1 h2 h3)
      have HUO := hide (sideD_ok (eok_up HBD.out HN.out.2) HIN.out)
      have HUL := hide (sideD_is (eok_up HBD.out HN.out.2) HIN.out)
      generalize sideD n (upM K rk) i = U at H4 HUO HUL ⊢
      have hlp : (rcP U n).length = (rcL U n).length := by simp [rcP]
      have hlm : (rcW U n).length = (rcL U n).length := by simp [rcW]
      rw [hlp] at H4 ⊢
      rw [hlm] at H4 ⊢
      have HLP := hide (And.intro hlp hlm)
      have HS2 : Hid (TbR B w n g Q b4 O (fB F n) vs (cellsM n (tM (least n W) i fun _ => none)) wr.heap.size pa pc ma mc U w4) := ⟨HR.out.later H4.out.2.2, H4.out.1, H4.out.2.1, (HR.out.row.lt g rfl).2⟩
      generalize wr.heap.size = bp at HS2
      obtain ⟨L, hL⟩ : ∃ L, (rcL U n).length = L := ⟨_, rfl⟩
      have HLE := hide hL
      have hLn : L ≤ 32 := by have := rcL_len U n; have := HN.out; omega
      rw [hL] at ⊢
      clear H4 HR HLR x0 hlp hlm hL
      go_loopw [48] (fun vi wr => ∃ (c : Nat) (T : Nat → Option Int), vi = .int .i64 c ∧ c ≤ L ∧ Hid (TbR B w n g Q b4 O (fB F n) vs (cellsM n (tM (least n W) i T)) bp pa pc ma mc U wr ∧ Bst U F n (TS U F n c 0) T)) (fun vi _ => L - (intOf vi).toNat)
      case atStart => exact ⟨0, _, rfl, Nat.zero_le _, HS2.out, bst_start U F n⟩
      case round =>
        clear HS2
        obtain ⟨c, T0, rfl, hc, HR⟩ := hrel
        by_cases hcl : c < L
        · have hcl' : c < (rcL U n).length := by rw [HLE.out]; exact hcl
          obtain ⟨p, a, hv, hp, hu, e1, e2⟩ := rcL_at hcl'
          have hrm := HR.out.1.rm
          have hrp := HR.out.1.rp
          obtain ⟨gp, cp, hvp, _, _, _, _⟩ := hrp.form (by have := HLP.out; omega)
          obtain ⟨gm, cm, hvm, _, _, _, _⟩ := hrm.form (by have := HLP.out; omega)
          injection hvp with q1 q2 q3
          injection hvm with q4 q5 q6
          subst q1 q3 q4 q6
          have x1' := hrp.cell c (by have := HLP.out; omega)
          rw [e1] at x1'
          obtain ⟨ra, rc, cO, hrow⟩ := outs_cell HR.out.1.tb.outs hp
          have i1 : (c : Int) < (L : Int) := by omega
          have i2 : (p : Int) < (n : Int) := by omega
          have HUV := hide (And.intro hu hv)
          have HCL := hide hcl'
          have HE2 := hide e2
          have HPN := hide hp
          have ha := HUO.out p a hu
          have HWA : Hid (Wt a) := ⟨ha.2.1, by omega⟩
          have hbl : (fB F n p).length ≤ n := fB_len F n p
          have HS3 : Hid (TbR B w n g Q b4 O (fB F n) vs (cellsM n (tM (least n W) i T0)) bp (some ⟨gp, 0, none⟩) pc (some ⟨gm, 0, none⟩) mc U wr ∧ Bst U F n (TS U F n c 0) T0) := HR.out
          obtain ⟨J, hJ⟩ : ∃ J, (fB F n p).length = J := ⟨_, rfl⟩
          have HJE := hide hJ
          rw [hJ] at cO hbl
          have HBR : Hid (ra = ra ∧ rc = rc) := ⟨rfl, rfl⟩
          clear q2 q5 e1 e2 hu hv hrm hrp hcl' hrow HR hJ ha
          go_wp2
          clear x1'
          go_loopw [58] (fun vi wr => ∃ (j : Nat) (T : Nat → Option Int), vi = .int .i64 j ∧ j ≤ J ∧ Hid (TbR B w n g Q b4 O (fB F n) vs (cellsM n (tM (least n W) i T)) bp (some ⟨gp, 0, none⟩) pc (some ⟨gm, 0, none⟩) mc U wr ∧ wr.cell? ⟨O, p, none⟩ = some (.slice ra J rc) ∧ Bst U F n (TS U F n c j) T)) (fun vi _ => J - (intOf vi).toNat)
          case atStart => exact ⟨0, T0, rfl, Nat.zero_le _, HS3.out.1, cO, HS3.out.2⟩
          case round =>
            clear HS3 cO
            obtain ⟨j, T, rfl, hj, HR⟩ := hrel
            by_cases hjl : j < J
            · have hjl' : j < (fB F n p).length := by rw [HJE.out]; exact hjl
              obtain ⟨t, d, ht, htn, hf⟩ := fB_at hjl'
              obtain ⟨ra', rc', cO', hrow⟩ := outs_cell HR.out.1.tb.outs HPN.out
              rw [HJE.out, HR.out.2.1] at cO'
              injection cO' with cO'
              injection cO' with y1 y2 y3
              subst y1 y3
              obtain ⟨gb, hra, k0, k1⟩ := hrow j hjl'
              subst hra
              rw [ht] at k0 k1
              simp only at k0 k1
              have i3 : (j : Int) < (J : Int) := by omega
              have i4 : (t : Int) < (n : Int) := by omega
              have hd := HFO.out t htn p d hf
              have HWD : Hid (Wt d) := ⟨hd.2.1, by omega⟩
              have hcv := HR.out.2.2.cv HUO.out HFO.out htn
              have hlt := cell_lt HIN.out htn
              rw [HP.out, HQ.out] at hlt
              have x2 := HR.out.1.rm.cell c (by have := HLP.out; have := HLE.out; omega)
              rw [HE2.out] at x2
              have HAL : Hid (Below wr.heap.size wr (wr.alloc (.cells #[.int .i64 t, .int .i64 d] 75))) := (Below.refl _ _).alloc (Nat.le_refl _) _
              have HT1 := hide (HR.out.1.later HAL.out)
              have hxt := HT1.out.tb.row.cell (P + t) (by rw [cellsM_len, HQ.out]; exact hlt)
              rw [← HP.out, tM_at _ _ HIN.out htn, HP.out] at hxt
              have x2a := HT1.out.rm.cell c (by have := HLP.out; have := HLE.out; omega)
              rw [HE2.out] at x2a
              have fz := HT1.out.tb.row.frozen (P + t)
              have hnew := heap_alloc_new wr (.cells #[.int .i64 t, .int .i64 d] 75)
              have n0 := cell_of_row _ wr.heap.size 0 _ _ _ hnew
              have n1 := cell_of_row _ wr.heap.size 1 _ _ _ hnew
              simp only [List.getElem?_toArray, List.getElem?_cons_succ, List.getElem?_cons_zero] at n0 n1
              have HBE := hide HR.out.2.2
              have HCO := hide HR.out.2.1
              have HFT := hide (And.intro hf ht)
              have HCV := hide hcv
              obtain ⟨ct, hct⟩ : ∃ ct, cv (T t) = ct := ⟨_, rfl⟩
              rw [hct] at hxt
              have hctb : -1 ≤ ct ∧ ct ≤ 8589934592000000 := by rw [← hct]; exact ⟨hcv.1, hcv.2.1⟩
              have HCT := hide hct
              clear HR hf ht hcv hct hnew hjl' hrow y2
              go_wp2
              generalize hW1 : wr.alloc (.cells #[.int .i64 t, .int .i64 d] 75) = W1 at HAL HT1 hxt x2a fz n0 n1 ⊢
              clear hW1 k0 k1 x2
              by_cases hh : ct < 0 ∨ a + d < ct
              · have HLT := hide (fun w => lighter_any (a + d) ct w)
                rw [decide_eq_true hh] at HLT
                have HNX : Hid (Bst U F n (TS U F n c (j + 1)) (upd T t (some (a + d)))) := ts_step HUV.out.2 (by rw [HJE.out]; exact hjl) HFT.out.2 (HBE.out.take HUV.out.1 HFT.out.1 (by rw [HCT.out]; exact hh) HCV.out.2.2.1)
                replace hh := hide hh
                go_quiet (first | (go_at_call 40; exact Calls.quiet_of_same (plusC_any a d HWA.out HWD.out _)))
                have HT2 : Hid (TbR B w n g Q b4 O (fB F n) vs (cellsM n (tM (least n W) i (upd T t (some (a + d))))) bp (some ⟨gp, 0, none⟩) pc (some ⟨gm, 0, none⟩) mc U ((W1.drewN nq).setCell ⟨g, P + t, none⟩ (.int .i64 (a + d)))) := by
                  rw [tM_put _ _ htn, HP.out]
                  exact (HT1.out.later (Qu.below_drewN (Below.refl _ _) nq)).put (P + t) (a + d)
                have HCO2 : Hid (((W1.drewN nq).setCell ⟨g, P + t, none⟩ (.int .i64 (a + d))).cell? ⟨O, p, none⟩ = some (.slice (some ⟨gb, 0, none⟩) J rc)) := by
                  obtain ⟨r1, r2, h1, _⟩ := outs_cell HT2.out.tb.outs HPN.out
                  obtain ⟨cur, hc1⟩ := own_tag HT1.out.tb.row (show (Value.slice (some ⟨g, 0, none⟩) Q Q).ownBlock = some g from rfl)
                  have hne : O ≠ g := fun e => by have := HT1.out.tb.outs.blk; rw [e, hc1] at this; simp at this
                  show _ = _
                  rw [World.cell?_setCell_other _ _ _ _ (fun e => hne (by cases e; rfl))]
                  have := (HAL.out.cell (p := ⟨O, p, none⟩) (block_lt_of_cell HCO.out)).trans HCO.out
                  simpa using this
                go_wp2_with (go_at_call 41; refine (HLT.out _).mono ?_; rintro e w2 ⟨rfl, hw⟩; rw [hw]; clear hw)
                go_roundw
                case rel => exact ⟨j + 1, _, by go_num, by omega, HT2.out, HCO2.out, HNX.out⟩
                case measure => simp [intOf]; omega
              · have HLT := hide (fun w => lighter_any (a + d) ct w)
                rw [decide_eq_false hh] at HLT
                have HNX : Hid (Bst U F n (TS U F n c (j + 1)) T) := ts_step HUV.out.2 (by rw [HJE.out]; exact hjl) HFT.out.2 (HBE.out.keep HUV.out.1 HFT.out.1 (by rw [HCT.out]; exact hh))
                replace hh := hide hh
                go_quiet (first | (go_at_call 40; exact Calls.quiet_of_same (plusC_any a d HWA.out HWD.out _)))
                have HT2 := hide (HT1.out.later (Qu.below_drewN (Below.refl _ _) nq))
                have HCO2 : Hid ((W1.drewN nq).cell? ⟨O, p, none⟩ = some (.slice (some ⟨gb, 0, none⟩) J rc)) := by
                  have := (HAL.out.cell (p := ⟨O, p, none⟩) (block_lt_of_cell HCO.out)).trans HCO.out
                  show _ = _
                  simpa using this
                go_wp2_with (go_at_call 41; refine (HLT.out _).mono ?_; rintro e w2 ⟨rfl, hw⟩; rw [hw]; clear hw)
                go_roundw
                case rel => exact ⟨j + 1, _, by go_num, by omega, HT2.out, HCO2.out, HNX.out⟩
                case measure => simp [intOf]; omega
            · have hje : j = J := by omega
              subst hje
              have HNX : Hid (Bst U F n (TS U F n (c + 1) 0) T) := ts_line HCL.out HUV.out.2 (by rw [HJE.out]; exact HR.out.2.2)
              have HT2 := hide HR.out.1
              clear HR
              go_wp2
              go_roundw
              case rel => exact ⟨c + 1, T, by go_num, by omega, HT2.out, HNX.out⟩
              case measure => simp [intOf]; omega
        · have hce : c = L := by omega
          have HTB := hide HR.out.1.tb
          have HTE : Hid (∀ t, t < n → T0 t = least n W i t) := fun t ht => by
            have h1 := HR.out.2
            rw [hce, ← HLE.out] at h1
            rw [ts_all HUO.out h1 ht]
            exact meet_least HBD.out HW.out HIN.out ht HUL.out (HFL.out t ht)
          have HNX : Hid (TbIn B w n g Q b4 O (fB F n) vs (cellsM n (tM (least n W) (i + 1) fun _ => none)) wr) := by
            rw [← tM_next _ _ HTE.out]
            exact HTB.out
          subst hce
          clear HR
          go_wp2
          go_roundw
          case rel => exact ⟨i + 1, by go_num, by omega, HNX.out⟩
          case measure => simp [intOf]; omega
    · have hie : i = n := by omega
      have hA := HR.out
      rw [hie, tM_end] at hA
      have m0 := cell_of_row wr b4 0 _ _ _ hA.bx
      have m1 := cell_of_row wr b4 1 _ _ _ hA.bx
      have m2 := cell_of_row wr B 0 _ _ _ hA.b2
      have m3 := cell_of_row wr B 1 _ _ _ hA.b2
      simp only [List.getElem?_toArray, List.getElem?_cons_succ, List.getElem?_cons_zero] at m0 m1 m2 m3
      have z2 := frozen_of_row wr B 0 _ _ hA.b2
      have z3 := frozen_of_row wr B 1 _ _ hA.b2
      have HX : Hid (((wr.setCell ⟨B, 0, none⟩ (.int .i64 n)).setCell ⟨B, 1, none⟩ (.slice (some ⟨g, 0, none⟩) Q Q)).heap[B]? = some (.cells #[.int .i64 n, .slice (some ⟨g, 0, none⟩) Q Q] 29 (0, 0)) ∧ IRow ((wr.setCell ⟨B, 0, none⟩ (.int .i64 n)).setCell ⟨B, 1, none⟩ (.slice (some ⟨g, 0, none⟩) Q Q)) B (.slice (some ⟨g, 0, none⟩) Q Q) (cellsM n (least n W)) ∧ Below B w ((wr.setCell ⟨B, 0, none⟩ (.int .i64 n)).setCell ⟨B, 1, none⟩ (.slice (some ⟨g, 0, none⟩) Q Q))) := by
        refine ⟨?_, ((hA.row.setOther (b := B) (j := 0) (by omega) (.int .i64 n)).setOther (b := B) (j := 1) (by omega) _).mono (by omega), (hA.below.setCell (Nat.le_refl _) _).setCell (Nat.le_refl _) _⟩
        rw [heap_setCell_same _ _ 1 _ _ _ (heap_setCell_same _ _ 0 _ _ _ hA.b2)]
        rfl
      clear hA HR
      subst hie
      go_wp2
      (try simp only [Exit.inBlock, Exit.then])
      refine bodyPost_ret (results_cell_row rfl _ _ B 29 _ (0, 0) _ rfl HX.out.1 Tryz.underlying29 rfl (by kernel_rfl)) rfl ?_
      exact ⟨_, rfl, by rw [HB.out]; exact HX.out.2.1, by rw [HB.out]; exact HX.out.2.2⟩
end Go.Proofs.YtojkdmkeankcgaaGreat
