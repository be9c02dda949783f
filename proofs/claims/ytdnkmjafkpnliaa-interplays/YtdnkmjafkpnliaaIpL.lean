/-
  What the law InnerPlays does.
-/
import Derived.Test.YtdnkmjafkpnliaaPlC
import Derived.Test.YtdnkmjafkpnliaaMpB
import Derived.Test.YtdnkmjafkpnliaaArgM
namespace Go.Proofs.Ytdnkmjafkpnliaa
open Go.RowKit

theorem mem_cnt {A B : List Vst} (h : ∀ v, A.count v = B.count v) {v : Vst} (hv : v ∈ A) : v ∈ B := by
  have h1 := List.count_pos_iff.2 hv
  rw [h v] at h1
  exact List.count_pos_iff.1 h1
theorem grw_row9 {w w' : World} {lb base : Nat} {v : Value} {L : List Vst} (h : VRow w base v L) (hb : lb < base) (g : w.grownBy w' (some lb)) : VRow w' base v L := own_of_block h fun k hk => grw_block g (World.ownsRow.lt h k hk).2 (by have := (World.ownsRow.lt h k hk).1; omega)
set_option maxRecDepth 100000 in
set_option maxHeartbeats 12800000 in
theorem plays_any {w : World} {m vc ml mc : Nat} {va ma : Option Addr} {V : List Vst} (hV : SlI w va m vc V) (h64 : ∀ v ∈ V, V64 v) (hM : MvV w ma ml) : Calls Try.prog 5 #[.slice va m vc, .slice ma ml mc] w fun e w' => e = .returned (.bool true) ∧ Below w.heap.size w w' := by
  have H := hide hV
  have H64 := hide h64
  have HMV := hide hM
  have hmb : m * 16 ≤ 140737488351232 := by obtain ⟨_, _, e, hb, _⟩ := hV.vs; rw [← hV.len]; exact hb
  have hml := hM.1
  clear hV h64 hM
  by_cases hl1 : m > 60
  · have z1 : (60 : Int) < (m : Int) := by omega
    have z2 : (m : Int) > 60 := by omega
    go_enter Try.func5, Try.ntmps5
    go_wp2_with (first | (go_at_call 12; refine (awake_any _).mono ?_; rintro e w1 ⟨rfl, k1⟩; have K1 := hide k1; clear k1) | fail)
    go_ret
    exact ⟨rfl, K1.out⟩
  · have z1 : ¬ (60 : Int) < (m : Int) := by omega
    have z2 : ¬ (m : Int) > 60 := by omega
    have hm60 : m ≤ 60 := by omega
    go_enter Try.func5, Try.ntmps5
    go_wp2_with (first | (at_builtin; refine app_copy (.tmp 22) (.tmp 23) rfl rfl rfl rfl (PrV.on H.out.vs K3.out) H.out.len H.out.nz (by omega) ?_; intro a4 c4 w4 r4 k4; have R4 := hide r4; have L4 := hide (L3.out.on k4); have HLL : Hid (lb < w3.heap.size) := L3.out.lt; have K4 := hide (below_on K3.out k4); clear r4 k4) | (go_at_call 13; refine (new_copy R2.out H.out.len (by omega)).mono ?_; rintro e w3 ⟨lb, rfl, q3, hlb, k3⟩; have L3 := hide q3; have HLB : Hid (w.heap.size ≤ lb) := (Nat.le_trans K2.out.size hlb); have K3 := hide (below_on K2.out k3); clear q3 k3 hlb) | (at_builtin; refine app_copy (.tmp 18) (.tmp 19) rfl rfl rfl rfl (PrV.on H.out.vs K1.out) H.out.len H.out.nz (by omega) ?_; intro a2 c2 w2 r2 k2; have R2 := hide r2; have K2 := hide (below_on K1.out k2); clear r2 k2) | (go_at_call 12; refine (awake_any _).mono ?_; rintro e w1 ⟨rfl, k1⟩; have K1 := hide k1; clear k1) | fail)
    clear z1 z2 hl1
    go_loopw [7, 6] (fun vi vn wz => ∃ (q : Nat) (X : List Vst) (a : Option Addr) (c : Nat), vi = .int .i64 q ∧ vn = .slice a m c ∧ q ≤ ml ∧ q ≤ 100 ∧ Hid (LineV wz lb X) ∧ Hid (VRow wz (lb + 1) (.slice a m c) X) ∧ Hid (∀ v, X.count v = V.count v) ∧ Hid (X.length = m) ∧ Hid (Below w.heap.size w wz)) (fun vi _ _ => ml - (intOf vi).toNat)
    case atStart => exact ⟨0, V, a4, c4, rfl, rfl, Nat.zero_le _, Nat.zero_le _, L4.out, own_mono R4.out HLL.out, (fun _ => rfl), H.out.len, K4.out⟩
    case round =>
      obtain ⟨q, X, na, nc, rfl, rfl, hq, hq1, HL, HN, HCT, HXL, HB⟩ := hrel
      rename World => wr
      clear L4 R4 K4 L3
      by_cases hqm : q < ml
      · have j1 : (q : Int) < (ml : Int) := by omega
        have j2 : (0 : Int) ≤ (q : Int) := by omega
        have j4 : ¬ (ml : Int) ≤ (q : Int) := by omega
        by_cases hq100 : q < 100
        · have j5 : (q : Int) < 100 := by omega
          obtain ⟨b, off, ch, xi, xj, xk, hma, c0, c1, c2, c3⟩ := HMV.out.2 q hqm
          subst hma
          have hbl := block_lt_of_cell c0
          have z0 : wr.cell? ⟨b, off + q * 4, none⟩ = some (.int .i64 ch) := ((bcell HB.out).1 _ _ hbl).trans c0
          have z1 : wr.cell? ⟨b, off + q * 4 + 1, none⟩ = some (.int .i64 xi) := ((bcell HB.out).1 _ _ hbl).trans c1
          have z2 : wr.cell? ⟨b, off + q * 4 + 2, none⟩ = some (.int .i64 xj) := ((bcell HB.out).1 _ _ hbl).trans c2
          have z3 : wr.cell? ⟨b, off + q * 4 + 3, none⟩ = some (.int .i64 xk) := ((bcell HB.out).1 _ _ hbl).trans c3
          obtain ⟨r, hr, hr6⟩ := umod6 ch
          have hrw : IntKind.i64.wrap (r : Int) = (r : Int) := by rw [IntKind.wrap_i64]; omega
          obtain ⟨⟨Y, ok⟩, hq9⟩ : ∃ q, innerM X r xi xj xk = q := ⟨_, rfl⟩
          have HQ := hide hq9
          have hY := inner_len X r xi xj xk
          rw [hq9, HXL.out] at hY
          have HYL : Hid (Y.length = m) := hY
          have HYC : Hid (∀ v, Y.count v = V.count v) := fun v => by
            have h9 := inner_cnt X r xi xj xk v
            rw [HQ.out] at h9
            exact h9.trans (HCT.out v)
          have H14 : Hid (∀ (W2 : World), LineV W2 lb X → Calls Try.prog 14 #[.pointer (some ⟨lb, 0, none⟩), .int .i64 (r : Int), .int .i64 xi, .int .i64 xj, .int .i64 xk] W2 (ChQ W2 lb (Y, ok))) := fun W2 h9 => by
            have h8 := iplay_any h9 (by rw [HXL.out]; omega) r hr6 xi xj xk
            rw [HQ.out] at h8
            exact h8
          have H15 : Hid (∀ W2, VRow W2 (lb + 1) (.slice na m nc) X → Calls Try.prog 15 #[.slice na m nc, .int .i64 (r : Int), .int .i64 xi, .int .i64 xj, .int .i64 xk] W2 (DIn W2 (Y, ok) m)) := fun W2 hf => by
            have h8 := rinner_any (SlI.row hf HXL.out (by omega)) (by omega) r hr6 xi xj xk
            rw [HQ.out] at h8
            exact h8
          have hlw : lb < wr.heap.size := HL.out.lt
          clear hq9 hY c0 c1 c2 c3
          cases ok
          all_goals
            go_wp2_with (first | (go_at_call 16; refine (same_vs RA.out (PrV.on RU.out B7.out)).mono ?_; rintro e w8 ⟨rfl, k8⟩; have B8 := hide k8; have K8 := hide (below_on K7.out k8); clear k8) | (go_at_call 17; refine (visits_v (L5.out.on B6.out) HYL.out (by omega)).mono ?_; rintro e w7 ⟨a7, c7, rfl, r7, k7⟩; have RA := hide r7; have B7 := hide k7; have K7 := hide (below_on K6.out k7); clear r7 k7) | (go_at_call 15; refine (H15.out _ HN5.out).mono ?_; rintro e w6 ⟨a6, c6, rfl, r6, k6⟩; have R6 := hide (own_mono r6 (Nat.succ_le_of_lt L5.out.lt)); have RU := hide (vrow_vs r6 HYL.out (by omega)); have B6 := hide k6; have K6 := hide (below_on K5.out k6); clear r6 k6) | (go_at_call 14; refine (H14.out _ (HL.out.on ((Below.refl _ _).alloc (Nat.le_refl _) _))).mono ?_; intro e w5 h5; obtain ⟨rfl, q5, g5⟩ := h5; have L5 := hide q5; have HX5 : Hid (w5.heap[wr.heap.size]? = some (.cells #[.int .i64 ch, .int .i64 xi, .int .i64 xj, .int .i64 xk] 24)) := ((grw_block g5 (by simp) (by omega)).trans (heap_alloc_new _ _)); have HN5 := hide (grw_row9 (VRow.later HN.out (Nat.le_refl _) ((Below.refl _ _).alloc (Nat.le_refl _) (.cells #[.int .i64 ch, .int .i64 xi, .int .i64 xj, .int .i64 xk] 24))) (Nat.lt_succ_self _) g5); have K5 : Hid (Below w.heap.size w w5) := ((low_alloc HB.out (.cells #[.int .i64 ch, .int .i64 xi, .int .i64 xj, .int .i64 xk] 24)).trans (grw_low g5 HLB.out (low_alloc HB.out (.cells #[.int .i64 ch, .int .i64 xi, .int .i64 xj, .int .i64 xk] 24)).size)); have y0 : w5.cell? ⟨wr.heap.size, 0, none⟩ = some (.int .i64 ch) := (cell_of_row _ _ _ _ _ _ HX5.out); have y1 : w5.cell? ⟨wr.heap.size, 1, none⟩ = some (.int .i64 xi) := (cell_of_row _ _ _ _ _ _ HX5.out); have y2 : w5.cell? ⟨wr.heap.size, 2, none⟩ = some (.int .i64 xj) := (cell_of_row _ _ _ _ _ _ HX5.out); have y3 : w5.cell? ⟨wr.heap.size, 3, none⟩ = some (.int .i64 xk) := (cell_of_row _ _ _ _ _ _ HX5.out); clear q5 g5) | fail)
            go_roundw
            case rel => exact ⟨q + 1, Y, a6, c6, by go_num, rfl, by omega, by omega, L5.out.on (below_on (below_on B6.out B7.out) B8.out), VRow.later R6.out (Nat.le_refl _) (below_on B7.out B8.out), HYC.out, HYL.out, K8.out⟩
            case measure => simp [intOf]; omega
        · have j5 : ¬ (q : Int) < 100 := by omega
          go_wp2_with (first | (go_at_call 19; have hh := KX.out; clear hh; refine (counted_any (H.out.on KX.out) ((SlI.row HN.out HXL.out (by omega)).on BX.out) H64.out (fun v hv => H64.out v (mem_cnt HCT.out hv)) (by omega) (by omega) (fun v => (HCT.out v).symm)).mono ?_; rintro e x2 ⟨rfl, k2⟩; have KY := hide (below_on KX.out k2); clear k2) | (go_at_call 19; refine (counted_any (SlI.row HN.out HXL.out (by omega)) (H.out.on HB.out) (fun v hv => H64.out v (mem_cnt HCT.out hv)) H64.out (by omega) (by omega) HCT.out).mono ?_; rintro e x1 ⟨rfl, k1⟩; have KX := hide (below_on HB.out k1); have BX := hide k1; clear k1) | fail)
          go_ret
          exact ⟨rfl, KY.out⟩
      · have j1 : ¬ (q : Int) < (ml : Int) := by omega
        go_wp2_with (first | (go_at_call 19; have hh := KX.out; clear hh; refine (counted_any (H.out.on KX.out) ((SlI.row HN.out HXL.out (by omega)).on BX.out) H64.out (fun v hv => H64.out v (mem_cnt HCT.out hv)) (by omega) (by omega) (fun v => (HCT.out v).symm)).mono ?_; rintro e x2 ⟨rfl, k2⟩; have KY := hide (below_on KX.out k2); clear k2) | (go_at_call 19; refine (counted_any (SlI.row HN.out HXL.out (by omega)) (H.out.on HB.out) (fun v hv => H64.out v (mem_cnt HCT.out hv)) H64.out (by omega) (by omega) HCT.out).mono ?_; rintro e x1 ⟨rfl, k1⟩; have KX := hide (below_on HB.out k1); have BX := hide k1; clear k1) | fail)
        go_ret
        exact ⟨rfl, KY.out⟩
end Go.Proofs.Ytdnkmjafkpnliaa
