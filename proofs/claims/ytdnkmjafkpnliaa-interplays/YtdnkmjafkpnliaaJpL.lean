/-
  What the law InterPlays does.
-/
import Derived.Test.YtdnkmjafkpnliaaIpL
import Derived.Test.YtdnkmjafkpnliaaChgL
import Derived.Deep.RegionHeld3
namespace Go.Proofs.Ytdnkmjafkpnliaa
open Go.RowKit Go.Maps

theorem app_copy2 {w : World} {m vc B : Nat} {va : Option Addr} {V : List Vst} {ops : Array Oper} {rest : List Oper} {o : Oper} {a : Act} {Q : Exit → Act → World → Prop} (hB : w.heap.size = B) (s x : Operand) (hgd : o.guard = none)
    (ho : o.op = .call { callee := .builtin .append, args := #[s, x], argTypes := #[22, 22] }) (hs : a.eval s = .slice (some ⟨B, 0, none⟩) 0 0) (hx : a.eval x = .slice va m vc) (hV : VsV w (.slice va m vc) V) (hm : V.length = m) (hz : va = none → vc = 0) (hm2 : m ≤ 900)
    (h : ∀ a2 c2 w', VRow w' w.heap.size (.slice a2 m c2) V → Below w.heap.size w w' → wpList Try.prog ops Q rest (a.put o.dst (.slice a2 m c2)) w') : wpList Try.prog ops Q (o :: rest) a (w.alloc (.cells #[] 58)) := by
  subst hB
  exact app_copy s x hgd ho hs hx hV hm hz hm2 h
theorem mem_cnt2 {A B X Y : List Vst} (h : ∀ v, X.count v + Y.count v = A.count v + B.count v) {v : Vst} (hv : v ∈ X ++ Y) : v ∈ A ++ B := by
  have h1 := List.count_pos_iff.2 hv
  rw [List.count_append, h v, ← List.count_append] at h1
  exact List.count_pos_iff.1 h1
set_option maxRecDepth 100000 in
set_option maxHeartbeats 12800000 in
theorem playsT_any {w : World} {m vc n vd ml mc : Nat} {va vb ma : Option Addr} {A B : List Vst} (hA : SlI w va m vc A) (h64 : ∀ v ∈ A, V64 v) (hB : SlI w vb n vd B) (h64' : ∀ v ∈ B, V64 v) (hM : MvV w ma ml) : Calls Try.prog 8 #[.slice va m vc, .slice vb n vd, .slice ma ml mc] w fun e w' => e = .returned (.bool true) ∧ Below w.heap.size w w' := by
  have HA := hide hA
  have HBB := hide hB
  have H64 : Hid (∀ v ∈ A ++ B, V64 v) := fun v hv => by
    rcases List.mem_append.1 hv with h | h
    · exact h64 v h
    · exact h64' v h
  have HMV := hide hM
  have hmb : m * 16 ≤ 140737488351232 := by obtain ⟨_, _, e, hb, _⟩ := hA.vs; rw [← hA.len]; exact hb
  have hnb : n * 16 ≤ 140737488351232 := by obtain ⟨_, _, e, hb, _⟩ := hB.vs; rw [← hB.len]; exact hb
  have hml := hM.1
  clear hA hB h64 h64' hM
  by_cases hl1 : m > 30
  · have z1 : (30 : Int) < (m : Int) := by omega
    have z2 : (m : Int) > 30 := by omega
    go_enter Try.func8, Try.ntmps8
    go_wp2_with (first | (go_at_call 20; refine (tawake_any _).mono ?_; rintro e w1 ⟨rfl, k1⟩; have K1 := hide k1; clear k1) | fail)
    go_ret
    exact ⟨rfl, K1.out⟩
  · have z1 : ¬ (30 : Int) < (m : Int) := by omega
    have z2 : ¬ (m : Int) > 30 := by omega
    by_cases hl2 : n > 30
    · have z3 : (30 : Int) < (n : Int) := by omega
      have z4 : (n : Int) > 30 := by omega
      go_enter Try.func8, Try.ntmps8
      go_wp2_with (first | (go_at_call 20; refine (tawake_any _).mono ?_; rintro e w1 ⟨rfl, k1⟩; have K1 := hide k1; clear k1) | fail)
      go_ret
      exact ⟨rfl, K1.out⟩
    · have z3 : ¬ (30 : Int) < (n : Int) := by omega
      have z4 : ¬ (n : Int) > 30 := by omega
      have hm30 : m ≤ 30 := by omega
      have hn30 : n ≤ 30 := by omega
      have hmm := @run_makeMap Try.prog
      go_enter Try.func8, Try.ntmps8
      go_wp2_with (first | (at_builtin; have hh := K5.out; clear hh; refine app_copy (.tmp 48) (.tmp 49) rfl rfl rfl rfl (PrV.on HBB.out.vs K5.out) HBB.out.len HBB.out.nz (by omega) ?_; intro a6 c6 w6 r6 k6; have R6 := hide r6; have B6 := hide k6; have K6 := hide (below_on K5.out k6); clear r6 k6) | (at_builtin; have hh := K4.out; clear hh; refine app_copy (.tmp 45) (.tmp 46) rfl rfl rfl rfl (PrV.on HA.out.vs K4.out) HA.out.len HA.out.nz (by omega) ?_; intro a5 c5 w5 r5 k5; have R5 := hide r5; have B5 := hide k5; have K5 := hide (below_on K4.out k5); clear r5 k5) | (go_at_call 21; refine (tnew_any (SlI.row (VRow.later R2.out (Nat.le_refl _) B3.out) HA.out.len (by omega)) (SlI.row R3.out HBB.out.len (by omega)) (by omega) (by omega)).mono ?_; rintro e w4 ⟨tb, rfl, q4, htb, k4⟩; have L4 := hide q4; have HTB : Hid (w.heap.size ≤ tb) := (Nat.le_trans K3.out.size htb); have K4 := hide (below_on K3.out k4); clear q4 k4 htb) | (at_builtin; have hh := K2.out; clear hh; refine app_copy (.tmp 41) (.tmp 42) rfl rfl rfl rfl (PrV.on HBB.out.vs K2.out) HBB.out.len HBB.out.nz (by omega) ?_; intro a3 c3 w3 r3 k3; have R3 := hide r3; have B3 := hide k3; have K3 := hide (below_on K2.out k3); clear r3 k3) | (at_builtin; have hh := K1.out; clear hh; refine app_copy (.tmp 38) (.tmp 39) rfl rfl rfl rfl (PrV.on HA.out.vs K1.out) HA.out.len HA.out.nz (by omega) ?_; intro a2 c2 w2 r2 k2; have R2 := hide r2; have B2 := hide k2; have K2 := hide (below_on K1.out k2); clear r2 k2) | (go_at_call 20; refine (tawake_any _).mono ?_; rintro e w1 ⟨rfl, k1⟩; have K1 := hide k1; clear k1) | fail)
      clear z1 z2 z3 z4 hl1 hl2
      have HLL : Hid (tb < w4.heap.size) := L4.out.lt
      go_loopw [10, 8, 9] (fun vi vu vv wz => ∃ (q : Nat) (X Y : List Vst) (p1 p2 : Nat) (a : Option Addr) (c : Nat) (a' : Option Addr) (c' : Nat), vi = .int .i64 q ∧ vu = .slice a p1 c ∧ vv = .slice a' p2 c' ∧ q ≤ ml ∧ q ≤ 60 ∧ p1 + p2 = m + n ∧ Hid (TwoV wz tb X Y) ∧ Hid (VRow wz (tb + 1) (.slice a p1 c) X) ∧ Hid (VRow wz (tb + 1) (.slice a' p2 c') Y) ∧ Hid (∀ v, X.count v + Y.count v = A.count v + B.count v) ∧ Hid (X.length = p1) ∧ Hid (Y.length = p2) ∧ Hid (Below w.heap.size w wz)) (fun vi _ _ _ => ml - (intOf vi).toNat)
      case atStart => exact ⟨0, A, B, m, n, a5, c5, a6, c6, rfl, rfl, rfl, Nat.zero_le _, Nat.zero_le _, rfl, L4.out.on (below_on B5.out B6.out), VRow.later (own_mono R5.out HLL.out) (Nat.le_refl _) B6.out, own_mono R6.out (Nat.le_trans HLL.out B5.out.size), (fun _ => rfl), HA.out.len, HBB.out.len, K6.out⟩
      case round =>
        obtain ⟨q, X, Y, p1, p2, ua, uc, va', vc', rfl, rfl, rfl, hq, hq1, hpp, HL, HU, HV, HCT, HXL, HYL, HB⟩ := hrel
        rename World => wr
        clear L4 R5 R6 K6 B5 B6
        by_cases hqm : q < ml
        · have j1 : (q : Int) < (ml : Int) := by omega
          have j2 : (0 : Int) ≤ (q : Int) := by omega
          have j4 : ¬ (ml : Int) ≤ (q : Int) := by omega
          by_cases hq60 : q < 60
          · have j5 : (q : Int) < 60 := by omega
            obtain ⟨b, off, ch, xi, xj, xk, hma, c0, c1, c2, c3⟩ := HMV.out.2 q hqm
            subst hma
            have hbl := block_lt_of_cell c0
            have z0 : wr.cell? ⟨b, off + q * 4, none⟩ = some (.int .i64 ch) := ((bcell HB.out).1 _ _ hbl).trans c0
            have z1 : wr.cell? ⟨b, off + q * 4 + 1, none⟩ = some (.int .i64 xi) := ((bcell HB.out).1 _ _ hbl).trans c1
            have z2 : wr.cell? ⟨b, off + q * 4 + 2, none⟩ = some (.int .i64 xj) := ((bcell HB.out).1 _ _ hbl).trans c2
            have z3 : wr.cell? ⟨b, off + q * 4 + 3, none⟩ = some (.int .i64 xk) := ((bcell HB.out).1 _ _ hbl).trans c3
            obtain ⟨r, hr, hr6⟩ := umod6 ch
            have hrw : IntKind.i64.wrap (r : Int) = (r : Int) := by rw [IntKind.wrap_i64]; omega
            obtain ⟨⟨X2, Y2, ok⟩, hq9⟩ : ∃ q, interM X Y r xi xj xk = q := ⟨_, rfl⟩
            have HQ := hide hq9
            have hlen := inter_len hr6 hq9
            rw [HXL.out, HYL.out] at hlen
            obtain ⟨s1, hs1⟩ : ∃ p, X2.length = p := ⟨_, rfl⟩
            obtain ⟨s2, hs2⟩ : ∃ p, Y2.length = p := ⟨_, rfl⟩
            have HP := hide hs1
            have HQ2 := hide hs2
            rw [hs1, hs2] at hlen
            have hss : s1 + s2 = m + n := by omega
            have HYC : Hid (∀ v, X2.count v + Y2.count v = A.count v + B.count v) := fun v => (inter_cnt hr6 HQ.out v).trans (HCT.out v)
            have H22 : Hid (∀ (W2 : World), TwoV W2 tb X Y → Calls Try.prog 22 #[.pointer (some ⟨tb, 0, none⟩), .int .i64 (r : Int), .int .i64 xi, .int .i64 xj, .int .i64 xk] W2 (ChT W2 tb (X2, Y2, ok))) := fun W2 h9 => by
              have h8 := tplay_any h9 (by rw [HXL.out]; omega) (by rw [HYL.out]; omega) r hr6 xi xj xk
              rw [HQ.out] at h8
              exact h8
            have H24 : Hid (∀ W2, VRow W2 (tb + 1) (.slice ua p1 uc) X → VRow W2 (tb + 1) (.slice va' p2 vc') Y → Calls Try.prog 24 #[.slice ua p1 uc, .slice va' p2 vc', .int .i64 (r : Int), .int .i64 xi, .int .i64 xj, .int .i64 xk] W2 (ItD W2 (X2, Y2, ok))) := fun W2 h1 h2 => by
              have h8 := rinter_any (SlI.row h1 HXL.out (by omega)) (SlI.row h2 HYL.out (by omega)) (by omega) (by omega) r hr6 xi xj xk
              rw [HQ.out] at h8
              exact h8
            have hlw : tb < wr.heap.size := HL.out.lt
            clear hq9 hs1 hs2 hlen c0 c1 c2 c3 hmm
            cases ok
            all_goals
              go_wp2_with (first | (go_at_call 16; have hh := KX8.out; clear hh; refine (same_vs (PrV.on RB.out B8.out) (PrV.on (vrow_vs RV.out HQ2.out (by omega)) (below_on B7.out B8.out))).mono ?_; rintro e x9 ⟨rfl, k9⟩; have B9 := hide k9; have KX9 := hide (below_on KX8.out k9); clear k9) | (go_at_call 16; refine (same_vs RA.out (PrV.on (vrow_vs RU.out HP.out (by omega)) B7.out)).mono ?_; rintro e x8 ⟨rfl, k8⟩; have B8 := hide k8; have KX8 := hide (below_on KX7.out k8); clear k8) | (go_at_call 23; refine (tvisits_any (L5.out.on B6.out) HP.out HQ2.out (by omega) (by omega)).mono ?_; rintro e x7 ⟨a8, c8, a8', c8', rfl, r8, k7⟩; have RA := hide (vrow_vs r8.1 HP.out (by omega)); have RB := hide (vrow_vs r8.2.1 HQ2.out (by omega)); have B7 := hide k7; have KX7 := hide (below_on KX6.out k7); clear r8 k7) | (go_at_call 24; refine (H24.out _ HU5.out HV5.out).mono ?_; rintro e x6 ⟨a7, q7, c7, a7', q7', c7', rfl, ⟨h7, r7⟩, ⟨h8, r8⟩, k6⟩; rw [HP.out] at h7; subst h7; rw [HQ2.out] at h8; subst h8; have RU := hide r7; have RV := hide r8; have B6 := hide k6; have KX6 := hide (below_on KX5.out k6); clear r7 r8 k6) | (go_at_call 22; refine (H22.out _ (HL.out.on ((Below.refl _ _).alloc (Nat.le_refl _) _))).mono ?_; intro e x5 h5; obtain ⟨rfl, q5, g5⟩ := h5; have L5 := hide q5; have HX5 : Hid (x5.heap[wr.heap.size]? = some (.cells #[.int .i64 ch, .int .i64 xi, .int .i64 xj, .int .i64 xk] 41)) := ((grw_block g5 (by simp) (by omega)).trans (heap_alloc_new _ _)); have HU5 := hide (grw_row9 (VRow.later HU.out (Nat.le_refl _) ((Below.refl _ _).alloc (Nat.le_refl _) (.cells #[.int .i64 ch, .int .i64 xi, .int .i64 xj, .int .i64 xk] 41))) (Nat.lt_succ_self _) g5); have HV5 := hide (grw_row9 (VRow.later HV.out (Nat.le_refl _) ((Below.refl _ _).alloc (Nat.le_refl _) (.cells #[.int .i64 ch, .int .i64 xi, .int .i64 xj, .int .i64 xk] 41))) (Nat.lt_succ_self _) g5); have KX5 : Hid (Below w.heap.size w x5) := ((low_alloc HB.out (.cells #[.int .i64 ch, .int .i64 xi, .int .i64 xj, .int .i64 xk] 41)).trans (grw_low g5 HTB.out (low_alloc HB.out (.cells #[.int .i64 ch, .int .i64 xi, .int .i64 xj, .int .i64 xk] 41)).size)); have y0 : x5.cell? ⟨wr.heap.size, 0, none⟩ = some (.int .i64 ch) := (cell_of_row _ _ _ _ _ _ HX5.out); have y1 : x5.cell? ⟨wr.heap.size, 1, none⟩ = some (.int .i64 xi) := (cell_of_row _ _ _ _ _ _ HX5.out); have y2 : x5.cell? ⟨wr.heap.size, 2, none⟩ = some (.int .i64 xj) := (cell_of_row _ _ _ _ _ _ HX5.out); have y3 : x5.cell? ⟨wr.heap.size, 3, none⟩ = some (.int .i64 xk) := (cell_of_row _ _ _ _ _ _ HX5.out); clear q5 g5) | fail)
              go_roundw
              case rel => exact ⟨q + 1, X2, Y2, s1, s2, a7, c7, a7', c7', by go_num, rfl, rfl, by omega, by omega, by omega, L5.out.on (below_on (below_on B6.out B7.out) (below_on B8.out B9.out)), VRow.later (own_mono RU.out (Nat.succ_le_of_lt L5.out.lt)) (Nat.le_refl _) (below_on B7.out (below_on B8.out B9.out)), VRow.later (own_mono RV.out (Nat.succ_le_of_lt L5.out.lt)) (Nat.le_refl _) (below_on B7.out (below_on B8.out B9.out)), HYC.out, HP.out, HQ2.out, KX9.out⟩
              case measure => simp [intOf]; omega
          · have j5 : ¬ (q : Int) < 60 := by omega
            obtain ⟨mb, hmb⟩ : ∃ mb, mb = wr.heap.size := ⟨_, rfl⟩
            obtain ⟨WM, hWM⟩ : ∃ W, W = wr.alloc (.map #[] 0) := ⟨_, rfl⟩
            obtain ⟨N, hN⟩ : ∃ N, m + n = N := ⟨_, rfl⟩
            have HMB : Hid (w.heap.size ≤ mb) := by show _ ≤ _; rw [hmb]; exact HB.out.size
            have HML : Hid (wr.heap.size ≤ mb) := by show _ ≤ _; omega
            have HM0 : Hid (MapN WM mb (0 + 0) (fun u : Vst => (((A ++ B).take 0).count u : Int))) := by show MapN _ _ _ _; rw [hmb, hWM]; exact MapN.made wr
            have BM : Hid (Below wr.heap.size wr WM) := by rw [hWM]; exact (Below.refl _ _).alloc (Nat.le_refl _) _
            have HBM := hide (below_on HB.out BM.out)
            have hmw : mb < WM.heap.size := HM0.out.lt
            have HNN := hide hN
            have HPP : Hid (p1 + p2 = N) := hpp.trans hN
            have HABL : Hid ((A ++ B).length = N) := by show _ = _; rw [List.length_append, HA.out.len, HBB.out.len]; exact hN
            have HXYL : Hid ((X ++ Y).length = N) := by show _ = _; rw [List.length_append, HXL.out, HYL.out]; exact hpp.trans hN
            have hN60 : N ≤ 60 := by omega
            have HX64 : Hid (∀ v ∈ X ++ Y, V64 v) := fun v hv => H64.out v (mem_cnt2 HCT.out hv)
            have HW64 := H64
            clear hN hqm hq hq1
            go_wp2_with (first | (at_builtin; have hh := B9.out; clear hh; refine app_vis (.tmp 118) (.tmp 119) rfl rfl rfl rfl R9.out HA.out.len (PrV.on HBB.out.vs (below_on HBM.out B9.out)) HBB.out.len HBB.out.nz (by omega) B9.out.size ?_; intro a10 c10 w10 r10 k10 _; rw [HNN.out] at r10 ⊢; have R10 := hide r10; have B10 : Hid (Below WM.heap.size WM w10) := (B9.out.trans k10); clear r10 k10) | (at_builtin; refine app_copy2 (w := wr.alloc (.map #[] 0)) (B := wr.heap.size + 1) (by simp) (.tmp 116) (.tmp 117) rfl rfl rfl rfl (PrV.on HA.out.vs (low_alloc HB.out _)) HA.out.len HA.out.nz (by omega) ?_; intro a9 c9 w9 r9 k9; have R9 : Hid (VRow w9 WM.heap.size (.slice a9 m c9) A) := (by rw [hWM]; exact r9); have B9 : Hid (Below WM.heap.size WM w9) := (by rw [hWM]; exact k9); clear r9 k9) | fail)
            rw [← hmb]
            clear hmb hWM hmm
            have HM1 : Hid (MapN w10 mb (0 + 0) (fun u : Vst => (((A ++ B).take 0).count u : Int))) := HM0.out.on hmw B10.out
            go_loopw [122] (fun vi wz => ∃ q : Nat, vi = .int .i64 q ∧ q ≤ N ∧ Hid (MapN wz mb (0 + q) (fun u : Vst => (((A ++ B).take q).count u : Int))) ∧ Hid (w10.grownBy wz (some mb))) (fun vi _ => N - (intOf vi).toNat)
            case atStart => exact ⟨0, rfl, Nat.zero_le _, HM1.out, grw_refl _ _⟩
            case round =>
              obtain ⟨q, rfl, hq, HZ, GR⟩ := hrel
              rename World => wy
              by_cases hqm : q < N
              · have j1 : (q : Int) < (N : Int) := by omega
                have j2 : (0 : Int) ≤ (q : Int) := by omega
                have j4 : ¬ (N : Int) ≤ (q : Int) := by omega
                obtain ⟨⟨kd, it⟩, hu⟩ : ∃ u, (A ++ B)[q]? = some u := ⟨_, List.getElem?_eq_getElem (by rw [HABL.out]; exact hqm)⟩
                have HU0 := hide hu
                have H6 : Hid (V64 (kd, it)) := HW64.out _ (List.mem_of_getElem? hu)
                obtain ⟨g1, hbb, -⟩ := vrow_pos R10.out (by omega)
                subst hbb
                have hgm := World.ownsRow.lt R10.out g1 rfl
                obtain ⟨c1, c2⟩ := VRow.cells R10.out HABL.out hu
                simp only at c1 c2
                have hgn : g1 ≠ mb := by omega
                have z1 : wy.cell? ⟨g1, q * 2, none⟩ = some (.int .i64 kd) := (grown_cell GR.out hgm.2 hgn).trans c1
                have z2 : wy.cell? ⟨g1, q * 2 + 1, none⟩ = some (.int .i64 it) := (grown_cell GR.out hgm.2 hgn).trans c2
                have hmr : mb < wy.heap.size := HZ.out.lt
                clear hu c1 c2
                obtain ⟨w5, hw5⟩ : ∃ W, W = wy.alloc (.cells #[.int .i64 kd, .int .i64 it] 58) := ⟨_, rfl⟩
                have E5 : Hid (Below wy.heap.size wy w5.drew) := by rw [hw5]; exact ((Below.refl _ _).alloc (Nat.le_refl _) _).drew
                have l5 : wy.heap.size < w5.drew.heap.size := by rw [hw5]; show _ < (wy.alloc _).heap.size; simp
                have t5 : w5.heap[wy.heap.size]? = some (.cells #[.int .i64 kd, .int .i64 it] 58) := by rw [hw5]; exact heap_alloc_new _ _
                have t50 : w5.cell? ⟨wy.heap.size, 0, none⟩ = some (.int .i64 kd) := cell_of_row _ _ _ _ _ _ t5
                have t51 : w5.cell? ⟨wy.heap.size, 1, none⟩ = some (.int .i64 it) := cell_of_row _ _ _ _ _ _ t5
                have n5 : wy.heap.size ≠ mb := by omega
                have HZ5 := hide (HZ.out.on hmr E5.out)
                obtain ⟨v0, st, w6, w7, x1, x2, x3, x4, x5, x6⟩ := HZ5.out.bump Try.underlying55 (by unfold maxLen; omega) (kd, it) H6.out (1)
                have x0 := HZ5.out.look Try.underlying55 (kd, it) H6.out
                obtain ⟨f, hf⟩ : ∃ f : Int, (((A ++ B).take q).count (kd, it) : Int) = f := ⟨_, rfl⟩
                have hfb : -2000 ≤ f ∧ f ≤ 2000 := by rw [← hf]; have h9 := cnt_bound (A ++ B) q (kd, it); rw [HABL.out] at h9; show -2000 ≤ (((((A ++ B).take q).count (kd, it)) : Nat) : Int) ∧ (((((A ++ B).take q).count (kd, it)) : Nat) : Int) ≤ 2000; omega
                rw [hf] at x0 x2 x4
                skip
                simp only [vval] at x0 x1 x2
                have HX5 := hide x5
                have HX6 : Hid (w10.grownBy w7 (some mb)) := grw_trans GR.out (grw_trans (below_grw E5.out) x6)
                have t60 : w6.cell? ⟨wy.heap.size, 0, none⟩ = some (.int .i64 kd) := (grown_cell x3 l5 n5).trans t50
                have t61 : w6.cell? ⟨wy.heap.size, 1, none⟩ = some (.int .i64 it) := (grown_cell x3 l5 n5).trans t51
                have t70 : w7.cell? ⟨wy.heap.size, 0, none⟩ = some (.int .i64 kd) := (grown_cell x6 l5 n5).trans t50
                have t71 : w7.cell? ⟨wy.heap.size, 1, none⟩ = some (.int .i64 it) := (grown_cell x6 l5 n5).trans t51
                have wr1 : IntKind.i64.wrap (f + 1) = f + 1 := by rw [IntKind.wrap_i64]; omega
                clear x3 x5 x6 hf t5 hgn hgm
                go_wp2_with fail
                try (rw [← hw5])
                clear hw5
                go_region_held3 (fun w' => w'.cell? ⟨wy.heap.size, 0, none⟩ = some (.int .i64 kd) ∧ w'.cell? ⟨wy.heap.size, 1, none⟩ = some (.int .i64 it)) (go_keep) (fail)
                all_goals
                  go_wp2_with fail
                  go_roundw
                  case rel => exact ⟨q + 1, by go_num, by omega, by have h9 := HX5.out; rw [show (fun u : Vst => (((A ++ B).take (q + 1)).count u : Int)) = fun u => if u = (kd, it) then (fun u : Vst => (((A ++ B).take q).count u : Int)) u + (1) else (fun u : Vst => (((A ++ B).take q).count u : Int)) u from funext fun u => by have h8 := cnt_next (u := u) HU0.out; exact h8]; exact h9, HX6.out⟩
                  case measure => simp [intOf]; omega
              · have j1 : ¬ (q : Int) < (N : Int) := by omega
                have hqe : q = N := by omega
                have HM2 : Hid (MapN wy mb N (fun u : Vst => ((A ++ B).count u : Int) - (((X ++ Y).take 0).count u : Int))) := by
                  have h9 := HZ.out
                  rw [hqe, Nat.zero_add, List.take_of_length_le (l := A ++ B) (by rw [HABL.out]; exact Nat.le_refl _)] at h9
                  have e9 : (fun u : Vst => ((A ++ B).count u : Int) - (((X ++ Y).take 0).count u : Int)) = fun u => ((A ++ B).count u : Int) := funext fun u => by simp
                  rw [e9]
                  exact h9
                have BWY : Hid (Below wr.heap.size wr wy) := by
                  have f1 : Below wr.heap.size wr w10 := below_on BM.out B10.out
                  have f2 : Below mb w10 wy := grw_low GR.out (Nat.le_refl _) (Nat.le_of_lt (Nat.lt_of_lt_of_le hmw B10.out.size))
                  exact f1.trans (f2.mono HML.out)
                have LT := hide (HL.out.on BWY.out)
                have hmy : mb < wy.heap.size := HM2.out.lt
                have KWY := hide (below_on HB.out BWY.out)
                clear HZ GR HM1 hqe hqm hq R10 R9
                go_wp2_with (first | (at_builtin; have hh := BY1.out; clear hh; refine app_vis (.tmp 138) (.tmp 139) rfl rfl rfl rfl RP.out HXL.out (vrow_vs RQ.out HYL.out (by omega)) HYL.out (fun e9 => by rcases RQ.out.2 with ⟨f1, _⟩ | ⟨_, _, _, f1, _⟩; (injection f1 with _ _ f3); (injection f1 with f2 _ _; rw [e9] at f2; cases f2)) (by omega) BY1.out.size ?_; intro a11 c11 w11 r11 k11 _; rw [HPP.out] at r11 ⊢; have R11 := hide r11; have B11 : Hid (Below wy.heap.size wy w11) := (BY1.out.trans k11); clear r11 k11) | (go_at_call 23; refine (tvisits_any LT.out HXL.out HYL.out (by omega) (by omega)).mono ?_; rintro e y1 ⟨b1, e1, b2, e2, rfl, r1, k1⟩; have RP := hide r1.1; have RQ := hide r1.2.1; have BY1 := hide k1; clear r1 k1) | fail)
                clear j1 HW64
                have HW64 := HX64
                have HM3 : Hid (MapN w11 mb (N + 0) (fun u : Vst => ((A ++ B).count u : Int) - (((X ++ Y).take 0).count u : Int))) := HM2.out.on hmy B11.out
                go_loopw [142] (fun vi wz => ∃ q : Nat, vi = .int .i64 q ∧ q ≤ N ∧ Hid (MapN wz mb (N + q) (fun u : Vst => ((A ++ B).count u : Int) - (((X ++ Y).take q).count u : Int))) ∧ Hid (w11.grownBy wz (some mb))) (fun vi _ => N - (intOf vi).toNat)
                case atStart => exact ⟨0, rfl, Nat.zero_le _, HM3.out, grw_refl _ _⟩
                case round =>
                  obtain ⟨q, rfl, hq, HZ, GR⟩ := hrel
                  rename World => wt
                  by_cases hqm : q < N
                  · have j1 : (q : Int) < (N : Int) := by omega
                    have j2 : (0 : Int) ≤ (q : Int) := by omega
                    have j4 : ¬ (N : Int) ≤ (q : Int) := by omega
                    obtain ⟨⟨kd, it⟩, hu⟩ : ∃ u, (X ++ Y)[q]? = some u := ⟨_, List.getElem?_eq_getElem (by rw [HXYL.out]; exact hqm)⟩
                    have HU0 := hide hu
                    have H6 : Hid (V64 (kd, it)) := HW64.out _ (List.mem_of_getElem? hu)
                    obtain ⟨g2, hbb, -⟩ := vrow_pos R11.out (by omega)
                    subst hbb
                    have hgm := World.ownsRow.lt R11.out g2 rfl
                    obtain ⟨c1, c2⟩ := VRow.cells R11.out HXYL.out hu
                    simp only at c1 c2
                    have hgn : g2 ≠ mb := by omega
                    have z1 : wt.cell? ⟨g2, q * 2, none⟩ = some (.int .i64 kd) := (grown_cell GR.out hgm.2 hgn).trans c1
                    have z2 : wt.cell? ⟨g2, q * 2 + 1, none⟩ = some (.int .i64 it) := (grown_cell GR.out hgm.2 hgn).trans c2
                    have hmr : mb < wt.heap.size := HZ.out.lt
                    clear hu c1 c2
                    obtain ⟨w5, hw5⟩ : ∃ W, W = wt.alloc (.cells #[.int .i64 kd, .int .i64 it] 58) := ⟨_, rfl⟩
                    have E5 : Hid (Below wt.heap.size wt w5.drew) := by rw [hw5]; exact ((Below.refl _ _).alloc (Nat.le_refl _) _).drew
                    have l5 : wt.heap.size < w5.drew.heap.size := by rw [hw5]; show _ < (wt.alloc _).heap.size; simp
                    have t5 : w5.heap[wt.heap.size]? = some (.cells #[.int .i64 kd, .int .i64 it] 58) := by rw [hw5]; exact heap_alloc_new _ _
                    have t50 : w5.cell? ⟨wt.heap.size, 0, none⟩ = some (.int .i64 kd) := cell_of_row _ _ _ _ _ _ t5
                    have t51 : w5.cell? ⟨wt.heap.size, 1, none⟩ = some (.int .i64 it) := cell_of_row _ _ _ _ _ _ t5
                    have n5 : wt.heap.size ≠ mb := by omega
                    have HZ5 := hide (HZ.out.on hmr E5.out)
                    obtain ⟨v0, st, w6, w7, x1, x2, x3, x4, x5, x6⟩ := HZ5.out.bump Try.underlying55 (by unfold maxLen; omega) (kd, it) H6.out (-1)
                    have x0 := HZ5.out.look Try.underlying55 (kd, it) H6.out
                    obtain ⟨f, hf⟩ : ∃ f : Int, ((A ++ B).count (kd, it) : Int) - (((X ++ Y).take q).count (kd, it) : Int) = f := ⟨_, rfl⟩
                    have hfb : -2000 ≤ f ∧ f ≤ 2000 := by rw [← hf]; have h9 := cnt_bound (X ++ Y) q (kd, it); have h8 := cnt_bound (A ++ B) N (kd, it); rw [List.take_of_length_le (l := A ++ B) (by rw [HABL.out]; exact Nat.le_refl _), HABL.out] at h8; rw [HXYL.out] at h9; show -2000 ≤ ((((A ++ B).count (kd, it)) : Nat) : Int) - (((((X ++ Y).take q).count (kd, it)) : Nat) : Int) ∧ ((((A ++ B).count (kd, it)) : Nat) : Int) - (((((X ++ Y).take q).count (kd, it)) : Nat) : Int) ≤ 2000; omega
                    rw [hf] at x0 x2 x4
                    rw [show f + -1 = f - 1 by omega] at x4
                    simp only [vval] at x0 x1 x2
                    have HX5 := hide x5
                    have HX6 : Hid (w11.grownBy w7 (some mb)) := grw_trans GR.out (grw_trans (below_grw E5.out) x6)
                    have t60 : w6.cell? ⟨wt.heap.size, 0, none⟩ = some (.int .i64 kd) := (grown_cell x3 l5 n5).trans t50
                    have t61 : w6.cell? ⟨wt.heap.size, 1, none⟩ = some (.int .i64 it) := (grown_cell x3 l5 n5).trans t51
                    have t70 : w7.cell? ⟨wt.heap.size, 0, none⟩ = some (.int .i64 kd) := (grown_cell x6 l5 n5).trans t50
                    have t71 : w7.cell? ⟨wt.heap.size, 1, none⟩ = some (.int .i64 it) := (grown_cell x6 l5 n5).trans t51
                    have wr1 : IntKind.i64.wrap (f - 1) = f - 1 := by rw [IntKind.wrap_i64]; omega
                    clear x3 x5 x6 hf t5 hgn hgm
                    go_wp2_with fail
                    try (rw [← hw5])
                    clear hw5
                    go_region_held3 (fun w' => w'.cell? ⟨wt.heap.size, 0, none⟩ = some (.int .i64 kd) ∧ w'.cell? ⟨wt.heap.size, 1, none⟩ = some (.int .i64 it)) (go_keep) (fail)
                    all_goals
                      go_wp2_with fail
                      go_roundw
                      case rel => exact ⟨q + 1, by go_num, by omega, by have h9 := HX5.out; rw [show (fun u : Vst => ((A ++ B).count u : Int) - (((X ++ Y).take (q + 1)).count u : Int)) = fun u => if u = (kd, it) then (fun u : Vst => ((A ++ B).count u : Int) - (((X ++ Y).take q).count u : Int)) u + (-1) else (fun u : Vst => ((A ++ B).count u : Int) - (((X ++ Y).take q).count u : Int)) u from funext fun u => by have h8 := cnt_next (u := u) HU0.out; simp only; rw [h8]; split <;> omega]; exact h9, HX6.out⟩
                      case measure => simp [intOf]; omega
                  · have j1 : ¬ (q : Int) < (N : Int) := by omega
                    have hqe : q = N := by omega
                    have HM4 : Hid (MapN wt mb (N + N) (fun _ => 0)) := by
                      have h9 := HZ.out
                      rw [hqe, List.take_of_length_le (l := X ++ Y) (by rw [HXYL.out]; exact Nat.le_refl _)] at h9
                      have e9 : (fun u : Vst => ((A ++ B).count u : Int) - ((X ++ Y).count u : Int)) = fun _ => 0 := funext fun u => by
                        have h8 := HCT.out u
                        rw [← List.count_append, ← List.count_append] at h8
                        rw [h8]
                        omega
                      rw [e9] at h9
                      exact h9
                    have KWT : Hid (Below w.heap.size w wt) := (below_on KWY.out B11.out).trans (grw_low GR.out HMB.out (below_on KWY.out B11.out).size)
                    have hmr : mb < wt.heap.size := HM4.out.lt
                    clear HZ GR HM3 hqe hqm hq
                    go_wp2_with (first | (at_range; refine HM4.out.range rfl _ 55 rfl Try.underlying55 rfl ?_; intro v1 cnt hrg k1 hsz) | fail)
                    clear j1
                    have HRG := hide hrg
                    have B1 := hide (below_on KWT.out k1)
                    obtain ⟨r0, hr0⟩ : ∃ r0, r0 = wt.heap.size := ⟨_, rfl⟩
                    rw [← hr0] at HRG ⊢
                    have hr1 : w.heap.size ≤ r0 := by rw [hr0]; exact KWT.out.size
                    clear hrg k1 hsz hr0 hmr
                    go_loopw [] (fun wx => ∃ cn, Hid (RngN wx mb r0 (N + N) (fun _ => 0) cn ∧ Below w.heap.size w wx)) (fun wx => wx.rangeLeft mb r0)
                    case atStart => exact ⟨cnt, HRG.out, B1.out⟩
                    case round =>
                      clear HRG B1
                      obtain ⟨cn, HX⟩ := hrel
                      have HRX := hide HX.out.1
                      have HBX := hide HX.out.2
                      clear HX
                      go_wp2_with (first | (at_next; refine HRX.out.next rfl _ rfl rfl ?_ (fun s i v2 cn2 hv hnx hlt hgr hsz hen => ?_)) | fail)
                      · go_wp2_with fail
                        go_ret
                        exact ⟨rfl, HBX.out⟩
                      · have HB4 := hide (HBX.out.trans ((grown_below hgr.out (Nat.le_of_lt HRX.out.lt)).mono hr1))
                        have HNX := hnx
                        have HLE := hide HRX.out.left_eq
                        clear hv hgr
                        go_wp2_with fail
                        go_roundw
                        case rel => exact ⟨cn2, HNX.out, HB4.out⟩
                        case measure => rw [HNX.out.left_eq, HLE.out]; exact hlt.out
        · have j1 : ¬ (q : Int) < (ml : Int) := by omega
          obtain ⟨mb, hmb⟩ : ∃ mb, mb = wr.heap.size := ⟨_, rfl⟩
          obtain ⟨WM, hWM⟩ : ∃ W, W = wr.alloc (.map #[] 0) := ⟨_, rfl⟩
          obtain ⟨N, hN⟩ : ∃ N, m + n = N := ⟨_, rfl⟩
          have HMB : Hid (w.heap.size ≤ mb) := by show _ ≤ _; rw [hmb]; exact HB.out.size
          have HML : Hid (wr.heap.size ≤ mb) := by show _ ≤ _; omega
          have HM0 : Hid (MapN WM mb (0 + 0) (fun u : Vst => (((A ++ B).take 0).count u : Int))) := by show MapN _ _ _ _; rw [hmb, hWM]; exact MapN.made wr
          have BM : Hid (Below wr.heap.size wr WM) := by rw [hWM]; exact (Below.refl _ _).alloc (Nat.le_refl _) _
          have HBM := hide (below_on HB.out BM.out)
          have hmw : mb < WM.heap.size := HM0.out.lt
          have HNN := hide hN
          have HPP : Hid (p1 + p2 = N) := hpp.trans hN
          have HABL : Hid ((A ++ B).length = N) := by show _ = _; rw [List.length_append, HA.out.len, HBB.out.len]; exact hN
          have HXYL : Hid ((X ++ Y).length = N) := by show _ = _; rw [List.length_append, HXL.out, HYL.out]; exact hpp.trans hN
          have hN60 : N ≤ 60 := by omega
          have HX64 : Hid (∀ v ∈ X ++ Y, V64 v) := fun v hv => H64.out v (mem_cnt2 HCT.out hv)
          have HW64 := H64
          clear hN hqm hq hq1
          go_wp2_with (first | (at_builtin; have hh := B9.out; clear hh; refine app_vis (.tmp 118) (.tmp 119) rfl rfl rfl rfl R9.out HA.out.len (PrV.on HBB.out.vs (below_on HBM.out B9.out)) HBB.out.len HBB.out.nz (by omega) B9.out.size ?_; intro a10 c10 w10 r10 k10 _; rw [HNN.out] at r10 ⊢; have R10 := hide r10; have B10 : Hid (Below WM.heap.size WM w10) := (B9.out.trans k10); clear r10 k10) | (at_builtin; refine app_copy2 (w := wr.alloc (.map #[] 0)) (B := wr.heap.size + 1) (by simp) (.tmp 116) (.tmp 117) rfl rfl rfl rfl (PrV.on HA.out.vs (low_alloc HB.out _)) HA.out.len HA.out.nz (by omega) ?_; intro a9 c9 w9 r9 k9; have R9 : Hid (VRow w9 WM.heap.size (.slice a9 m c9) A) := (by rw [hWM]; exact r9); have B9 : Hid (Below WM.heap.size WM w9) := (by rw [hWM]; exact k9); clear r9 k9) | fail)
          rw [← hmb]
          clear hmb hWM hmm
          have HM1 : Hid (MapN w10 mb (0 + 0) (fun u : Vst => (((A ++ B).take 0).count u : Int))) := HM0.out.on hmw B10.out
          go_loopw [122] (fun vi wz => ∃ q : Nat, vi = .int .i64 q ∧ q ≤ N ∧ Hid (MapN wz mb (0 + q) (fun u : Vst => (((A ++ B).take q).count u : Int))) ∧ Hid (w10.grownBy wz (some mb))) (fun vi _ => N - (intOf vi).toNat)
          case atStart => exact ⟨0, rfl, Nat.zero_le _, HM1.out, grw_refl _ _⟩
          case round =>
            obtain ⟨q, rfl, hq, HZ, GR⟩ := hrel
            rename World => wy
            by_cases hqm : q < N
            · have j1 : (q : Int) < (N : Int) := by omega
              have j2 : (0 : Int) ≤ (q : Int) := by omega
              have j4 : ¬ (N : Int) ≤ (q : Int) := by omega
              obtain ⟨⟨kd, it⟩, hu⟩ : ∃ u, (A ++ B)[q]? = some u := ⟨_, List.getElem?_eq_getElem (by rw [HABL.out]; exact hqm)⟩
              have HU0 := hide hu
              have H6 : Hid (V64 (kd, it)) := HW64.out _ (List.mem_of_getElem? hu)
              obtain ⟨g1, hbb, -⟩ := vrow_pos R10.out (by omega)
              subst hbb
              have hgm := World.ownsRow.lt R10.out g1 rfl
              obtain ⟨c1, c2⟩ := VRow.cells R10.out HABL.out hu
              simp only at c1 c2
              have hgn : g1 ≠ mb := by omega
              have z1 : wy.cell? ⟨g1, q * 2, none⟩ = some (.int .i64 kd) := (grown_cell GR.out hgm.2 hgn).trans c1
              have z2 : wy.cell? ⟨g1, q * 2 + 1, none⟩ = some (.int .i64 it) := (grown_cell GR.out hgm.2 hgn).trans c2
              have hmr : mb < wy.heap.size := HZ.out.lt
              clear hu c1 c2
              obtain ⟨w5, hw5⟩ : ∃ W, W = wy.alloc (.cells #[.int .i64 kd, .int .i64 it] 58) := ⟨_, rfl⟩
              have E5 : Hid (Below wy.heap.size wy w5.drew) := by rw [hw5]; exact ((Below.refl _ _).alloc (Nat.le_refl _) _).drew
              have l5 : wy.heap.size < w5.drew.heap.size := by rw [hw5]; show _ < (wy.alloc _).heap.size; simp
              have t5 : w5.heap[wy.heap.size]? = some (.cells #[.int .i64 kd, .int .i64 it] 58) := by rw [hw5]; exact heap_alloc_new _ _
              have t50 : w5.cell? ⟨wy.heap.size, 0, none⟩ = some (.int .i64 kd) := cell_of_row _ _ _ _ _ _ t5
              have t51 : w5.cell? ⟨wy.heap.size, 1, none⟩ = some (.int .i64 it) := cell_of_row _ _ _ _ _ _ t5
              have n5 : wy.heap.size ≠ mb := by omega
              have HZ5 := hide (HZ.out.on hmr E5.out)
              obtain ⟨v0, st, w6, w7, x1, x2, x3, x4, x5, x6⟩ := HZ5.out.bump Try.underlying55 (by unfold maxLen; omega) (kd, it) H6.out (1)
              have x0 := HZ5.out.look Try.underlying55 (kd, it) H6.out
              obtain ⟨f, hf⟩ : ∃ f : Int, (((A ++ B).take q).count (kd, it) : Int) = f := ⟨_, rfl⟩
              have hfb : -2000 ≤ f ∧ f ≤ 2000 := by rw [← hf]; have h9 := cnt_bound (A ++ B) q (kd, it); rw [HABL.out] at h9; show -2000 ≤ (((((A ++ B).take q).count (kd, it)) : Nat) : Int) ∧ (((((A ++ B).take q).count (kd, it)) : Nat) : Int) ≤ 2000; omega
              rw [hf] at x0 x2 x4
              skip
              simp only [vval] at x0 x1 x2
              have HX5 := hide x5
              have HX6 : Hid (w10.grownBy w7 (some mb)) := grw_trans GR.out (grw_trans (below_grw E5.out) x6)
              have t60 : w6.cell? ⟨wy.heap.size, 0, none⟩ = some (.int .i64 kd) := (grown_cell x3 l5 n5).trans t50
              have t61 : w6.cell? ⟨wy.heap.size, 1, none⟩ = some (.int .i64 it) := (grown_cell x3 l5 n5).trans t51
              have t70 : w7.cell? ⟨wy.heap.size, 0, none⟩ = some (.int .i64 kd) := (grown_cell x6 l5 n5).trans t50
              have t71 : w7.cell? ⟨wy.heap.size, 1, none⟩ = some (.int .i64 it) := (grown_cell x6 l5 n5).trans t51
              have wr1 : IntKind.i64.wrap (f + 1) = f + 1 := by rw [IntKind.wrap_i64]; omega
              clear x3 x5 x6 hf t5 hgn hgm
              go_wp2_with fail
              try (rw [← hw5])
              clear hw5
              go_region_held3 (fun w' => w'.cell? ⟨wy.heap.size, 0, none⟩ = some (.int .i64 kd) ∧ w'.cell? ⟨wy.heap.size, 1, none⟩ = some (.int .i64 it)) (go_keep) (fail)
              all_goals
                go_wp2_with fail
                go_roundw
                case rel => exact ⟨q + 1, by go_num, by omega, by have h9 := HX5.out; rw [show (fun u : Vst => (((A ++ B).take (q + 1)).count u : Int)) = fun u => if u = (kd, it) then (fun u : Vst => (((A ++ B).take q).count u : Int)) u + (1) else (fun u : Vst => (((A ++ B).take q).count u : Int)) u from funext fun u => by have h8 := cnt_next (u := u) HU0.out; exact h8]; exact h9, HX6.out⟩
                case measure => simp [intOf]; omega
            · have j1 : ¬ (q : Int) < (N : Int) := by omega
              have hqe : q = N := by omega
              have HM2 : Hid (MapN wy mb N (fun u : Vst => ((A ++ B).count u : Int) - (((X ++ Y).take 0).count u : Int))) := by
                have h9 := HZ.out
                rw [hqe, Nat.zero_add, List.take_of_length_le (l := A ++ B) (by rw [HABL.out]; exact Nat.le_refl _)] at h9
                have e9 : (fun u : Vst => ((A ++ B).count u : Int) - (((X ++ Y).take 0).count u : Int)) = fun u => ((A ++ B).count u : Int) := funext fun u => by simp
                rw [e9]
                exact h9
              have BWY : Hid (Below wr.heap.size wr wy) := by
                have f1 : Below wr.heap.size wr w10 := below_on BM.out B10.out
                have f2 : Below mb w10 wy := grw_low GR.out (Nat.le_refl _) (Nat.le_of_lt (Nat.lt_of_lt_of_le hmw B10.out.size))
                exact f1.trans (f2.mono HML.out)
              have LT := hide (HL.out.on BWY.out)
              have hmy : mb < wy.heap.size := HM2.out.lt
              have KWY := hide (below_on HB.out BWY.out)
              clear HZ GR HM1 hqe hqm hq R10 R9
              go_wp2_with (first | (at_builtin; have hh := BY1.out; clear hh; refine app_vis (.tmp 138) (.tmp 139) rfl rfl rfl rfl RP.out HXL.out (vrow_vs RQ.out HYL.out (by omega)) HYL.out (fun e9 => by rcases RQ.out.2 with ⟨f1, _⟩ | ⟨_, _, _, f1, _⟩; (injection f1 with _ _ f3); (injection f1 with f2 _ _; rw [e9] at f2; cases f2)) (by omega) BY1.out.size ?_; intro a11 c11 w11 r11 k11 _; rw [HPP.out] at r11 ⊢; have R11 := hide r11; have B11 : Hid (Below wy.heap.size wy w11) := (BY1.out.trans k11); clear r11 k11) | (go_at_call 23; refine (tvisits_any LT.out HXL.out HYL.out (by omega) (by omega)).mono ?_; rintro e y1 ⟨b1, e1, b2, e2, rfl, r1, k1⟩; have RP := hide r1.1; have RQ := hide r1.2.1; have BY1 := hide k1; clear r1 k1) | fail)
              clear j1 HW64
              have HW64 := HX64
              have HM3 : Hid (MapN w11 mb (N + 0) (fun u : Vst => ((A ++ B).count u : Int) - (((X ++ Y).take 0).count u : Int))) := HM2.out.on hmy B11.out
              go_loopw [142] (fun vi wz => ∃ q : Nat, vi = .int .i64 q ∧ q ≤ N ∧ Hid (MapN wz mb (N + q) (fun u : Vst => ((A ++ B).count u : Int) - (((X ++ Y).take q).count u : Int))) ∧ Hid (w11.grownBy wz (some mb))) (fun vi _ => N - (intOf vi).toNat)
              case atStart => exact ⟨0, rfl, Nat.zero_le _, HM3.out, grw_refl _ _⟩
              case round =>
                obtain ⟨q, rfl, hq, HZ, GR⟩ := hrel
                rename World => wt
                by_cases hqm : q < N
                · have j1 : (q : Int) < (N : Int) := by omega
                  have j2 : (0 : Int) ≤ (q : Int) := by omega
                  have j4 : ¬ (N : Int) ≤ (q : Int) := by omega
                  obtain ⟨⟨kd, it⟩, hu⟩ : ∃ u, (X ++ Y)[q]? = some u := ⟨_, List.getElem?_eq_getElem (by rw [HXYL.out]; exact hqm)⟩
                  have HU0 := hide hu
                  have H6 : Hid (V64 (kd, it)) := HW64.out _ (List.mem_of_getElem? hu)
                  obtain ⟨g2, hbb, -⟩ := vrow_pos R11.out (by omega)
                  subst hbb
                  have hgm := World.ownsRow.lt R11.out g2 rfl
                  obtain ⟨c1, c2⟩ := VRow.cells R11.out HXYL.out hu
                  simp only at c1 c2
                  have hgn : g2 ≠ mb := by omega
                  have z1 : wt.cell? ⟨g2, q * 2, none⟩ = some (.int .i64 kd) := (grown_cell GR.out hgm.2 hgn).trans c1
                  have z2 : wt.cell? ⟨g2, q * 2 + 1, none⟩ = some (.int .i64 it) := (grown_cell GR.out hgm.2 hgn).trans c2
                  have hmr : mb < wt.heap.size := HZ.out.lt
                  clear hu c1 c2
                  obtain ⟨w5, hw5⟩ : ∃ W, W = wt.alloc (.cells #[.int .i64 kd, .int .i64 it] 58) := ⟨_, rfl⟩
                  have E5 : Hid (Below wt.heap.size wt w5.drew) := by rw [hw5]; exact ((Below.refl _ _).alloc (Nat.le_refl _) _).drew
                  have l5 : wt.heap.size < w5.drew.heap.size := by rw [hw5]; show _ < (wt.alloc _).heap.size; simp
                  have t5 : w5.heap[wt.heap.size]? = some (.cells #[.int .i64 kd, .int .i64 it] 58) := by rw [hw5]; exact heap_alloc_new _ _
                  have t50 : w5.cell? ⟨wt.heap.size, 0, none⟩ = some (.int .i64 kd) := cell_of_row _ _ _ _ _ _ t5
                  have t51 : w5.cell? ⟨wt.heap.size, 1, none⟩ = some (.int .i64 it) := cell_of_row _ _ _ _ _ _ t5
                  have n5 : wt.heap.size ≠ mb := by omega
                  have HZ5 := hide (HZ.out.on hmr E5.out)
                  obtain ⟨v0, st, w6, w7, x1, x2, x3, x4, x5, x6⟩ := HZ5.out.bump Try.underlying55 (by unfold maxLen; omega) (kd, it) H6.out (-1)
                  have x0 := HZ5.out.look Try.underlying55 (kd, it) H6.out
                  obtain ⟨f, hf⟩ : ∃ f : Int, ((A ++ B).count (kd, it) : Int) - (((X ++ Y).take q).count (kd, it) : Int) = f := ⟨_, rfl⟩
                  have hfb : -2000 ≤ f ∧ f ≤ 2000 := by rw [← hf]; have h9 := cnt_bound (X ++ Y) q (kd, it); have h8 := cnt_bound (A ++ B) N (kd, it); rw [List.take_of_length_le (l := A ++ B) (by rw [HABL.out]; exact Nat.le_refl _), HABL.out] at h8; rw [HXYL.out] at h9; show -2000 ≤ ((((A ++ B).count (kd, it)) : Nat) : Int) - (((((X ++ Y).take q).count (kd, it)) : Nat) : Int) ∧ ((((A ++ B).count (kd, it)) : Nat) : Int) - (((((X ++ Y).take q).count (kd, it)) : Nat) : Int) ≤ 2000; omega
                  rw [hf] at x0 x2 x4
                  rw [show f + -1 = f - 1 by omega] at x4
                  simp only [vval] at x0 x1 x2
                  have HX5 := hide x5
                  have HX6 : Hid (w11.grownBy w7 (some mb)) := grw_trans GR.out (grw_trans (below_grw E5.out) x6)
                  have t60 : w6.cell? ⟨wt.heap.size, 0, none⟩ = some (.int .i64 kd) := (grown_cell x3 l5 n5).trans t50
                  have t61 : w6.cell? ⟨wt.heap.size, 1, none⟩ = some (.int .i64 it) := (grown_cell x3 l5 n5).trans t51
                  have t70 : w7.cell? ⟨wt.heap.size, 0, none⟩ = some (.int .i64 kd) := (grown_cell x6 l5 n5).trans t50
                  have t71 : w7.cell? ⟨wt.heap.size, 1, none⟩ = some (.int .i64 it) := (grown_cell x6 l5 n5).trans t51
                  have wr1 : IntKind.i64.wrap (f - 1) = f - 1 := by rw [IntKind.wrap_i64]; omega
                  clear x3 x5 x6 hf t5 hgn hgm
                  go_wp2_with fail
                  try (rw [← hw5])
                  clear hw5
                  go_region_held3 (fun w' => w'.cell? ⟨wt.heap.size, 0, none⟩ = some (.int .i64 kd) ∧ w'.cell? ⟨wt.heap.size, 1, none⟩ = some (.int .i64 it)) (go_keep) (fail)
                  all_goals
                    go_wp2_with fail
                    go_roundw
                    case rel => exact ⟨q + 1, by go_num, by omega, by have h9 := HX5.out; rw [show (fun u : Vst => ((A ++ B).count u : Int) - (((X ++ Y).take (q + 1)).count u : Int)) = fun u => if u = (kd, it) then (fun u : Vst => ((A ++ B).count u : Int) - (((X ++ Y).take q).count u : Int)) u + (-1) else (fun u : Vst => ((A ++ B).count u : Int) - (((X ++ Y).take q).count u : Int)) u from funext fun u => by have h8 := cnt_next (u := u) HU0.out; simp only; rw [h8]; split <;> omega]; exact h9, HX6.out⟩
                    case measure => simp [intOf]; omega
                · have j1 : ¬ (q : Int) < (N : Int) := by omega
                  have hqe : q = N := by omega
                  have HM4 : Hid (MapN wt mb (N + N) (fun _ => 0)) := by
                    have h9 := HZ.out
                    rw [hqe, List.take_of_length_le (l := X ++ Y) (by rw [HXYL.out]; exact Nat.le_refl _)] at h9
                    have e9 : (fun u : Vst => ((A ++ B).count u : Int) - ((X ++ Y).count u : Int)) = fun _ => 0 := funext fun u => by
                      have h8 := HCT.out u
                      rw [← List.count_append, ← List.count_append] at h8
                      rw [h8]
                      omega
                    rw [e9] at h9
                    exact h9
                  have KWT : Hid (Below w.heap.size w wt) := (below_on KWY.out B11.out).trans (grw_low GR.out HMB.out (below_on KWY.out B11.out).size)
                  have hmr : mb < wt.heap.size := HM4.out.lt
                  clear HZ GR HM3 hqe hqm hq
                  go_wp2_with (first | (at_range; refine HM4.out.range rfl _ 55 rfl Try.underlying55 rfl ?_; intro v1 cnt hrg k1 hsz) | fail)
                  clear j1
                  have HRG := hide hrg
                  have B1 := hide (below_on KWT.out k1)
                  obtain ⟨r0, hr0⟩ : ∃ r0, r0 = wt.heap.size := ⟨_, rfl⟩
                  rw [← hr0] at HRG ⊢
                  have hr1 : w.heap.size ≤ r0 := by rw [hr0]; exact KWT.out.size
                  clear hrg k1 hsz hr0 hmr
                  go_loopw [] (fun wx => ∃ cn, Hid (RngN wx mb r0 (N + N) (fun _ => 0) cn ∧ Below w.heap.size w wx)) (fun wx => wx.rangeLeft mb r0)
                  case atStart => exact ⟨cnt, HRG.out, B1.out⟩
                  case round =>
                    clear HRG B1
                    obtain ⟨cn, HX⟩ := hrel
                    have HRX := hide HX.out.1
                    have HBX := hide HX.out.2
                    clear HX
                    go_wp2_with (first | (at_next; refine HRX.out.next rfl _ rfl rfl ?_ (fun s i v2 cn2 hv hnx hlt hgr hsz hen => ?_)) | fail)
                    · go_wp2_with fail
                      go_ret
                      exact ⟨rfl, HBX.out⟩
                    · have HB4 := hide (HBX.out.trans ((grown_below hgr.out (Nat.le_of_lt HRX.out.lt)).mono hr1))
                      have HNX := hnx
                      have HLE := hide HRX.out.left_eq
                      clear hv hgr
                      go_wp2_with fail
                      go_roundw
                      case rel => exact ⟨cn2, HNX.out, HB4.out⟩
                      case measure => rw [HNX.out.left_eq, HLE.out]; exact hlt.out
end Go.Proofs.Ytdnkmjafkpnliaa
