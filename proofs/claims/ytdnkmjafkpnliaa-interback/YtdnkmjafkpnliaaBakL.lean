/-
  What the law InterBack does.
-/
import Derived.Test.YtdnkmjafkpnliaaPlS
import Derived.Deep.RegionHeld3
namespace Go.Proofs.Ytdnkmjafkpnliaa
open Go.RowKit

set_option maxRecDepth 100000 in
set_option maxHeartbeats 12800000 in
theorem tback_any {w : World} {m vc n vd : Nat} {va vb : Option Addr} {A B : List Vst} (hA : SlI w va m vc A) (hB : SlI w vb n vd B) (ch xi xj xk : Int) : Calls Try.prog 9 #[.slice va m vc, .slice vb n vd, .agg #[.int .i64 ch, .int .i64 xi, .int .i64 xj, .int .i64 xk]] w fun e w' => e = .returned (.bool true) ∧ Below w.heap.size w w' := by
  have HA := hide hA
  have HB := hide hB
  have hmb : m * 16 ≤ 140737488351232 := by obtain ⟨_, _, e, hb, _⟩ := hA.vs; rw [← hA.len]; exact hb
  have hnb : n * 16 ≤ 140737488351232 := by obtain ⟨_, _, e, hb, _⟩ := hB.vs; rw [← hB.len]; exact hb
  clear hA hB
  obtain ⟨W, hW⟩ : ∃ W, W = w.alloc (.cells #[.int .i64 ch, .int .i64 xi, .int .i64 xj, .int .i64 xk] 41) := ⟨_, rfl⟩
  have HBW : Hid (Below w.heap.size w W) := by rw [hW]; exact (Below.refl _ _).alloc (Nat.le_refl _) _
  have HWS : Hid (W.heap.size = w.heap.size + 1) := by show _ = _; rw [hW]; simp
  have HC : Hid (∀ W2, Below W.heap.size W W2 → ∀ j, W2.cell? ⟨w.heap.size, j, none⟩ = (#[.int .i64 ch, .int .i64 xi, .int .i64 xj, .int .i64 xk] : Array Value)[j]?) := fun W2 hf j => by
    have e9 : W.heap[w.heap.size]? = some (.cells #[.int .i64 ch, .int .i64 xi, .int .i64 xj, .int .i64 xk] 41) := by rw [hW]; exact heap_alloc_new _ _
    exact cell_of_row _ _ _ _ _ _ ((hf.block _ (by rw [HWS.out]; omega)).trans e9)
  have H20 : Hid (Calls Try.prog 20 #[] W fun e w' => e = .returned (.bool true) ∧ Below W.heap.size W w') := tawake_any W
  by_cases hl1 : m > 60
  · have z1 : (60 : Int) < (m : Int) := by omega
    have z2 : (m : Int) > 60 := by omega
    go_enter Try.func9, Try.ntmps9
    go_wp2_with (first | (go_at_call 20; rw [← hW]; refine H20.out.mono ?_; rintro e w1 ⟨rfl, k1⟩; have K1 := hide k1; clear k1) | fail)
    go_ret
    exact ⟨rfl, below_on HBW.out K1.out⟩
  · have z1 : ¬ (60 : Int) < (m : Int) := by omega
    have z2 : ¬ (m : Int) > 60 := by omega
    by_cases hl2 : n > 60
    · have z3 : (60 : Int) < (n : Int) := by omega
      have z4 : (n : Int) > 60 := by omega
      go_enter Try.func9, Try.ntmps9
      go_wp2_with (first | (go_at_call 20; rw [← hW]; refine H20.out.mono ?_; rintro e w1 ⟨rfl, k1⟩; have K1 := hide k1; clear k1) | fail)
      go_ret
      exact ⟨rfl, below_on HBW.out K1.out⟩
    · have z3 : ¬ (60 : Int) < (n : Int) := by omega
      have z4 : ¬ (n : Int) > 60 := by omega
      obtain ⟨r, hr, hr3⟩ : ∃ r : Nat, Int.tmod (IntKind.u64.wrap ch) 3 = r ∧ r ≤ 2 := by
        obtain ⟨r, hr, hl⟩ := umod_nat ch 2 (by omega)
        exact ⟨r, by simpa using hr, hl⟩
      have hA4 : Hid (A.length ≤ 400 ∧ B.length ≤ 400) := ⟨by rw [HA.out.len]; omega, by rw [HB.out.len]; omega⟩
      rcases (show r = 0 ∨ r = 1 ∨ r = 2 by omega) with rfl | rfl | rfl
      · obtain ⟨⟨X, Y, ok⟩, hq⟩ : ∃ q, trdM A B xi xj 1 = q := ⟨_, rfl⟩
        have hq9 : trdM A B xi xj ((1 : Nat) : Int) = (X, Y, ok) := hq
        have hb := trd_back A B xi xj 1
        have hl := trd_len A B xi xj 1
        rw [hq9] at hb hl
        simp only at hb hl
        have HLX : Hid (X.length ≤ 400 ∧ Y.length ≤ 400) := ⟨by rw [hl.1, HA.out.len]; omega, by rw [hl.2, HB.out.len]; omega⟩
        have H1 : Hid (∀ {tb : Nat} (W2 : World), TwoV W2 tb A B → Calls Try.prog 26 #[.pointer (some ⟨tb, 0, none⟩), .int .i64 xi, .int .i64 xj, .int .i64 0] W2 (ChT W2 tb (X, Y, ok))) := fun {tb} W2 h9 => by
          have h8 := texchange_any h9 hA4.out.1 hA4.out.2 xi xj 0
          rw [hq] at h8
          exact h8
        have H2 : Hid (∀ {tb : Nat} (W2 : World), TwoV W2 tb X Y → Calls Try.prog 26 #[.pointer (some ⟨tb, 0, none⟩), .int .i64 xi, .int .i64 xj, .int .i64 0] W2 (ChT W2 tb (A, B, ok))) := fun {tb} W2 h9 => by
          have h8 := texchange_any h9 HLX.out.1 HLX.out.2 xi xj 0
          rw [show trdM X Y xi xj 1 = (A, B, ok) from hb] at h8
          exact h8
        clear hq hq9 hb hl
        cases ok
        all_goals
          go_enter Try.func9, Try.ntmps9
          go_wp2_with (first | (go_at_call 21; refine (tnew_any (SlI.row (VRow.later R2.out (Nat.le_refl _) B3.out) HA.out.len (by omega)) (SlI.row R3.out HB.out.len (by omega)) (by omega) (by omega)).mono ?_; rintro e w4 ⟨tb, rfl, q4, htb, k4⟩; have L4 := hide q4; have HTB : Hid (W.heap.size ≤ tb) := (Nat.le_trans K3.out.size htb); have K4 := hide (below_on K3.out k4); have zz0 : w4.cell? ⟨w.heap.size, 0, none⟩ = some (.int .i64 ch) := HC.out _ K4.out 0; have zz1 : w4.cell? ⟨w.heap.size, 1, none⟩ = some (.int .i64 xi) := HC.out _ K4.out 1; have zz2 : w4.cell? ⟨w.heap.size, 2, none⟩ = some (.int .i64 xj) := HC.out _ K4.out 2; have zz3 : w4.cell? ⟨w.heap.size, 3, none⟩ = some (.int .i64 xk) := HC.out _ K4.out 3; clear q4 k4 htb) | (at_builtin; refine app_copy (.tmp 27) (.tmp 28) rfl rfl rfl rfl (PrV.on HB.out.vs (below_on HBW.out K2.out)) HB.out.len HB.out.nz (by omega) ?_; intro a3 c3 w3 r3 k3; have R3 := hide r3; have B3 := hide k3; have K3 := hide (below_on K2.out k3); clear r3 k3) | (at_builtin; have hh := K1.out; clear hh; refine app_copy (.tmp 24) (.tmp 25) rfl rfl rfl rfl (PrV.on HA.out.vs (below_on HBW.out K1.out)) HA.out.len HA.out.nz (by omega) ?_; intro a2 c2 w2 r2 k2; have R2 := hide r2; have B2 := hide k2; have K2 := hide (below_on K1.out k2); clear r2 k2) | (go_at_call 20; rw [← hW]; refine H20.out.mono ?_; rintro e w1 ⟨rfl, k1⟩; have K1 := hide k1; clear k1) | fail)
          first | (go_region_held3 (fun w' => w'.cell? ⟨w.heap.size, 1, none⟩ = some (.int .i64 xi) ∧ w'.cell? ⟨w.heap.size, 2, none⟩ = some (.int .i64 xj)) (go_keep) (first | (go_at_call 26; have hh := L5.out; clear hh; refine (H2.out _ L5.out).mono ?_; intro e w6 h6; obtain ⟨rfl, q6, k6⟩ := cht_low h6 K5.out HTB.out K5.out.size; have L6 := hide q6; have K6 := hide k6; have zv0 : w6.cell? ⟨w.heap.size, 0, none⟩ = some (.int .i64 ch) := HC.out _ K6.out 0; have zv1 : w6.cell? ⟨w.heap.size, 1, none⟩ = some (.int .i64 xi) := HC.out _ K6.out 1; have zv2 : w6.cell? ⟨w.heap.size, 2, none⟩ = some (.int .i64 xj) := HC.out _ K6.out 2; have zv3 : w6.cell? ⟨w.heap.size, 3, none⟩ = some (.int .i64 xk) := HC.out _ K6.out 3; clear h6 q6 k6) | (go_at_call 26; refine (H1.out _ (L4.out.on ((Below.refl _ _).drew))).mono ?_; intro e w5 h5; obtain ⟨rfl, q5, k5⟩ := cht_low h5 (low_drew K4.out) HTB.out (low_drew K4.out).size; have L5 := hide q5; have K5 := hide k5; have zy0 : w5.cell? ⟨w.heap.size, 0, none⟩ = some (.int .i64 ch) := HC.out _ K5.out 0; have zy1 : w5.cell? ⟨w.heap.size, 1, none⟩ = some (.int .i64 xi) := HC.out _ K5.out 1; have zy2 : w5.cell? ⟨w.heap.size, 2, none⟩ = some (.int .i64 xj) := HC.out _ K5.out 2; have zy3 : w5.cell? ⟨w.heap.size, 3, none⟩ = some (.int .i64 xk) := HC.out _ K5.out 3; clear h5 q5 k5) | fail)) | fail
          rename_i hHeld
          clear hHeld
          go_wp2_with (first | (go_at_call 16; have hh := K8.out; clear hh; refine (same_vs (PrV.on RB.out B8.out) (PrV.on HB.out.vs (below_on HBW.out K8.out))).mono ?_; rintro e w9 ⟨rfl, k9⟩; have K9 := hide (below_on K8.out k9); clear k9) | (go_at_call 16; refine (same_vs RA.out (PrV.on HA.out.vs (below_on HBW.out K7.out))).mono ?_; rintro e w8 ⟨rfl, k8⟩; have B8 := hide k8; have K8 := hide (below_on K7.out k8); clear k8) | (go_at_call 23; refine (tvisits_any L6.out HA.out.len HB.out.len (by omega) (by omega)).mono ?_; rintro e w7 ⟨a7, c7, a7', c7', rfl, r7, k7⟩; have RA := hide (vrow_vs r7.1 HA.out.len (by omega)); have RB := hide (vrow_vs r7.2.1 HB.out.len (by omega)); have B7 := hide k7; have K7 := hide (below_on K6.out k7); clear r7 k7) | fail)
          go_ret
          exact ⟨rfl, below_on HBW.out K9.out⟩
      · obtain ⟨⟨X, Y, ok⟩, hq⟩ : ∃ q, trdM A B xi xj 2 = q := ⟨_, rfl⟩
        have hq9 : trdM A B xi xj ((2 : Nat) : Int) = (X, Y, ok) := hq
        have hb := trd_back A B xi xj 2
        have hl := trd_len A B xi xj 2
        rw [hq9] at hb hl
        simp only at hb hl
        have HLX : Hid (X.length ≤ 400 ∧ Y.length ≤ 400) := ⟨by rw [hl.1, HA.out.len]; omega, by rw [hl.2, HB.out.len]; omega⟩
        have H1 : Hid (∀ {tb : Nat} (W2 : World), TwoV W2 tb A B → Calls Try.prog 27 #[.pointer (some ⟨tb, 0, none⟩), .int .i64 xi, .int .i64 xj, .int .i64 0] W2 (ChT W2 tb (X, Y, ok))) := fun {tb} W2 h9 => by
          have h8 := tcross_any h9 hA4.out.1 hA4.out.2 xi xj 0
          rw [hq] at h8
          exact h8
        have H2 : Hid (∀ {tb : Nat} (W2 : World), TwoV W2 tb X Y → Calls Try.prog 27 #[.pointer (some ⟨tb, 0, none⟩), .int .i64 xi, .int .i64 xj, .int .i64 0] W2 (ChT W2 tb (A, B, ok))) := fun {tb} W2 h9 => by
          have h8 := tcross_any h9 HLX.out.1 HLX.out.2 xi xj 0
          rw [show trdM X Y xi xj 2 = (A, B, ok) from hb] at h8
          exact h8
        clear hq hq9 hb hl
        cases ok
        all_goals
          go_enter Try.func9, Try.ntmps9
          go_wp2_with (first | (go_at_call 21; refine (tnew_any (SlI.row (VRow.later R2.out (Nat.le_refl _) B3.out) HA.out.len (by omega)) (SlI.row R3.out HB.out.len (by omega)) (by omega) (by omega)).mono ?_; rintro e w4 ⟨tb, rfl, q4, htb, k4⟩; have L4 := hide q4; have HTB : Hid (W.heap.size ≤ tb) := (Nat.le_trans K3.out.size htb); have K4 := hide (below_on K3.out k4); have zz0 : w4.cell? ⟨w.heap.size, 0, none⟩ = some (.int .i64 ch) := HC.out _ K4.out 0; have zz1 : w4.cell? ⟨w.heap.size, 1, none⟩ = some (.int .i64 xi) := HC.out _ K4.out 1; have zz2 : w4.cell? ⟨w.heap.size, 2, none⟩ = some (.int .i64 xj) := HC.out _ K4.out 2; have zz3 : w4.cell? ⟨w.heap.size, 3, none⟩ = some (.int .i64 xk) := HC.out _ K4.out 3; clear q4 k4 htb) | (at_builtin; refine app_copy (.tmp 27) (.tmp 28) rfl rfl rfl rfl (PrV.on HB.out.vs (below_on HBW.out K2.out)) HB.out.len HB.out.nz (by omega) ?_; intro a3 c3 w3 r3 k3; have R3 := hide r3; have B3 := hide k3; have K3 := hide (below_on K2.out k3); clear r3 k3) | (at_builtin; have hh := K1.out; clear hh; refine app_copy (.tmp 24) (.tmp 25) rfl rfl rfl rfl (PrV.on HA.out.vs (below_on HBW.out K1.out)) HA.out.len HA.out.nz (by omega) ?_; intro a2 c2 w2 r2 k2; have R2 := hide r2; have B2 := hide k2; have K2 := hide (below_on K1.out k2); clear r2 k2) | (go_at_call 20; rw [← hW]; refine H20.out.mono ?_; rintro e w1 ⟨rfl, k1⟩; have K1 := hide k1; clear k1) | fail)
          first | (go_region_held3 (fun w' => w'.cell? ⟨w.heap.size, 1, none⟩ = some (.int .i64 xi) ∧ w'.cell? ⟨w.heap.size, 2, none⟩ = some (.int .i64 xj)) (go_keep) (first | (go_at_call 27; have hh := L5.out; clear hh; refine (H2.out _ L5.out).mono ?_; intro e w6 h6; obtain ⟨rfl, q6, k6⟩ := cht_low h6 K5.out HTB.out K5.out.size; have L6 := hide q6; have K6 := hide k6; have zv0 : w6.cell? ⟨w.heap.size, 0, none⟩ = some (.int .i64 ch) := HC.out _ K6.out 0; have zv1 : w6.cell? ⟨w.heap.size, 1, none⟩ = some (.int .i64 xi) := HC.out _ K6.out 1; have zv2 : w6.cell? ⟨w.heap.size, 2, none⟩ = some (.int .i64 xj) := HC.out _ K6.out 2; have zv3 : w6.cell? ⟨w.heap.size, 3, none⟩ = some (.int .i64 xk) := HC.out _ K6.out 3; clear h6 q6 k6) | (go_at_call 27; refine (H1.out _ (L4.out.on ((Below.refl _ _).drew))).mono ?_; intro e w5 h5; obtain ⟨rfl, q5, k5⟩ := cht_low h5 (low_drew K4.out) HTB.out (low_drew K4.out).size; have L5 := hide q5; have K5 := hide k5; have zy0 : w5.cell? ⟨w.heap.size, 0, none⟩ = some (.int .i64 ch) := HC.out _ K5.out 0; have zy1 : w5.cell? ⟨w.heap.size, 1, none⟩ = some (.int .i64 xi) := HC.out _ K5.out 1; have zy2 : w5.cell? ⟨w.heap.size, 2, none⟩ = some (.int .i64 xj) := HC.out _ K5.out 2; have zy3 : w5.cell? ⟨w.heap.size, 3, none⟩ = some (.int .i64 xk) := HC.out _ K5.out 3; clear h5 q5 k5) | fail)) | fail
          rename_i hHeld
          clear hHeld
          go_wp2_with (first | (go_at_call 16; have hh := K8.out; clear hh; refine (same_vs (PrV.on RB.out B8.out) (PrV.on HB.out.vs (below_on HBW.out K8.out))).mono ?_; rintro e w9 ⟨rfl, k9⟩; have K9 := hide (below_on K8.out k9); clear k9) | (go_at_call 16; refine (same_vs RA.out (PrV.on HA.out.vs (below_on HBW.out K7.out))).mono ?_; rintro e w8 ⟨rfl, k8⟩; have B8 := hide k8; have K8 := hide (below_on K7.out k8); clear k8) | (go_at_call 23; refine (tvisits_any L6.out HA.out.len HB.out.len (by omega) (by omega)).mono ?_; rintro e w7 ⟨a7, c7, a7', c7', rfl, r7, k7⟩; have RA := hide (vrow_vs r7.1 HA.out.len (by omega)); have RB := hide (vrow_vs r7.2.1 HB.out.len (by omega)); have B7 := hide k7; have K7 := hide (below_on K6.out k7); clear r7 k7) | fail)
          go_ret
          exact ⟨rfl, below_on HBW.out K9.out⟩
      · obtain ⟨⟨X, Y, ok⟩, hq⟩ : ∃ q, talM A B xi xj = q := ⟨_, rfl⟩
        have HQ := hide hq
        obtain ⟨p, hp⟩ : ∃ p, X.length = p := ⟨_, rfl⟩
        obtain ⟨q, hq2⟩ : ∃ q, Y.length = q := ⟨_, rfl⟩
        have HP := hide hp
        have HQ2 := hide hq2
        have hlen : X.length + Y.length = A.length + B.length := inter_len (c := 3) (k := 0) (by omega) hq
        rw [hp, hq2, HA.out.len, HB.out.len] at hlen
        have hpl : p ≤ 120 := by omega
        have hql : q ≤ 120 := by omega
        have H1 : Hid (∀ {tb : Nat} (W2 : World), TwoV W2 tb A B → Calls Try.prog 28 #[.pointer (some ⟨tb, 0, none⟩), .int .i64 xi, .int .i64 xj, .int .i64 0] W2 (ChT W2 tb (X, Y, ok))) := fun {tb} W2 h9 => by
          have h8 := tails_any h9 hA4.out.1 hA4.out.2 xi xj 0
          rw [HQ.out] at h8
          exact h8
        cases ok with
        | false =>
          clear hq hp hq2
          go_enter Try.func9, Try.ntmps9
          go_wp2_with (first | (go_at_call 23; refine (tvisits_any L5.out HP.out HQ2.out (by omega) (by omega)).mono ?_; rintro e v6 ⟨a6, c6, a6', c6', rfl, r6, k6⟩; have F6 := hide k6; have J6 := hide (below_on K5.out k6); have zx0 : v6.cell? ⟨w.heap.size, 0, none⟩ = some (.int .i64 ch) := HC.out _ J6.out 0; have zx1 : v6.cell? ⟨w.heap.size, 1, none⟩ = some (.int .i64 xi) := HC.out _ J6.out 1; have zx2 : v6.cell? ⟨w.heap.size, 2, none⟩ = some (.int .i64 xj) := HC.out _ J6.out 2; have zx3 : v6.cell? ⟨w.heap.size, 3, none⟩ = some (.int .i64 xk) := HC.out _ J6.out 3; clear r6 k6) | (go_at_call 28; refine (H1.out _ L4.out).mono ?_; intro e w5 h5; obtain ⟨rfl, q5, k5⟩ := cht_low h5 K4.out HTB.out K4.out.size; have L5 := hide q5; have K5 := hide k5; have zy0 : w5.cell? ⟨w.heap.size, 0, none⟩ = some (.int .i64 ch) := HC.out _ K5.out 0; have zy1 : w5.cell? ⟨w.heap.size, 1, none⟩ = some (.int .i64 xi) := HC.out _ K5.out 1; have zy2 : w5.cell? ⟨w.heap.size, 2, none⟩ = some (.int .i64 xj) := HC.out _ K5.out 2; have zy3 : w5.cell? ⟨w.heap.size, 3, none⟩ = some (.int .i64 xk) := HC.out _ K5.out 3; clear h5 q5 k5) | (go_at_call 21; refine (tnew_any (SlI.row (VRow.later R2.out (Nat.le_refl _) B3.out) HA.out.len (by omega)) (SlI.row R3.out HB.out.len (by omega)) (by omega) (by omega)).mono ?_; rintro e w4 ⟨tb, rfl, q4, htb, k4⟩; have L4 := hide q4; have HTB : Hid (W.heap.size ≤ tb) := (Nat.le_trans K3.out.size htb); have K4 := hide (below_on K3.out k4); have zz0 : w4.cell? ⟨w.heap.size, 0, none⟩ = some (.int .i64 ch) := HC.out _ K4.out 0; have zz1 : w4.cell? ⟨w.heap.size, 1, none⟩ = some (.int .i64 xi) := HC.out _ K4.out 1; have zz2 : w4.cell? ⟨w.heap.size, 2, none⟩ = some (.int .i64 xj) := HC.out _ K4.out 2; have zz3 : w4.cell? ⟨w.heap.size, 3, none⟩ = some (.int .i64 xk) := HC.out _ K4.out 3; clear q4 k4 htb) | (at_builtin; refine app_copy (.tmp 27) (.tmp 28) rfl rfl rfl rfl (PrV.on HB.out.vs (below_on HBW.out K2.out)) HB.out.len HB.out.nz (by omega) ?_; intro a3 c3 w3 r3 k3; have R3 := hide r3; have B3 := hide k3; have K3 := hide (below_on K2.out k3); clear r3 k3) | (at_builtin; have hh := K1.out; clear hh; refine app_copy (.tmp 24) (.tmp 25) rfl rfl rfl rfl (PrV.on HA.out.vs (below_on HBW.out K1.out)) HA.out.len HA.out.nz (by omega) ?_; intro a2 c2 w2 r2 k2; have R2 := hide r2; have B2 := hide k2; have K2 := hide (below_on K1.out k2); clear r2 k2) | (go_at_call 20; rw [← hW]; refine H20.out.mono ?_; rintro e w1 ⟨rfl, k1⟩; have K1 := hide k1; clear k1) | fail)
          go_ret
          exact ⟨rfl, below_on HBW.out J6.out⟩
        | true =>
          by_cases hi : xi = (p : Int)
          · by_cases hj : xj = (q : Int)
            · have y1 : (xi == (p : Int)) = true := by simpa using hi
              have y2 : (xj == (q : Int)) = true := by simpa using hj
              clear hq hp hq2 hi hj
              go_enter Try.func9, Try.ntmps9
              go_wp2_with (first | (go_at_call 23; refine (tvisits_any L5.out HP.out HQ2.out (by omega) (by omega)).mono ?_; rintro e v6 ⟨a6, c6, a6', c6', rfl, r6, k6⟩; have F6 := hide k6; have J6 := hide (below_on K5.out k6); have zx0 : v6.cell? ⟨w.heap.size, 0, none⟩ = some (.int .i64 ch) := HC.out _ J6.out 0; have zx1 : v6.cell? ⟨w.heap.size, 1, none⟩ = some (.int .i64 xi) := HC.out _ J6.out 1; have zx2 : v6.cell? ⟨w.heap.size, 2, none⟩ = some (.int .i64 xj) := HC.out _ J6.out 2; have zx3 : v6.cell? ⟨w.heap.size, 3, none⟩ = some (.int .i64 xk) := HC.out _ J6.out 3; clear r6 k6) | (go_at_call 28; refine (H1.out _ L4.out).mono ?_; intro e w5 h5; obtain ⟨rfl, q5, k5⟩ := cht_low h5 K4.out HTB.out K4.out.size; have L5 := hide q5; have K5 := hide k5; have zy0 : w5.cell? ⟨w.heap.size, 0, none⟩ = some (.int .i64 ch) := HC.out _ K5.out 0; have zy1 : w5.cell? ⟨w.heap.size, 1, none⟩ = some (.int .i64 xi) := HC.out _ K5.out 1; have zy2 : w5.cell? ⟨w.heap.size, 2, none⟩ = some (.int .i64 xj) := HC.out _ K5.out 2; have zy3 : w5.cell? ⟨w.heap.size, 3, none⟩ = some (.int .i64 xk) := HC.out _ K5.out 3; clear h5 q5 k5) | (go_at_call 21; refine (tnew_any (SlI.row (VRow.later R2.out (Nat.le_refl _) B3.out) HA.out.len (by omega)) (SlI.row R3.out HB.out.len (by omega)) (by omega) (by omega)).mono ?_; rintro e w4 ⟨tb, rfl, q4, htb, k4⟩; have L4 := hide q4; have HTB : Hid (W.heap.size ≤ tb) := (Nat.le_trans K3.out.size htb); have K4 := hide (below_on K3.out k4); have zz0 : w4.cell? ⟨w.heap.size, 0, none⟩ = some (.int .i64 ch) := HC.out _ K4.out 0; have zz1 : w4.cell? ⟨w.heap.size, 1, none⟩ = some (.int .i64 xi) := HC.out _ K4.out 1; have zz2 : w4.cell? ⟨w.heap.size, 2, none⟩ = some (.int .i64 xj) := HC.out _ K4.out 2; have zz3 : w4.cell? ⟨w.heap.size, 3, none⟩ = some (.int .i64 xk) := HC.out _ K4.out 3; clear q4 k4 htb) | (at_builtin; refine app_copy (.tmp 27) (.tmp 28) rfl rfl rfl rfl (PrV.on HB.out.vs (below_on HBW.out K2.out)) HB.out.len HB.out.nz (by omega) ?_; intro a3 c3 w3 r3 k3; have R3 := hide r3; have B3 := hide k3; have K3 := hide (below_on K2.out k3); clear r3 k3) | (at_builtin; have hh := K1.out; clear hh; refine app_copy (.tmp 24) (.tmp 25) rfl rfl rfl rfl (PrV.on HA.out.vs (below_on HBW.out K1.out)) HA.out.len HA.out.nz (by omega) ?_; intro a2 c2 w2 r2 k2; have R2 := hide r2; have B2 := hide k2; have K2 := hide (below_on K1.out k2); clear r2 k2) | (go_at_call 20; rw [← hW]; refine H20.out.mono ?_; rintro e w1 ⟨rfl, k1⟩; have K1 := hide k1; clear k1) | fail)
              go_ret
              exact ⟨rfl, below_on HBW.out J6.out⟩
            · have HTB2 : Hid (talM X Y xi xj = (A, B, true)) := tal_back hq (fun h9 => hj (by rw [h9.2, hq2]))
              have y1 : (xi == (p : Int)) = true := by simpa using hi
              have y2 : (xj == (q : Int)) = false := by simpa using hj
              clear hi hj
              have H2 : Hid (∀ {tb : Nat} (W2 : World), TwoV W2 tb X Y → Calls Try.prog 28 #[.pointer (some ⟨tb, 0, none⟩), .int .i64 xi, .int .i64 xj, .int .i64 0] W2 (ChT W2 tb (A, B, true))) := fun {tb} W2 h9 => by
                have h8 := tails_any h9 (by rw [HP.out]; omega) (by rw [HQ2.out]; omega) xi xj 0
                rw [HTB2.out] at h8
                exact h8
              clear hq hp hq2
              go_enter Try.func9, Try.ntmps9
              go_wp2_with (first | (go_at_call 16; have hh := K8.out; clear hh; refine (same_vs (PrV.on RB.out B8.out) (PrV.on HB.out.vs (below_on HBW.out K8.out))).mono ?_; rintro e w9 ⟨rfl, k9⟩; have K9 := hide (below_on K8.out k9); clear k9) | (go_at_call 16; refine (same_vs RA.out (PrV.on HA.out.vs (below_on HBW.out K7.out))).mono ?_; rintro e w8 ⟨rfl, k8⟩; have B8 := hide k8; have K8 := hide (below_on K7.out k8); clear k8) | (go_at_call 23; refine (tvisits_any L6.out HA.out.len HB.out.len (by omega) (by omega)).mono ?_; rintro e w7 ⟨a7, c7, a7', c7', rfl, r7, k7⟩; have RA := hide (vrow_vs r7.1 HA.out.len (by omega)); have RB := hide (vrow_vs r7.2.1 HB.out.len (by omega)); have B7 := hide k7; have K7 := hide (below_on K6.out k7); clear r7 k7) | (go_at_call 28; have hh := J6.out; clear hh; refine (H2.out _ (L5.out.on F6.out)).mono ?_; intro e w6 h6; obtain ⟨rfl, q6, k6⟩ := cht_low h6 J6.out HTB.out J6.out.size; have L6 := hide q6; have K6 := hide k6; have zv0 : w6.cell? ⟨w.heap.size, 0, none⟩ = some (.int .i64 ch) := HC.out _ K6.out 0; have zv1 : w6.cell? ⟨w.heap.size, 1, none⟩ = some (.int .i64 xi) := HC.out _ K6.out 1; have zv2 : w6.cell? ⟨w.heap.size, 2, none⟩ = some (.int .i64 xj) := HC.out _ K6.out 2; have zv3 : w6.cell? ⟨w.heap.size, 3, none⟩ = some (.int .i64 xk) := HC.out _ K6.out 3; clear h6 q6 k6) | (go_at_call 23; refine (tvisits_any L5.out HP.out HQ2.out (by omega) (by omega)).mono ?_; rintro e v6 ⟨a6, c6, a6', c6', rfl, r6, k6⟩; have F6 := hide k6; have J6 := hide (below_on K5.out k6); have zx0 : v6.cell? ⟨w.heap.size, 0, none⟩ = some (.int .i64 ch) := HC.out _ J6.out 0; have zx1 : v6.cell? ⟨w.heap.size, 1, none⟩ = some (.int .i64 xi) := HC.out _ J6.out 1; have zx2 : v6.cell? ⟨w.heap.size, 2, none⟩ = some (.int .i64 xj) := HC.out _ J6.out 2; have zx3 : v6.cell? ⟨w.heap.size, 3, none⟩ = some (.int .i64 xk) := HC.out _ J6.out 3; clear r6 k6) | (go_at_call 28; refine (H1.out _ L4.out).mono ?_; intro e w5 h5; obtain ⟨rfl, q5, k5⟩ := cht_low h5 K4.out HTB.out K4.out.size; have L5 := hide q5; have K5 := hide k5; have zy0 : w5.cell? ⟨w.heap.size, 0, none⟩ = some (.int .i64 ch) := HC.out _ K5.out 0; have zy1 : w5.cell? ⟨w.heap.size, 1, none⟩ = some (.int .i64 xi) := HC.out _ K5.out 1; have zy2 : w5.cell? ⟨w.heap.size, 2, none⟩ = some (.int .i64 xj) := HC.out _ K5.out 2; have zy3 : w5.cell? ⟨w.heap.size, 3, none⟩ = some (.int .i64 xk) := HC.out _ K5.out 3; clear h5 q5 k5) | (go_at_call 21; refine (tnew_any (SlI.row (VRow.later R2.out (Nat.le_refl _) B3.out) HA.out.len (by omega)) (SlI.row R3.out HB.out.len (by omega)) (by omega) (by omega)).mono ?_; rintro e w4 ⟨tb, rfl, q4, htb, k4⟩; have L4 := hide q4; have HTB : Hid (W.heap.size ≤ tb) := (Nat.le_trans K3.out.size htb); have K4 := hide (below_on K3.out k4); have zz0 : w4.cell? ⟨w.heap.size, 0, none⟩ = some (.int .i64 ch) := HC.out _ K4.out 0; have zz1 : w4.cell? ⟨w.heap.size, 1, none⟩ = some (.int .i64 xi) := HC.out _ K4.out 1; have zz2 : w4.cell? ⟨w.heap.size, 2, none⟩ = some (.int .i64 xj) := HC.out _ K4.out 2; have zz3 : w4.cell? ⟨w.heap.size, 3, none⟩ = some (.int .i64 xk) := HC.out _ K4.out 3; clear q4 k4 htb) | (at_builtin; refine app_copy (.tmp 27) (.tmp 28) rfl rfl rfl rfl (PrV.on HB.out.vs (below_on HBW.out K2.out)) HB.out.len HB.out.nz (by omega) ?_; intro a3 c3 w3 r3 k3; have R3 := hide r3; have B3 := hide k3; have K3 := hide (below_on K2.out k3); clear r3 k3) | (at_builtin; have hh := K1.out; clear hh; refine app_copy (.tmp 24) (.tmp 25) rfl rfl rfl rfl (PrV.on HA.out.vs (below_on HBW.out K1.out)) HA.out.len HA.out.nz (by omega) ?_; intro a2 c2 w2 r2 k2; have R2 := hide r2; have B2 := hide k2; have K2 := hide (below_on K1.out k2); clear r2 k2) | (go_at_call 20; rw [← hW]; refine H20.out.mono ?_; rintro e w1 ⟨rfl, k1⟩; have K1 := hide k1; clear k1) | fail)
              go_ret
              exact ⟨rfl, below_on HBW.out K9.out⟩
          · have HTB2 : Hid (talM X Y xi xj = (A, B, true)) := tal_back hq (fun h9 => hi (by rw [h9.1, hp]))
            have y1 : (xi == (p : Int)) = false := by simpa using hi
            clear hi
            have H2 : Hid (∀ {tb : Nat} (W2 : World), TwoV W2 tb X Y → Calls Try.prog 28 #[.pointer (some ⟨tb, 0, none⟩), .int .i64 xi, .int .i64 xj, .int .i64 0] W2 (ChT W2 tb (A, B, true))) := fun {tb} W2 h9 => by
              have h8 := tails_any h9 (by rw [HP.out]; omega) (by rw [HQ2.out]; omega) xi xj 0
              rw [HTB2.out] at h8
              exact h8
            clear hq hp hq2
            go_enter Try.func9, Try.ntmps9
            go_wp2_with (first | (go_at_call 16; have hh := K8.out; clear hh; refine (same_vs (PrV.on RB.out B8.out) (PrV.on HB.out.vs (below_on HBW.out K8.out))).mono ?_; rintro e w9 ⟨rfl, k9⟩; have K9 := hide (below_on K8.out k9); clear k9) | (go_at_call 16; refine (same_vs RA.out (PrV.on HA.out.vs (below_on HBW.out K7.out))).mono ?_; rintro e w8 ⟨rfl, k8⟩; have B8 := hide k8; have K8 := hide (below_on K7.out k8); clear k8) | (go_at_call 23; refine (tvisits_any L6.out HA.out.len HB.out.len (by omega) (by omega)).mono ?_; rintro e w7 ⟨a7, c7, a7', c7', rfl, r7, k7⟩; have RA := hide (vrow_vs r7.1 HA.out.len (by omega)); have RB := hide (vrow_vs r7.2.1 HB.out.len (by omega)); have B7 := hide k7; have K7 := hide (below_on K6.out k7); clear r7 k7) | (go_at_call 28; have hh := J6.out; clear hh; refine (H2.out _ (L5.out.on F6.out)).mono ?_; intro e w6 h6; obtain ⟨rfl, q6, k6⟩ := cht_low h6 J6.out HTB.out J6.out.size; have L6 := hide q6; have K6 := hide k6; have zv0 : w6.cell? ⟨w.heap.size, 0, none⟩ = some (.int .i64 ch) := HC.out _ K6.out 0; have zv1 : w6.cell? ⟨w.heap.size, 1, none⟩ = some (.int .i64 xi) := HC.out _ K6.out 1; have zv2 : w6.cell? ⟨w.heap.size, 2, none⟩ = some (.int .i64 xj) := HC.out _ K6.out 2; have zv3 : w6.cell? ⟨w.heap.size, 3, none⟩ = some (.int .i64 xk) := HC.out _ K6.out 3; clear h6 q6 k6) | (go_at_call 23; refine (tvisits_any L5.out HP.out HQ2.out (by omega) (by omega)).mono ?_; rintro e v6 ⟨a6, c6, a6', c6', rfl, r6, k6⟩; have F6 := hide k6; have J6 := hide (below_on K5.out k6); have zx0 : v6.cell? ⟨w.heap.size, 0, none⟩ = some (.int .i64 ch) := HC.out _ J6.out 0; have zx1 : v6.cell? ⟨w.heap.size, 1, none⟩ = some (.int .i64 xi) := HC.out _ J6.out 1; have zx2 : v6.cell? ⟨w.heap.size, 2, none⟩ = some (.int .i64 xj) := HC.out _ J6.out 2; have zx3 : v6.cell? ⟨w.heap.size, 3, none⟩ = some (.int .i64 xk) := HC.out _ J6.out 3; clear r6 k6) | (go_at_call 28; refine (H1.out _ L4.out).mono ?_; intro e w5 h5; obtain ⟨rfl, q5, k5⟩ := cht_low h5 K4.out HTB.out K4.out.size; have L5 := hide q5; have K5 := hide k5; have zy0 : w5.cell? ⟨w.heap.size, 0, none⟩ = some (.int .i64 ch) := HC.out _ K5.out 0; have zy1 : w5.cell? ⟨w.heap.size, 1, none⟩ = some (.int .i64 xi) := HC.out _ K5.out 1; have zy2 : w5.cell? ⟨w.heap.size, 2, none⟩ = some (.int .i64 xj) := HC.out _ K5.out 2; have zy3 : w5.cell? ⟨w.heap.size, 3, none⟩ = some (.int .i64 xk) := HC.out _ K5.out 3; clear h5 q5 k5) | (go_at_call 21; refine (tnew_any (SlI.row (VRow.later R2.out (Nat.le_refl _) B3.out) HA.out.len (by omega)) (SlI.row R3.out HB.out.len (by omega)) (by omega) (by omega)).mono ?_; rintro e w4 ⟨tb, rfl, q4, htb, k4⟩; have L4 := hide q4; have HTB : Hid (W.heap.size ≤ tb) := (Nat.le_trans K3.out.size htb); have K4 := hide (below_on K3.out k4); have zz0 : w4.cell? ⟨w.heap.size, 0, none⟩ = some (.int .i64 ch) := HC.out _ K4.out 0; have zz1 : w4.cell? ⟨w.heap.size, 1, none⟩ = some (.int .i64 xi) := HC.out _ K4.out 1; have zz2 : w4.cell? ⟨w.heap.size, 2, none⟩ = some (.int .i64 xj) := HC.out _ K4.out 2; have zz3 : w4.cell? ⟨w.heap.size, 3, none⟩ = some (.int .i64 xk) := HC.out _ K4.out 3; clear q4 k4 htb) | (at_builtin; refine app_copy (.tmp 27) (.tmp 28) rfl rfl rfl rfl (PrV.on HB.out.vs (below_on HBW.out K2.out)) HB.out.len HB.out.nz (by omega) ?_; intro a3 c3 w3 r3 k3; have R3 := hide r3; have B3 := hide k3; have K3 := hide (below_on K2.out k3); clear r3 k3) | (at_builtin; have hh := K1.out; clear hh; refine app_copy (.tmp 24) (.tmp 25) rfl rfl rfl rfl (PrV.on HA.out.vs (below_on HBW.out K1.out)) HA.out.len HA.out.nz (by omega) ?_; intro a2 c2 w2 r2 k2; have R2 := hide r2; have B2 := hide k2; have K2 := hide (below_on K1.out k2); clear r2 k2) | (go_at_call 20; rw [← hW]; refine H20.out.mono ?_; rintro e w1 ⟨rfl, k1⟩; have K1 := hide k1; clear k1) | fail)
            go_ret
            exact ⟨rfl, below_on HBW.out K9.out⟩
end Go.Proofs.Ytdnkmjafkpnliaa
