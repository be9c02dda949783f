/-
  What the law InterSizes does.
-/
import Derived.Test.YtdnkmjafkpnliaaPlS
import Derived.Deep.RegionHeld3
namespace Go.Proofs.Ytdnkmjafkpnliaa
open Go.RowKit

theorem umod6 (ch : Int) : ∃ r : Nat, Int.tmod (IntKind.u64.wrap ch) 6 = r ∧ r < 6 := by
  obtain ⟨r, hr, hl⟩ := umod_nat ch 5 (by omega)
  exact ⟨r, by simpa using hr, by omega⟩
set_option maxRecDepth 100000 in
set_option maxHeartbeats 12800000 in
theorem sizes_any {w : World} {m vc n vd : Nat} {va vb : Option Addr} {A B : List Vst} (hA : SlI w va m vc A) (hB : SlI w vb n vd B) (ch xi xj xk : Int) : Calls Try.prog 11 #[.slice va m vc, .slice vb n vd, .agg #[.int .i64 ch, .int .i64 xi, .int .i64 xj, .int .i64 xk]] w fun e w' => e = .returned (.bool true) ∧ Below w.heap.size w w' := by
  have HA := hide hA
  have HB := hide hB
  have hmb : m * 16 ≤ 140737488351232 := by obtain ⟨_, _, e, hb, _⟩ := hA.vs; rw [← hA.len]; exact hb
  have hnb : n * 16 ≤ 140737488351232 := by obtain ⟨_, _, e, hb, _⟩ := hB.vs; rw [← hB.len]; exact hb
  clear hA hB
  obtain ⟨W, hW⟩ : ∃ W, W = w.alloc (.cells #[.int .i64 ch, .int .i64 xi, .int .i64 xj, .int .i64 xk] 41) := ⟨_, rfl⟩
  have HBW : Hid (Below w.heap.size w W) := by rw [hW]; exact (Below.refl _ _).alloc (Nat.le_refl _) _
  have HWS : Hid (W.heap.size = w.heap.size + 1) := by show _ = _; rw [hW]; simp
  have HC : Hid (∀ W2, Below W.heap.size W W2 → ∀ j, W2.cell? ⟨w.heap.size, j, none⟩ = (#[.int .i64 ch, .int .i64 xi, .int .i64 xj, .int .i64 xk] : Array Value)[j]?) := fun W2 hf j => by
    have e9 : W.heap[w.heap.size]? = some (.cells #[.int .i64 ch, .int .i64 xi, .int .i64 xj, .int .i64 xk] 41) := by rw [hW]; exact heap_alloc_new _ _
    exact cell_of_row _ _ _ _ _ _ ((hf.block _ (by rw [HWS.out]; omega)).trans e9)
  have H20 : Hid (Calls Try.prog 20 #[] W fun e w' => e = .returned (.bool true) ∧ Below W.heap.size W w') := tawake_any W
  by_cases hl1 : m > 60
  · have z1 : (60 : Int) < (m : Int) := by omega
    have z2 : (m : Int) > 60 := by omega
    go_enter Try.func11, Try.ntmps11
    go_wp2_with (first | (go_at_call 20; rw [← hW]; refine H20.out.mono ?_; rintro e w1 ⟨rfl, k1⟩; have K1 := hide k1; clear k1) | fail)
    go_ret
    exact ⟨rfl, below_on HBW.out K1.out⟩
  · have z1 : ¬ (60 : Int) < (m : Int) := by omega
    have z2 : ¬ (m : Int) > 60 := by omega
    by_cases hl2 : n > 60
    · have z3 : (60 : Int) < (n : Int) := by omega
      have z4 : (n : Int) > 60 := by omega
      go_enter Try.func11, Try.ntmps11
      go_wp2_with (first | (go_at_call 20; rw [← hW]; refine H20.out.mono ?_; rintro e w1 ⟨rfl, k1⟩; have K1 := hide k1; clear k1) | fail)
      go_ret
      exact ⟨rfl, below_on HBW.out K1.out⟩
    · have z3 : ¬ (60 : Int) < (n : Int) := by omega
      have z4 : ¬ (n : Int) > 60 := by omega
      obtain ⟨r, hr, hr6⟩ := umod6 ch
      have hrw : IntKind.i64.wrap (r : Int) = (r : Int) := by rw [IntKind.wrap_i64]; omega
      obtain ⟨⟨X, Y, ok⟩, hq⟩ : ∃ q, interM A B r xi xj xk = q := ⟨_, rfl⟩
      have HQ := hide hq
      have hlen := inter_len hr6 hq
      rw [HA.out.len, HB.out.len] at hlen
      obtain ⟨p, hp⟩ : ∃ p, X.length = p := ⟨_, rfl⟩
      obtain ⟨q, hq2⟩ : ∃ q, Y.length = q := ⟨_, rfl⟩
      have HP := hide hp
      have HQ2 := hide hq2
      rw [hp, hq2] at hlen
      have y0 : IntKind.i64.wrap ((p : Int) + (q : Int)) = (m : Int) + (n : Int) := by rw [IntKind.wrap_i64]; omega
      have y00 : IntKind.i64.wrap ((m : Int) + (n : Int)) = (m : Int) + (n : Int) := by rw [IntKind.wrap_i64]; omega
      have ye : ((m : Int) + (n : Int) != (m : Int) + (n : Int)) = false := by simp
      have hpl : p ≤ 120 := by omega
      have hql : q ≤ 120 := by omega
      have H22 : Hid (∀ {tb : Nat} (W2 : World), TwoV W2 tb A B → Calls Try.prog 22 #[.pointer (some ⟨tb, 0, none⟩), .int .i64 (r : Int), .int .i64 xi, .int .i64 xj, .int .i64 xk] W2 (ChT W2 tb (X, Y, ok))) := fun {tb} W2 h9 => by
        have h8 := tplay_any h9 (by rw [HA.out.len]; omega) (by rw [HB.out.len]; omega) r hr6 xi xj xk
        rw [HQ.out] at h8
        exact h8
      cases ok with
      | false =>
        obtain ⟨e1, e2⟩ := inter_no hr6 hq
        have hpm : p = m := by rw [← hp, e1, HA.out.len]
        have yp : ((p : Int) == (m : Int)) = true := by simp; omega
        clear hq e1 e2 hp hq2
        have hqn : q = n := by omega
        subst hpm hqn
        clear hlen
        go_enter Try.func11, Try.ntmps11
        go_wp2_with (first | (go_at_call 23; refine (tvisits_any L5.out HP.out HQ2.out (by omega) (by omega)).mono ?_; rintro e w6 ⟨a6, c6, a6', c6', rfl, r6, k6⟩; have K6 := hide (below_on K5.out k6); have zx0 : w6.cell? ⟨w.heap.size, 0, none⟩ = some (.int .i64 ch) := HC.out _ K6.out 0; have zx1 : w6.cell? ⟨w.heap.size, 1, none⟩ = some (.int .i64 xi) := HC.out _ K6.out 1; have zx2 : w6.cell? ⟨w.heap.size, 2, none⟩ = some (.int .i64 xj) := HC.out _ K6.out 2; have zx3 : w6.cell? ⟨w.heap.size, 3, none⟩ = some (.int .i64 xk) := HC.out _ K6.out 3; clear r6 k6) | (go_at_call 22; refine (H22.out _ L4.out).mono ?_; intro e w5 h5; obtain ⟨rfl, q5, k5⟩ := cht_low h5 K4.out HTB.out K4.out.size; have L5 := hide q5; have K5 := hide k5; have zy0 : w5.cell? ⟨w.heap.size, 0, none⟩ = some (.int .i64 ch) := HC.out _ K5.out 0; have zy1 : w5.cell? ⟨w.heap.size, 1, none⟩ = some (.int .i64 xi) := HC.out _ K5.out 1; have zy2 : w5.cell? ⟨w.heap.size, 2, none⟩ = some (.int .i64 xj) := HC.out _ K5.out 2; have zy3 : w5.cell? ⟨w.heap.size, 3, none⟩ = some (.int .i64 xk) := HC.out _ K5.out 3; clear h5 q5 k5) | (go_at_call 21; refine (tnew_any (SlI.row (VRow.later R2.out (Nat.le_refl _) B3.out) HA.out.len (by omega)) (SlI.row R3.out HB.out.len (by omega)) (by omega) (by omega)).mono ?_; rintro e w4 ⟨tb, rfl, q4, htb, k4⟩; have L4 := hide q4; have HTB : Hid (W.heap.size ≤ tb) := (Nat.le_trans K3.out.size htb); have K4 := hide (below_on K3.out k4); have zz0 : w4.cell? ⟨w.heap.size, 0, none⟩ = some (.int .i64 ch) := HC.out _ K4.out 0; have zz1 : w4.cell? ⟨w.heap.size, 1, none⟩ = some (.int .i64 xi) := HC.out _ K4.out 1; have zz2 : w4.cell? ⟨w.heap.size, 2, none⟩ = some (.int .i64 xj) := HC.out _ K4.out 2; have zz3 : w4.cell? ⟨w.heap.size, 3, none⟩ = some (.int .i64 xk) := HC.out _ K4.out 3; clear q4 k4 htb) | (at_builtin; refine app_copy (.tmp 25) (.tmp 26) rfl rfl rfl rfl (PrV.on HB.out.vs (below_on HBW.out K2.out)) HB.out.len HB.out.nz (by omega) ?_; intro a3 c3 w3 r3 k3; have R3 := hide r3; have B3 := hide k3; have K3 := hide (below_on K2.out k3); clear r3 k3) | (at_builtin; have hh := K1.out; clear hh; refine app_copy (.tmp 22) (.tmp 23) rfl rfl rfl rfl (PrV.on HA.out.vs (below_on HBW.out K1.out)) HA.out.len HA.out.nz (by omega) ?_; intro a2 c2 w2 r2 k2; have R2 := hide r2; have B2 := hide k2; have K2 := hide (below_on K1.out k2); clear r2 k2) | (go_at_call 20; rw [← hW]; refine H20.out.mono ?_; rintro e w1 ⟨rfl, k1⟩; have K1 := hide k1; clear k1) | fail)
        go_ret
        exact ⟨rfl, below_on HBW.out K6.out⟩
      | true =>
        rcases (show r = 0 ∨ r = 1 ∨ r = 2 ∨ r = 3 ∨ r = 4 ∨ r = 5 by omega) with rfl | rfl | rfl | rfl | rfl | rfl
        · clear hq hp hq2 hlen
          go_enter Try.func11, Try.ntmps11
          go_wp2_with (first | (go_at_call 23; refine (tvisits_any L5.out HP.out HQ2.out (by omega) (by omega)).mono ?_; rintro e w6 ⟨a6, c6, a6', c6', rfl, r6, k6⟩; have K6 := hide (below_on K5.out k6); have zx0 : w6.cell? ⟨w.heap.size, 0, none⟩ = some (.int .i64 ch) := HC.out _ K6.out 0; have zx1 : w6.cell? ⟨w.heap.size, 1, none⟩ = some (.int .i64 xi) := HC.out _ K6.out 1; have zx2 : w6.cell? ⟨w.heap.size, 2, none⟩ = some (.int .i64 xj) := HC.out _ K6.out 2; have zx3 : w6.cell? ⟨w.heap.size, 3, none⟩ = some (.int .i64 xk) := HC.out _ K6.out 3; clear r6 k6) | (go_at_call 22; refine (H22.out _ L4.out).mono ?_; intro e w5 h5; obtain ⟨rfl, q5, k5⟩ := cht_low h5 K4.out HTB.out K4.out.size; have L5 := hide q5; have K5 := hide k5; have zy0 : w5.cell? ⟨w.heap.size, 0, none⟩ = some (.int .i64 ch) := HC.out _ K5.out 0; have zy1 : w5.cell? ⟨w.heap.size, 1, none⟩ = some (.int .i64 xi) := HC.out _ K5.out 1; have zy2 : w5.cell? ⟨w.heap.size, 2, none⟩ = some (.int .i64 xj) := HC.out _ K5.out 2; have zy3 : w5.cell? ⟨w.heap.size, 3, none⟩ = some (.int .i64 xk) := HC.out _ K5.out 3; clear h5 q5 k5) | (go_at_call 21; refine (tnew_any (SlI.row (VRow.later R2.out (Nat.le_refl _) B3.out) HA.out.len (by omega)) (SlI.row R3.out HB.out.len (by omega)) (by omega) (by omega)).mono ?_; rintro e w4 ⟨tb, rfl, q4, htb, k4⟩; have L4 := hide q4; have HTB : Hid (W.heap.size ≤ tb) := (Nat.le_trans K3.out.size htb); have K4 := hide (below_on K3.out k4); have zz0 : w4.cell? ⟨w.heap.size, 0, none⟩ = some (.int .i64 ch) := HC.out _ K4.out 0; have zz1 : w4.cell? ⟨w.heap.size, 1, none⟩ = some (.int .i64 xi) := HC.out _ K4.out 1; have zz2 : w4.cell? ⟨w.heap.size, 2, none⟩ = some (.int .i64 xj) := HC.out _ K4.out 2; have zz3 : w4.cell? ⟨w.heap.size, 3, none⟩ = some (.int .i64 xk) := HC.out _ K4.out 3; clear q4 k4 htb) | (at_builtin; refine app_copy (.tmp 25) (.tmp 26) rfl rfl rfl rfl (PrV.on HB.out.vs (below_on HBW.out K2.out)) HB.out.len HB.out.nz (by omega) ?_; intro a3 c3 w3 r3 k3; have R3 := hide r3; have B3 := hide k3; have K3 := hide (below_on K2.out k3); clear r3 k3) | (at_builtin; have hh := K1.out; clear hh; refine app_copy (.tmp 22) (.tmp 23) rfl rfl rfl rfl (PrV.on HA.out.vs (below_on HBW.out K1.out)) HA.out.len HA.out.nz (by omega) ?_; intro a2 c2 w2 r2 k2; have R2 := hide r2; have B2 := hide k2; have K2 := hide (below_on K1.out k2); clear r2 k2) | (go_at_call 20; rw [← hW]; refine H20.out.mono ?_; rintro e w1 ⟨rfl, k1⟩; have K1 := hide k1; clear k1) | fail)
          go_ret
          exact ⟨rfl, below_on HBW.out K6.out⟩
        · have h1 := trd_len A B xi xj 1
          rw [show trdM A B xi xj ((1 : Nat) : Int) = (X, Y, true) from hq] at h1
          simp only at h1
          have hpm : p = m := by rw [← hp, h1.1, HA.out.len]
          have hqn : q = n := by omega
          clear hq hp hq2 h1
          subst hpm hqn
          clear hlen
          go_enter Try.func11, Try.ntmps11
          go_wp2_with (first | (go_at_call 23; refine (tvisits_any L5.out HP.out HQ2.out (by omega) (by omega)).mono ?_; rintro e w6 ⟨a6, c6, a6', c6', rfl, r6, k6⟩; have K6 := hide (below_on K5.out k6); have zx0 : w6.cell? ⟨w.heap.size, 0, none⟩ = some (.int .i64 ch) := HC.out _ K6.out 0; have zx1 : w6.cell? ⟨w.heap.size, 1, none⟩ = some (.int .i64 xi) := HC.out _ K6.out 1; have zx2 : w6.cell? ⟨w.heap.size, 2, none⟩ = some (.int .i64 xj) := HC.out _ K6.out 2; have zx3 : w6.cell? ⟨w.heap.size, 3, none⟩ = some (.int .i64 xk) := HC.out _ K6.out 3; clear r6 k6) | (go_at_call 22; refine (H22.out _ L4.out).mono ?_; intro e w5 h5; obtain ⟨rfl, q5, k5⟩ := cht_low h5 K4.out HTB.out K4.out.size; have L5 := hide q5; have K5 := hide k5; have zy0 : w5.cell? ⟨w.heap.size, 0, none⟩ = some (.int .i64 ch) := HC.out _ K5.out 0; have zy1 : w5.cell? ⟨w.heap.size, 1, none⟩ = some (.int .i64 xi) := HC.out _ K5.out 1; have zy2 : w5.cell? ⟨w.heap.size, 2, none⟩ = some (.int .i64 xj) := HC.out _ K5.out 2; have zy3 : w5.cell? ⟨w.heap.size, 3, none⟩ = some (.int .i64 xk) := HC.out _ K5.out 3; clear h5 q5 k5) | (go_at_call 21; refine (tnew_any (SlI.row (VRow.later R2.out (Nat.le_refl _) B3.out) HA.out.len (by omega)) (SlI.row R3.out HB.out.len (by omega)) (by omega) (by omega)).mono ?_; rintro e w4 ⟨tb, rfl, q4, htb, k4⟩; have L4 := hide q4; have HTB : Hid (W.heap.size ≤ tb) := (Nat.le_trans K3.out.size htb); have K4 := hide (below_on K3.out k4); have zz0 : w4.cell? ⟨w.heap.size, 0, none⟩ = some (.int .i64 ch) := HC.out _ K4.out 0; have zz1 : w4.cell? ⟨w.heap.size, 1, none⟩ = some (.int .i64 xi) := HC.out _ K4.out 1; have zz2 : w4.cell? ⟨w.heap.size, 2, none⟩ = some (.int .i64 xj) := HC.out _ K4.out 2; have zz3 : w4.cell? ⟨w.heap.size, 3, none⟩ = some (.int .i64 xk) := HC.out _ K4.out 3; clear q4 k4 htb) | (at_builtin; refine app_copy (.tmp 25) (.tmp 26) rfl rfl rfl rfl (PrV.on HB.out.vs (below_on HBW.out K2.out)) HB.out.len HB.out.nz (by omega) ?_; intro a3 c3 w3 r3 k3; have R3 := hide r3; have B3 := hide k3; have K3 := hide (below_on K2.out k3); clear r3 k3) | (at_builtin; have hh := K1.out; clear hh; refine app_copy (.tmp 22) (.tmp 23) rfl rfl rfl rfl (PrV.on HA.out.vs (below_on HBW.out K1.out)) HA.out.len HA.out.nz (by omega) ?_; intro a2 c2 w2 r2 k2; have R2 := hide r2; have B2 := hide k2; have K2 := hide (below_on K1.out k2); clear r2 k2) | (go_at_call 20; rw [← hW]; refine H20.out.mono ?_; rintro e w1 ⟨rfl, k1⟩; have K1 := hide k1; clear k1) | fail)
          go_ret
          exact ⟨rfl, below_on HBW.out K6.out⟩
        · have h1 := trd_len A B xi xj 2
          rw [show trdM A B xi xj ((2 : Nat) : Int) = (X, Y, true) from hq] at h1
          simp only at h1
          have hpm : p = m := by rw [← hp, h1.1, HA.out.len]
          have hqn : q = n := by omega
          clear hq hp hq2 h1
          subst hpm hqn
          clear hlen
          go_enter Try.func11, Try.ntmps11
          go_wp2_with (first | (go_at_call 23; refine (tvisits_any L5.out HP.out HQ2.out (by omega) (by omega)).mono ?_; rintro e w6 ⟨a6, c6, a6', c6', rfl, r6, k6⟩; have K6 := hide (below_on K5.out k6); have zx0 : w6.cell? ⟨w.heap.size, 0, none⟩ = some (.int .i64 ch) := HC.out _ K6.out 0; have zx1 : w6.cell? ⟨w.heap.size, 1, none⟩ = some (.int .i64 xi) := HC.out _ K6.out 1; have zx2 : w6.cell? ⟨w.heap.size, 2, none⟩ = some (.int .i64 xj) := HC.out _ K6.out 2; have zx3 : w6.cell? ⟨w.heap.size, 3, none⟩ = some (.int .i64 xk) := HC.out _ K6.out 3; clear r6 k6) | (go_at_call 22; refine (H22.out _ L4.out).mono ?_; intro e w5 h5; obtain ⟨rfl, q5, k5⟩ := cht_low h5 K4.out HTB.out K4.out.size; have L5 := hide q5; have K5 := hide k5; have zy0 : w5.cell? ⟨w.heap.size, 0, none⟩ = some (.int .i64 ch) := HC.out _ K5.out 0; have zy1 : w5.cell? ⟨w.heap.size, 1, none⟩ = some (.int .i64 xi) := HC.out _ K5.out 1; have zy2 : w5.cell? ⟨w.heap.size, 2, none⟩ = some (.int .i64 xj) := HC.out _ K5.out 2; have zy3 : w5.cell? ⟨w.heap.size, 3, none⟩ = some (.int .i64 xk) := HC.out _ K5.out 3; clear h5 q5 k5) | (go_at_call 21; refine (tnew_any (SlI.row (VRow.later R2.out (Nat.le_refl _) B3.out) HA.out.len (by omega)) (SlI.row R3.out HB.out.len (by omega)) (by omega) (by omega)).mono ?_; rintro e w4 ⟨tb, rfl, q4, htb, k4⟩; have L4 := hide q4; have HTB : Hid (W.heap.size ≤ tb) := (Nat.le_trans K3.out.size htb); have K4 := hide (below_on K3.out k4); have zz0 : w4.cell? ⟨w.heap.size, 0, none⟩ = some (.int .i64 ch) := HC.out _ K4.out 0; have zz1 : w4.cell? ⟨w.heap.size, 1, none⟩ = some (.int .i64 xi) := HC.out _ K4.out 1; have zz2 : w4.cell? ⟨w.heap.size, 2, none⟩ = some (.int .i64 xj) := HC.out _ K4.out 2; have zz3 : w4.cell? ⟨w.heap.size, 3, none⟩ = some (.int .i64 xk) := HC.out _ K4.out 3; clear q4 k4 htb) | (at_builtin; refine app_copy (.tmp 25) (.tmp 26) rfl rfl rfl rfl (PrV.on HB.out.vs (below_on HBW.out K2.out)) HB.out.len HB.out.nz (by omega) ?_; intro a3 c3 w3 r3 k3; have R3 := hide r3; have B3 := hide k3; have K3 := hide (below_on K2.out k3); clear r3 k3) | (at_builtin; have hh := K1.out; clear hh; refine app_copy (.tmp 22) (.tmp 23) rfl rfl rfl rfl (PrV.on HA.out.vs (below_on HBW.out K1.out)) HA.out.len HA.out.nz (by omega) ?_; intro a2 c2 w2 r2 k2; have R2 := hide r2; have B2 := hide k2; have K2 := hide (below_on K1.out k2); clear r2 k2) | (go_at_call 20; rw [← hW]; refine H20.out.mono ?_; rintro e w1 ⟨rfl, k1⟩; have K1 := hide k1; clear k1) | fail)
          go_ret
          exact ⟨rfl, below_on HBW.out K6.out⟩
        · obtain ⟨a, b, ha, hb, h1, h2, e1, e2⟩ := tal_yes hq
          have h3 : p + b = a + n := by rw [← hp, e1, List.length_append, List.length_take, List.length_drop]; rw [HA.out.len] at h1; rw [HB.out.len] at h2; rw [HA.out.len, HB.out.len]; omega
          rw [HA.out.len] at h1
          rw [HB.out.len] at h2
          have u1 : IntKind.i64.wrap (xi + (n : Int)) = xi + (n : Int) := by rw [IntKind.wrap_i64]; omega
          have u2 : IntKind.i64.wrap (xi + (n : Int) - xj) = (p : Int) := by rw [IntKind.wrap_i64]; omega
          clear hq hp hq2 e1 e2 h1 h2 h3 hlen ha hb
          go_enter Try.func11, Try.ntmps11
          go_wp2_with (first | (go_at_call 23; refine (tvisits_any L5.out HP.out HQ2.out (by omega) (by omega)).mono ?_; rintro e w6 ⟨a6, c6, a6', c6', rfl, r6, k6⟩; have K6 := hide (below_on K5.out k6); have zx0 : w6.cell? ⟨w.heap.size, 0, none⟩ = some (.int .i64 ch) := HC.out _ K6.out 0; have zx1 : w6.cell? ⟨w.heap.size, 1, none⟩ = some (.int .i64 xi) := HC.out _ K6.out 1; have zx2 : w6.cell? ⟨w.heap.size, 2, none⟩ = some (.int .i64 xj) := HC.out _ K6.out 2; have zx3 : w6.cell? ⟨w.heap.size, 3, none⟩ = some (.int .i64 xk) := HC.out _ K6.out 3; clear r6 k6) | (go_at_call 22; refine (H22.out _ L4.out).mono ?_; intro e w5 h5; obtain ⟨rfl, q5, k5⟩ := cht_low h5 K4.out HTB.out K4.out.size; have L5 := hide q5; have K5 := hide k5; have zy0 : w5.cell? ⟨w.heap.size, 0, none⟩ = some (.int .i64 ch) := HC.out _ K5.out 0; have zy1 : w5.cell? ⟨w.heap.size, 1, none⟩ = some (.int .i64 xi) := HC.out _ K5.out 1; have zy2 : w5.cell? ⟨w.heap.size, 2, none⟩ = some (.int .i64 xj) := HC.out _ K5.out 2; have zy3 : w5.cell? ⟨w.heap.size, 3, none⟩ = some (.int .i64 xk) := HC.out _ K5.out 3; clear h5 q5 k5) | (go_at_call 21; refine (tnew_any (SlI.row (VRow.later R2.out (Nat.le_refl _) B3.out) HA.out.len (by omega)) (SlI.row R3.out HB.out.len (by omega)) (by omega) (by omega)).mono ?_; rintro e w4 ⟨tb, rfl, q4, htb, k4⟩; have L4 := hide q4; have HTB : Hid (W.heap.size ≤ tb) := (Nat.le_trans K3.out.size htb); have K4 := hide (below_on K3.out k4); have zz0 : w4.cell? ⟨w.heap.size, 0, none⟩ = some (.int .i64 ch) := HC.out _ K4.out 0; have zz1 : w4.cell? ⟨w.heap.size, 1, none⟩ = some (.int .i64 xi) := HC.out _ K4.out 1; have zz2 : w4.cell? ⟨w.heap.size, 2, none⟩ = some (.int .i64 xj) := HC.out _ K4.out 2; have zz3 : w4.cell? ⟨w.heap.size, 3, none⟩ = some (.int .i64 xk) := HC.out _ K4.out 3; clear q4 k4 htb) | (at_builtin; refine app_copy (.tmp 25) (.tmp 26) rfl rfl rfl rfl (PrV.on HB.out.vs (below_on HBW.out K2.out)) HB.out.len HB.out.nz (by omega) ?_; intro a3 c3 w3 r3 k3; have R3 := hide r3; have B3 := hide k3; have K3 := hide (below_on K2.out k3); clear r3 k3) | (at_builtin; have hh := K1.out; clear hh; refine app_copy (.tmp 22) (.tmp 23) rfl rfl rfl rfl (PrV.on HA.out.vs (below_on HBW.out K1.out)) HA.out.len HA.out.nz (by omega) ?_; intro a2 c2 w2 r2 k2; have R2 := hide r2; have B2 := hide k2; have K2 := hide (below_on K1.out k2); clear r2 k2) | (go_at_call 20; rw [← hW]; refine H20.out.mono ?_; rintro e w1 ⟨rfl, k1⟩; have K1 := hide k1; clear k1) | fail)
          go_ret
          exact ⟨rfl, below_on HBW.out K6.out⟩
        · obtain ⟨a, b, ha, hb, h1, h2, e1, e2⟩ := trn_yes hq
          have h3 : p = a + b := by rw [← hp, e1, List.length_append, List.length_take, List.length_reverse, List.length_take]; omega
          have u1 : IntKind.i64.wrap (xi + xj) = (p : Int) := by rw [IntKind.wrap_i64]; omega
          clear hq hp hq2 e1 e2 h1 h2 h3 hlen ha hb
          go_enter Try.func11, Try.ntmps11
          go_wp2_with (first | (go_at_call 23; refine (tvisits_any L5.out HP.out HQ2.out (by omega) (by omega)).mono ?_; rintro e w6 ⟨a6, c6, a6', c6', rfl, r6, k6⟩; have K6 := hide (below_on K5.out k6); have zx0 : w6.cell? ⟨w.heap.size, 0, none⟩ = some (.int .i64 ch) := HC.out _ K6.out 0; have zx1 : w6.cell? ⟨w.heap.size, 1, none⟩ = some (.int .i64 xi) := HC.out _ K6.out 1; have zx2 : w6.cell? ⟨w.heap.size, 2, none⟩ = some (.int .i64 xj) := HC.out _ K6.out 2; have zx3 : w6.cell? ⟨w.heap.size, 3, none⟩ = some (.int .i64 xk) := HC.out _ K6.out 3; clear r6 k6) | (go_at_call 22; refine (H22.out _ L4.out).mono ?_; intro e w5 h5; obtain ⟨rfl, q5, k5⟩ := cht_low h5 K4.out HTB.out K4.out.size; have L5 := hide q5; have K5 := hide k5; have zy0 : w5.cell? ⟨w.heap.size, 0, none⟩ = some (.int .i64 ch) := HC.out _ K5.out 0; have zy1 : w5.cell? ⟨w.heap.size, 1, none⟩ = some (.int .i64 xi) := HC.out _ K5.out 1; have zy2 : w5.cell? ⟨w.heap.size, 2, none⟩ = some (.int .i64 xj) := HC.out _ K5.out 2; have zy3 : w5.cell? ⟨w.heap.size, 3, none⟩ = some (.int .i64 xk) := HC.out _ K5.out 3; clear h5 q5 k5) | (go_at_call 21; refine (tnew_any (SlI.row (VRow.later R2.out (Nat.le_refl _) B3.out) HA.out.len (by omega)) (SlI.row R3.out HB.out.len (by omega)) (by omega) (by omega)).mono ?_; rintro e w4 ⟨tb, rfl, q4, htb, k4⟩; have L4 := hide q4; have HTB : Hid (W.heap.size ≤ tb) := (Nat.le_trans K3.out.size htb); have K4 := hide (below_on K3.out k4); have zz0 : w4.cell? ⟨w.heap.size, 0, none⟩ = some (.int .i64 ch) := HC.out _ K4.out 0; have zz1 : w4.cell? ⟨w.heap.size, 1, none⟩ = some (.int .i64 xi) := HC.out _ K4.out 1; have zz2 : w4.cell? ⟨w.heap.size, 2, none⟩ = some (.int .i64 xj) := HC.out _ K4.out 2; have zz3 : w4.cell? ⟨w.heap.size, 3, none⟩ = some (.int .i64 xk) := HC.out _ K4.out 3; clear q4 k4 htb) | (at_builtin; refine app_copy (.tmp 25) (.tmp 26) rfl rfl rfl rfl (PrV.on HB.out.vs (below_on HBW.out K2.out)) HB.out.len HB.out.nz (by omega) ?_; intro a3 c3 w3 r3 k3; have R3 := hide r3; have B3 := hide k3; have K3 := hide (below_on K2.out k3); clear r3 k3) | (at_builtin; have hh := K1.out; clear hh; refine app_copy (.tmp 22) (.tmp 23) rfl rfl rfl rfl (PrV.on HA.out.vs (below_on HBW.out K1.out)) HA.out.len HA.out.nz (by omega) ?_; intro a2 c2 w2 r2 k2; have R2 := hide r2; have B2 := hide k2; have K2 := hide (below_on K1.out k2); clear r2 k2) | (go_at_call 20; rw [← hW]; refine H20.out.mono ?_; rintro e w1 ⟨rfl, k1⟩; have K1 := hide k1; clear k1) | fail)
          go_ret
          exact ⟨rfl, below_on HBW.out K6.out⟩
        · clear hq hp hq2 hlen
          go_enter Try.func11, Try.ntmps11
          go_wp2_with (first | (go_at_call 23; refine (tvisits_any L5.out HP.out HQ2.out (by omega) (by omega)).mono ?_; rintro e w6 ⟨a6, c6, a6', c6', rfl, r6, k6⟩; have K6 := hide (below_on K5.out k6); have zx0 : w6.cell? ⟨w.heap.size, 0, none⟩ = some (.int .i64 ch) := HC.out _ K6.out 0; have zx1 : w6.cell? ⟨w.heap.size, 1, none⟩ = some (.int .i64 xi) := HC.out _ K6.out 1; have zx2 : w6.cell? ⟨w.heap.size, 2, none⟩ = some (.int .i64 xj) := HC.out _ K6.out 2; have zx3 : w6.cell? ⟨w.heap.size, 3, none⟩ = some (.int .i64 xk) := HC.out _ K6.out 3; clear r6 k6) | (go_at_call 22; refine (H22.out _ L4.out).mono ?_; intro e w5 h5; obtain ⟨rfl, q5, k5⟩ := cht_low h5 K4.out HTB.out K4.out.size; have L5 := hide q5; have K5 := hide k5; have zy0 : w5.cell? ⟨w.heap.size, 0, none⟩ = some (.int .i64 ch) := HC.out _ K5.out 0; have zy1 : w5.cell? ⟨w.heap.size, 1, none⟩ = some (.int .i64 xi) := HC.out _ K5.out 1; have zy2 : w5.cell? ⟨w.heap.size, 2, none⟩ = some (.int .i64 xj) := HC.out _ K5.out 2; have zy3 : w5.cell? ⟨w.heap.size, 3, none⟩ = some (.int .i64 xk) := HC.out _ K5.out 3; clear h5 q5 k5) | (go_at_call 21; refine (tnew_any (SlI.row (VRow.later R2.out (Nat.le_refl _) B3.out) HA.out.len (by omega)) (SlI.row R3.out HB.out.len (by omega)) (by omega) (by omega)).mono ?_; rintro e w4 ⟨tb, rfl, q4, htb, k4⟩; have L4 := hide q4; have HTB : Hid (W.heap.size ≤ tb) := (Nat.le_trans K3.out.size htb); have K4 := hide (below_on K3.out k4); have zz0 : w4.cell? ⟨w.heap.size, 0, none⟩ = some (.int .i64 ch) := HC.out _ K4.out 0; have zz1 : w4.cell? ⟨w.heap.size, 1, none⟩ = some (.int .i64 xi) := HC.out _ K4.out 1; have zz2 : w4.cell? ⟨w.heap.size, 2, none⟩ = some (.int .i64 xj) := HC.out _ K4.out 2; have zz3 : w4.cell? ⟨w.heap.size, 3, none⟩ = some (.int .i64 xk) := HC.out _ K4.out 3; clear q4 k4 htb) | (at_builtin; refine app_copy (.tmp 25) (.tmp 26) rfl rfl rfl rfl (PrV.on HB.out.vs (below_on HBW.out K2.out)) HB.out.len HB.out.nz (by omega) ?_; intro a3 c3 w3 r3 k3; have R3 := hide r3; have B3 := hide k3; have K3 := hide (below_on K2.out k3); clear r3 k3) | (at_builtin; have hh := K1.out; clear hh; refine app_copy (.tmp 22) (.tmp 23) rfl rfl rfl rfl (PrV.on HA.out.vs (below_on HBW.out K1.out)) HA.out.len HA.out.nz (by omega) ?_; intro a2 c2 w2 r2 k2; have R2 := hide r2; have B2 := hide k2; have K2 := hide (below_on K1.out k2); clear r2 k2) | (go_at_call 20; rw [← hW]; refine H20.out.mono ?_; rintro e w1 ⟨rfl, k1⟩; have K1 := hide k1; clear k1) | fail)
          go_ret
          exact ⟨rfl, below_on HBW.out K6.out⟩
end Go.Proofs.Ytdnkmjafkpnliaa
