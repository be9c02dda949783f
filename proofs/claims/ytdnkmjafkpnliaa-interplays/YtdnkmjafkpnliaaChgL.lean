/-
  What the document's Inter answers; what the law InterChanges does.
-/
import Derived.Test.YtdnkmjafkpnliaaDvG
import Derived.Test.YtdnkmjafkpnliaaDvH
import Derived.Test.YtdnkmjafkpnliaaSizL
namespace Go.Proofs.Ytdnkmjafkpnliaa
open Go.RowKit

theorem rinter_any {w : World} {va vb : Option Addr} {m vc n vd : Nat} {A B : List Vst} (hA : SlI w va m vc A) (hB : SlI w vb n vd B) (hm : m ≤ 400) (hn : n ≤ 400) (c : Nat) (hc : c < 6) (i j k : Int) : Calls Try.prog 24 #[.slice va m vc, .slice vb n vd, .int .i64 (c : Int), .int .i64 i, .int .i64 j, .int .i64 k] w (ItD w (interM A B c i j k)) := by
  rcases (show c = 0 ∨ c = 1 ∨ c = 2 ∨ c = 3 ∨ c = 4 ∨ c = 5 by omega) with rfl | rfl | rfl | rfl | rfl | rfl
  · exact inter_reloc hA hB hm hn i j k
  · exact inter_trade1 hA hB hm hn i j k
  · exact inter_trade2 hA hB hm hn i j k
  · exact inter_tails hA hB hm hn i j k
  · exact inter_turned hA hB hm hn i j k
  · exact inter_swap hA hB hm hn i j k
set_option maxRecDepth 100000 in
set_option maxHeartbeats 12800000 in
theorem changes_any {w : World} {m vc n vd : Nat} {va vb : Option Addr} {A B : List Vst} (hA : SlI w va m vc A) (hB : SlI w vb n vd B) (ch xi xj xk : Int) : Calls Try.prog 6 #[.slice va m vc, .slice vb n vd, .agg #[.int .i64 ch, .int .i64 xi, .int .i64 xj, .int .i64 xk]] w fun e w' => e = .returned (.bool true) ∧ Below w.heap.size w w' := by
  have HA := hide hA
  have HB := hide hB
  have hmb : m * 16 ≤ 140737488351232 := by obtain ⟨_, _, e, hb, _⟩ := hA.vs; rw [← hA.len]; exact hb
  have hnb : n * 16 ≤ 140737488351232 := by obtain ⟨_, _, e, hb, _⟩ := hB.vs; rw [← hB.len]; exact hb
  clear hA hB
  obtain ⟨W, hW⟩ : ∃ W, W = w.alloc (.cells #[.int .i64 ch, .int .i64 xi, .int .i64 xj, .int .i64 xk] 41) := ⟨_, rfl⟩
  have HBW : Hid (Below w.heap.size w W) := by rw [hW]; exact (Below.refl _ _).alloc (Nat.le_refl _) _
  have HWS : Hid (W.heap.size = w.heap.size + 1) := by show _ = _; rw [hW]; simp
  have HC : Hid (∀ W2, Below W.heap.size W W2 → ∀ j, W2.cell? ⟨w.heap.size, j, none⟩ = (#[.int .i64 ch, .int .i64 xi, .int .i64 xj, .int .i64 xk] : Array Value)[j]?) := fun W2 hf j => by
    have e9 : W.heap[w.heap.size]? = some (.cells #[.int .i64 ch, .int .i64 xi, .int .i64 xj, .int .i64 xk] 41) := by rw [hW]; exact heap_alloc_new _ _
    exact cell_of_row _ _ _ _ _ _ ((hf.block _ (by rw [HWS.out]; omega)).trans e9)
  have H20 : Hid (Calls Try.prog 20 #[] W fun e w' => e = .returned (.bool true) ∧ Below W.heap.size W w') := tawake_any W
  by_cases hl1 : m > 60
  · have z1 : (60 : Int) < (m : Int) := by omega
    have z2 : (m : Int) > 60 := by omega
    go_enter Try.func6, Try.ntmps6
    go_wp2_with (first | (go_at_call 20; rw [← hW]; refine H20.out.mono ?_; rintro e w1 ⟨rfl, k1⟩; have K1 := hide k1; clear k1) | fail)
    go_ret
    exact ⟨rfl, below_on HBW.out K1.out⟩
  · have z1 : ¬ (60 : Int) < (m : Int) := by omega
    have z2 : ¬ (m : Int) > 60 := by omega
    by_cases hl2 : n > 60
    · have z3 : (60 : Int) < (n : Int) := by omega
      have z4 : (n : Int) > 60 := by omega
      go_enter Try.func6, Try.ntmps6
      go_wp2_with (first | (go_at_call 20; rw [← hW]; refine H20.out.mono ?_; rintro e w1 ⟨rfl, k1⟩; have K1 := hide k1; clear k1) | fail)
      go_ret
      exact ⟨rfl, below_on HBW.out K1.out⟩
    · have z3 : ¬ (60 : Int) < (n : Int) := by omega
      have z4 : ¬ (n : Int) > 60 := by omega
      obtain ⟨r, hr, hr6⟩ := umod6 ch
      have hrw : IntKind.i64.wrap (r : Int) = (r : Int) := by rw [IntKind.wrap_i64]; omega
      obtain ⟨⟨X, Y, ok⟩, hq⟩ : ∃ q, interM A B r xi xj xk = q := ⟨_, rfl⟩
      have HQ := hide hq
      have hlen := inter_len hr6 hq
      rw [HA.out.len, HB.out.len] at hlen
      obtain ⟨p, hp⟩ : ∃ p, X.length = p := ⟨_, rfl⟩
      obtain ⟨q, hq2⟩ : ∃ q, Y.length = q := ⟨_, rfl⟩
      have HP := hide hp
      have HQ2 := hide hq2
      rw [hp, hq2] at hlen
      have hpl : p ≤ 120 := by omega
      have hql : q ≤ 120 := by omega
      have H22 : Hid (∀ {tb : Nat} (W2 : World), TwoV W2 tb A B → Calls Try.prog 22 #[.pointer (some ⟨tb, 0, none⟩), .int .i64 (r : Int), .int .i64 xi, .int .i64 xj, .int .i64 xk] W2 (ChT W2 tb (X, Y, ok))) := fun {tb} W2 h9 => by
        have h8 := tplay_any h9 (by rw [HA.out.len]; omega) (by rw [HB.out.len]; omega) r hr6 xi xj xk
        rw [HQ.out] at h8
        exact h8
      have H24 : Hid (∀ W2, Below w.heap.size w W2 → Calls Try.prog 24 #[.slice va m vc, .slice vb n vd, .int .i64 (r : Int), .int .i64 xi, .int .i64 xj, .int .i64 xk] W2 (ItD W2 (X, Y, ok))) := fun W2 hf => by
        have h8 := rinter_any (HA.out.on hf) (HB.out.on hf) (by omega) (by omega) r hr6 xi xj xk
        rw [HQ.out] at h8
        exact h8
      clear hq hp hq2 hlen
      cases ok
      all_goals
        go_enter Try.func6, Try.ntmps6
        go_wp2_with (first | (go_at_call 16; have hh := K8.out; clear hh; refine (same_vs (PrV.on RB.out (below_on B7.out B8.out)) (PrV.on RV.out B8.out)).mono ?_; rintro e w9 ⟨rfl, k9⟩; have K9 := hide (below_on K8.out k9); clear k9) | (go_at_call 16; refine (same_vs (PrV.on RA.out B7.out) RU.out).mono ?_; rintro e w8 ⟨rfl, k8⟩; have B8 := hide k8; have K8 := hide (below_on K7.out k8); clear k8) | (go_at_call 24; refine (H24.out _ (below_on HBW.out K6.out)).mono ?_; rintro e w7 ⟨a7, q7, c7, a7', q7', c7', rfl, ⟨h7, r7⟩, ⟨h8, r8⟩, k7⟩; rw [HP.out] at h7; subst h7; rw [HQ2.out] at h8; subst h8; have RU := hide (vrow_vs r7 HP.out (by omega)); have RV := hide (vrow_vs r8 HQ2.out (by omega)); have B7 := hide k7; have K7 := hide (below_on K6.out k7); clear r7 r8 k7) | (go_at_call 23; refine (tvisits_any L5.out HP.out HQ2.out (by omega) (by omega)).mono ?_; rintro e w6 ⟨a6, c6, a6', c6', rfl, r6, k6⟩; have RA := hide (vrow_vs r6.1 HP.out (by omega)); have RB := hide (vrow_vs r6.2.1 HQ2.out (by omega)); have K6 := hide (below_on K5.out k6); have zx0 : w6.cell? ⟨w.heap.size, 0, none⟩ = some (.int .i64 ch) := HC.out _ K6.out 0; have zx1 : w6.cell? ⟨w.heap.size, 1, none⟩ = some (.int .i64 xi) := HC.out _ K6.out 1; have zx2 : w6.cell? ⟨w.heap.size, 2, none⟩ = some (.int .i64 xj) := HC.out _ K6.out 2; have zx3 : w6.cell? ⟨w.heap.size, 3, none⟩ = some (.int .i64 xk) := HC.out _ K6.out 3; clear r6 k6) | (go_at_call 22; refine (H22.out _ L4.out).mono ?_; intro e w5 h5; obtain ⟨rfl, q5, k5⟩ := cht_low h5 K4.out HTB.out K4.out.size; have L5 := hide q5; have K5 := hide k5; have zy0 : w5.cell? ⟨w.heap.size, 0, none⟩ = some (.int .i64 ch) := HC.out _ K5.out 0; have zy1 : w5.cell? ⟨w.heap.size, 1, none⟩ = some (.int .i64 xi) := HC.out _ K5.out 1; have zy2 : w5.cell? ⟨w.heap.size, 2, none⟩ = some (.int .i64 xj) := HC.out _ K5.out 2; have zy3 : w5.cell? ⟨w.heap.size, 3, none⟩ = some (.int .i64 xk) := HC.out _ K5.out 3; clear h5 q5 k5) | (go_at_call 21; refine (tnew_any (SlI.row (VRow.later R2.out (Nat.le_refl _) B3.out) HA.out.len (by omega)) (SlI.row R3.out HB.out.len (by omega)) (by omega) (by omega)).mono ?_; rintro e w4 ⟨tb, rfl, q4, htb, k4⟩; have L4 := hide q4; have HTB : Hid (W.heap.size ≤ tb) := (Nat.le_trans K3.out.size htb); have K4 := hide (below_on K3.out k4); have zz0 : w4.cell? ⟨w.heap.size, 0, none⟩ = some (.int .i64 ch) := HC.out _ K4.out 0; have zz1 : w4.cell? ⟨w.heap.size, 1, none⟩ = some (.int .i64 xi) := HC.out _ K4.out 1; have zz2 : w4.cell? ⟨w.heap.size, 2, none⟩ = some (.int .i64 xj) := HC.out _ K4.out 2; have zz3 : w4.cell? ⟨w.heap.size, 3, none⟩ = some (.int .i64 xk) := HC.out _ K4.out 3; clear q4 k4 htb) | (at_builtin; refine app_copy (.tmp 28) (.tmp 29) rfl rfl rfl rfl (PrV.on HB.out.vs (below_on HBW.out K2.out)) HB.out.len HB.out.nz (by omega) ?_; intro a3 c3 w3 r3 k3; have R3 := hide r3; have B3 := hide k3; have K3 := hide (below_on K2.out k3); clear r3 k3) | (at_builtin; have hh := K1.out; clear hh; refine app_copy (.tmp 25) (.tmp 26) rfl rfl rfl rfl (PrV.on HA.out.vs (below_on HBW.out K1.out)) HA.out.len HA.out.nz (by omega) ?_; intro a2 c2 w2 r2 k2; have R2 := hide r2; have B2 := hide k2; have K2 := hide (below_on K1.out k2); clear r2 k2) | (go_at_call 20; rw [← hW]; refine H20.out.mono ?_; rintro e w1 ⟨rfl, k1⟩; have K1 := hide k1; clear k1) | fail)
        go_ret
        exact ⟨rfl, below_on HBW.out K9.out⟩
end Go.Proofs.Ytdnkmjafkpnliaa
