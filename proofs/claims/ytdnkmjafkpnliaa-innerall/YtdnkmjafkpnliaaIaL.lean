/-
  What the law InnerAll does.
-/
import Derived.Test.YtdnkmjafkpnliaaIcL
import Derived.Deep.RegionHeld3
namespace Go.Proofs.Ytdnkmjafkpnliaa
open Go.RowKit

set_option maxRecDepth 100000 in
set_option maxHeartbeats 12800000 in
theorem allI_any {w : World} {m vc : Nat} {va : Option Addr} {V : List Vst} (hV : SlI w va m vc V) (ch xi xj xk : Int) : Calls Try.prog 4 #[.slice va m vc, .agg #[.int .i64 ch, .int .i64 xi, .int .i64 xj, .int .i64 xk]] w fun e w' => e = .returned (.bool true) ∧ Below w.heap.size w w' := by
  have H := hide hV
  have hmb : m * 16 ≤ 140737488351232 := by obtain ⟨_, _, e, hb, _⟩ := hV.vs; rw [← hV.len]; exact hb
  clear hV
  obtain ⟨W, hW⟩ : ∃ W, W = w.alloc (.cells #[.int .i64 ch, .int .i64 xi, .int .i64 xj, .int .i64 xk] 24) := ⟨_, rfl⟩
  have HBW : Hid (Below w.heap.size w W) := by rw [hW]; exact (Below.refl _ _).alloc (Nat.le_refl _) _
  have HWS : Hid (W.heap.size = w.heap.size + 1) := by show _ = _; rw [hW]; simp
  have HC : Hid (∀ W2, Below W.heap.size W W2 → ∀ j, W2.cell? ⟨w.heap.size, j, none⟩ = (#[.int .i64 ch, .int .i64 xi, .int .i64 xj, .int .i64 xk] : Array Value)[j]?) := fun W2 hf j => by
    have e9 : W.heap[w.heap.size]? = some (.cells #[.int .i64 ch, .int .i64 xi, .int .i64 xj, .int .i64 xk] 24) := by rw [hW]; exact heap_alloc_new _ _
    exact cell_of_row _ _ _ _ _ _ ((hf.block _ (by rw [HWS.out]; omega)).trans e9)
  have H12 : Hid (Calls Try.prog 12 #[] W fun e w' => e = .returned (.bool true) ∧ Below W.heap.size W w') := awake_any W
  by_cases hl1 : m > 100
  · have z1 : (100 : Int) < (m : Int) := by omega
    have z2 : (m : Int) > 100 := by omega
    go_enter Try.func4, Try.ntmps4
    go_wp2_with (first | (go_at_call 12; rw [← hW]; refine H12.out.mono ?_; rintro e w1 ⟨rfl, k1⟩; have K1 := hide k1; clear k1) | fail)
    go_ret
    exact ⟨rfl, below_on HBW.out K1.out⟩
  · have z1 : ¬ (100 : Int) < (m : Int) := by omega
    have z2 : ¬ (m : Int) > 100 := by omega
    go_enter Try.func4, Try.ntmps4
    go_wp2_with (first | (go_at_call 18; refine (all_any _).mono ?_; rintro e v1 ⟨gA, rfl, hg, hF, k2⟩; have HFA := hide hF; have KA := hide (below_on K1.out k2); clear hg hF k2) | (go_at_call 12; rw [← hW]; refine H12.out.mono ?_; rintro e w1 ⟨rfl, k1⟩; have K1 := hide k1; clear k1) | fail)
    go_loopw [6] (fun v8 wr => ∃ c : Nat, v8 = .int .i64 c ∧ c ≤ 6 ∧ Hid (Below v1.heap.size v1 wr)) (fun v8 _ => 6 - (intOf v8).toNat)
    case atStart => exact ⟨0, rfl, by omega, Below.refl _ _⟩
    case round =>
      obtain ⟨c, rfl, hc, KL⟩ := hrel
      by_cases hr6 : c < 6
      · have KW := hide (below_on KA.out KL.out)
        have HFX := hide ((KL.out.block gA (lt_of_block HFA.out)).trans HFA.out)
        have HFB : Hid (∀ W2, Below wr.heap.size wr W2 → ∀ j, W2.cell? ⟨gA, j, none⟩ = (#[.func (.func 31) #[] #[], .func (.func 32) #[] #[], .func (.func 33) #[] #[], .func (.func 34) #[] #[], .func (.func 29) #[] #[], .func (.func 35) #[] #[]] : Array Value)[j]?) := fun W2 hf j => cell_of_row _ _ _ _ _ _ ((hf.block _ (lt_of_block HFX.out)).trans HFX.out)
        obtain ⟨⟨X, ok⟩, hq⟩ : ∃ q, innerM V c xi xj xk = q := ⟨_, rfl⟩
        have HQ := hide hq
        have hX := inner_len V c xi xj xk
        rw [hq, H.out.len] at hX
        have HX : Hid (X.length = m) := hX
        have H15 : Hid (∀ W2, Below w.heap.size w W2 → Calls Try.prog 15 #[.slice va m vc, .int .i64 (c : Int), .int .i64 xi, .int .i64 xj, .int .i64 xk] W2 (DIn W2 (X, ok) m)) := fun W2 hf => by
          have h8 := rinner_any (H.out.on hf) (by omega) c hr6 xi xj xk
          rw [HQ.out] at h8
          exact h8
        clear hX
        rcases (show c = 0 ∨ c = 1 ∨ c = 2 ∨ c = 3 ∨ c = 4 ∨ c = 5 by omega) with rfl | rfl | rfl | rfl | rfl | rfl
        · have H5 : Hid (∀ {lb : Nat} (W2 : World), LineV W2 lb V → Calls Try.prog 31 #[.pointer (some ⟨lb, 0, none⟩), .int .i64 xi, .int .i64 xj, .int .i64 xk] W2 (ChQ W2 lb (X, ok))) := fun {lb} W2 h9 => by
            have h8 := twoopt_any h9 (by rw [H.out.len]; omega) xi xj xk
            rw [show twM V xi xj = (X, ok) from hq] at h8
            exact h8
          clear hq
          cases ok
          all_goals
            go_wp2_with (first | (go_at_call 13; refine (new_copy R2.out H.out.len (by omega)).mono ?_; rintro e w3 ⟨lb, rfl, q3, hlb, k3⟩; have L3 := hide q3; have HLB : Hid (W.heap.size ≤ lb) := (Nat.le_trans K2.out.size hlb); have B3 := hide (below_on B2.out k3); have HLV := hide (Nat.le_trans B2.out.size hlb); have K3 := hide (below_on K2.out k3); have zf : w3.cell? ⟨gA, 0, none⟩ = some (.func (.func 31) #[] #[]) := HFB.out _ B3.out 0; have zz0 : w3.cell? ⟨w.heap.size, 0, none⟩ = some (.int .i64 ch) := HC.out _ K3.out 0; have zz1 : w3.cell? ⟨w.heap.size, 1, none⟩ = some (.int .i64 xi) := HC.out _ K3.out 1; have zz2 : w3.cell? ⟨w.heap.size, 2, none⟩ = some (.int .i64 xj) := HC.out _ K3.out 2; have zz3 : w3.cell? ⟨w.heap.size, 3, none⟩ = some (.int .i64 xk) := HC.out _ K3.out 3; clear q3 k3 hlb) | (at_builtin; refine app_copy (.tmp 27) (.tmp 28) rfl rfl rfl rfl (PrV.on H.out.vs (below_on HBW.out KW.out)) H.out.len H.out.nz (by omega) ?_; intro a2 c2 w2 r2 k2; have R2 := hide r2; have B2 := hide k2; have K2 := hide (below_on KW.out k2); clear r2 k2) | fail)
            first | (go_region_held3 (fun w' => w'.cell? ⟨w.heap.size, 1, none⟩ = some (.int .i64 xi) ∧ w'.cell? ⟨w.heap.size, 2, none⟩ = some (.int .i64 xj) ∧ w'.cell? ⟨w.heap.size, 3, none⟩ = some (.int .i64 xk) ∧ w'.cell? ⟨gA, 0, none⟩ = some (.func (.func 31) #[] #[])) (go_keep) (first | (go_at_call 31; refine (H5.out _ (L3.out.on ((Below.refl _ _).drew))).mono ?_; intro e w4 h4; have h6 := chq_low h4 (low_drew B3.out) HLV.out (low_drew B3.out).size; obtain ⟨rfl, q4, k4⟩ := chq_low h4 (low_drew K3.out) HLB.out (low_drew K3.out).size; have L4 := hide q4; have K4 := hide k4; have B4 := hide h6.2.2; have zf2 : w4.cell? ⟨gA, 0, none⟩ = some (.func (.func 31) #[] #[]) := HFB.out _ B4.out 0; have zy0 : w4.cell? ⟨w.heap.size, 0, none⟩ = some (.int .i64 ch) := HC.out _ K4.out 0; have zy1 : w4.cell? ⟨w.heap.size, 1, none⟩ = some (.int .i64 xi) := HC.out _ K4.out 1; have zy2 : w4.cell? ⟨w.heap.size, 2, none⟩ = some (.int .i64 xj) := HC.out _ K4.out 2; have zy3 : w4.cell? ⟨w.heap.size, 3, none⟩ = some (.int .i64 xk) := HC.out _ K4.out 3; clear h4 h6 q4 k4) | fail)) | fail
            rename_i hHeld
            clear hHeld
            go_wp2_with (first | (go_at_call 16; refine (same_vs RA.out (PrV.on RU.out B6.out)).mono ?_; rintro e w7 ⟨rfl, k7⟩; have B7 := hide k7; have K7 := hide (below_on K6.out k7); clear k7) | (go_at_call 17; refine (visits_v (L4.out.on B5.out) HX.out (by omega)).mono ?_; rintro e w6 ⟨a6, c6, rfl, r6, k6⟩; have RA := hide r6; have B6 := hide k6; have K6 := hide (below_on K5.out k6); clear r6 k6) | (go_at_call 15; refine (H15.out _ (below_on HBW.out K4.out)).mono ?_; rintro e w5 ⟨a5, c5, rfl, r5, k5⟩; have RU := hide (vrow_vs r5 HX.out (by omega)); have B5 := hide k5; have K5 := hide (below_on K4.out k5); clear r5 k5) | fail)
            go_roundw
            case rel => exact ⟨0 + 1, by go_num, by omega, below_on KL.out (below_on (below_on B4.out (below_on B5.out B6.out)) B7.out)⟩
            case measure => simp [intOf]
        · have H5 : Hid (∀ {lb : Nat} (W2 : World), LineV W2 lb V → Calls Try.prog 32 #[.pointer (some ⟨lb, 0, none⟩), .int .i64 xi, .int .i64 xj, .int .i64 xk] W2 (ChQ W2 lb (X, ok))) := fun {lb} W2 h9 => by
            have h8 := oropt_any h9 (by rw [H.out.len]; omega) xi xj xk
            rw [show orM V xi xj xk = (X, ok) from hq] at h8
            exact h8
          clear hq
          cases ok
          all_goals
            go_wp2_with (first | (go_at_call 13; refine (new_copy R2.out H.out.len (by omega)).mono ?_; rintro e w3 ⟨lb, rfl, q3, hlb, k3⟩; have L3 := hide q3; have HLB : Hid (W.heap.size ≤ lb) := (Nat.le_trans K2.out.size hlb); have B3 := hide (below_on B2.out k3); have HLV := hide (Nat.le_trans B2.out.size hlb); have K3 := hide (below_on K2.out k3); have zf : w3.cell? ⟨gA, 1, none⟩ = some (.func (.func 32) #[] #[]) := HFB.out _ B3.out 1; have zz0 : w3.cell? ⟨w.heap.size, 0, none⟩ = some (.int .i64 ch) := HC.out _ K3.out 0; have zz1 : w3.cell? ⟨w.heap.size, 1, none⟩ = some (.int .i64 xi) := HC.out _ K3.out 1; have zz2 : w3.cell? ⟨w.heap.size, 2, none⟩ = some (.int .i64 xj) := HC.out _ K3.out 2; have zz3 : w3.cell? ⟨w.heap.size, 3, none⟩ = some (.int .i64 xk) := HC.out _ K3.out 3; clear q3 k3 hlb) | (at_builtin; refine app_copy (.tmp 27) (.tmp 28) rfl rfl rfl rfl (PrV.on H.out.vs (below_on HBW.out KW.out)) H.out.len H.out.nz (by omega) ?_; intro a2 c2 w2 r2 k2; have R2 := hide r2; have B2 := hide k2; have K2 := hide (below_on KW.out k2); clear r2 k2) | fail)
            first | (go_region_held3 (fun w' => w'.cell? ⟨w.heap.size, 1, none⟩ = some (.int .i64 xi) ∧ w'.cell? ⟨w.heap.size, 2, none⟩ = some (.int .i64 xj) ∧ w'.cell? ⟨w.heap.size, 3, none⟩ = some (.int .i64 xk) ∧ w'.cell? ⟨gA, 1, none⟩ = some (.func (.func 32) #[] #[])) (go_keep) (first | (go_at_call 32; refine (H5.out _ (L3.out.on ((Below.refl _ _).drew))).mono ?_; intro e w4 h4; have h6 := chq_low h4 (low_drew B3.out) HLV.out (low_drew B3.out).size; obtain ⟨rfl, q4, k4⟩ := chq_low h4 (low_drew K3.out) HLB.out (low_drew K3.out).size; have L4 := hide q4; have K4 := hide k4; have B4 := hide h6.2.2; have zf2 : w4.cell? ⟨gA, 1, none⟩ = some (.func (.func 32) #[] #[]) := HFB.out _ B4.out 1; have zy0 : w4.cell? ⟨w.heap.size, 0, none⟩ = some (.int .i64 ch) := HC.out _ K4.out 0; have zy1 : w4.cell? ⟨w.heap.size, 1, none⟩ = some (.int .i64 xi) := HC.out _ K4.out 1; have zy2 : w4.cell? ⟨w.heap.size, 2, none⟩ = some (.int .i64 xj) := HC.out _ K4.out 2; have zy3 : w4.cell? ⟨w.heap.size, 3, none⟩ = some (.int .i64 xk) := HC.out _ K4.out 3; clear h4 h6 q4 k4) | fail)) | fail
            rename_i hHeld
            clear hHeld
            go_wp2_with (first | (go_at_call 16; refine (same_vs RA.out (PrV.on RU.out B6.out)).mono ?_; rintro e w7 ⟨rfl, k7⟩; have B7 := hide k7; have K7 := hide (below_on K6.out k7); clear k7) | (go_at_call 17; refine (visits_v (L4.out.on B5.out) HX.out (by omega)).mono ?_; rintro e w6 ⟨a6, c6, rfl, r6, k6⟩; have RA := hide r6; have B6 := hide k6; have K6 := hide (below_on K5.out k6); clear r6 k6) | (go_at_call 15; refine (H15.out _ (below_on HBW.out K4.out)).mono ?_; rintro e w5 ⟨a5, c5, rfl, r5, k5⟩; have RU := hide (vrow_vs r5 HX.out (by omega)); have B5 := hide k5; have K5 := hide (below_on K4.out k5); clear r5 k5) | fail)
            go_roundw
            case rel => exact ⟨1 + 1, by go_num, by omega, below_on KL.out (below_on (below_on B4.out (below_on B5.out B6.out)) B7.out)⟩
            case measure => simp [intOf]
        · have H5 : Hid (∀ {lb : Nat} (W2 : World), LineV W2 lb V → Calls Try.prog 33 #[.pointer (some ⟨lb, 0, none⟩), .int .i64 xi, .int .i64 xj, .int .i64 xk] W2 (ChQ W2 lb (X, ok))) := fun {lb} W2 h9 => by
            have h8 := relocate_any h9 (by rw [H.out.len]; omega) xi xj xk
            rw [show orM V xi xj 1 = (X, ok) from hq] at h8
            exact h8
          clear hq
          cases ok
          all_goals
            go_wp2_with (first | (go_at_call 13; refine (new_copy R2.out H.out.len (by omega)).mono ?_; rintro e w3 ⟨lb, rfl, q3, hlb, k3⟩; have L3 := hide q3; have HLB : Hid (W.heap.size ≤ lb) := (Nat.le_trans K2.out.size hlb); have B3 := hide (below_on B2.out k3); have HLV := hide (Nat.le_trans B2.out.size hlb); have K3 := hide (below_on K2.out k3); have zf : w3.cell? ⟨gA, 2, none⟩ = some (.func (.func 33) #[] #[]) := HFB.out _ B3.out 2; have zz0 : w3.cell? ⟨w.heap.size, 0, none⟩ = some (.int .i64 ch) := HC.out _ K3.out 0; have zz1 : w3.cell? ⟨w.heap.size, 1, none⟩ = some (.int .i64 xi) := HC.out _ K3.out 1; have zz2 : w3.cell? ⟨w.heap.size, 2, none⟩ = some (.int .i64 xj) := HC.out _ K3.out 2; have zz3 : w3.cell? ⟨w.heap.size, 3, none⟩ = some (.int .i64 xk) := HC.out _ K3.out 3; clear q3 k3 hlb) | (at_builtin; refine app_copy (.tmp 27) (.tmp 28) rfl rfl rfl rfl (PrV.on H.out.vs (below_on HBW.out KW.out)) H.out.len H.out.nz (by omega) ?_; intro a2 c2 w2 r2 k2; have R2 := hide r2; have B2 := hide k2; have K2 := hide (below_on KW.out k2); clear r2 k2) | fail)
            first | (go_region_held3 (fun w' => w'.cell? ⟨w.heap.size, 1, none⟩ = some (.int .i64 xi) ∧ w'.cell? ⟨w.heap.size, 2, none⟩ = some (.int .i64 xj) ∧ w'.cell? ⟨w.heap.size, 3, none⟩ = some (.int .i64 xk) ∧ w'.cell? ⟨gA, 2, none⟩ = some (.func (.func 33) #[] #[])) (go_keep) (first | (go_at_call 33; refine (H5.out _ (L3.out.on ((Below.refl _ _).drew))).mono ?_; intro e w4 h4; have h6 := chq_low h4 (low_drew B3.out) HLV.out (low_drew B3.out).size; obtain ⟨rfl, q4, k4⟩ := chq_low h4 (low_drew K3.out) HLB.out (low_drew K3.out).size; have L4 := hide q4; have K4 := hide k4; have B4 := hide h6.2.2; have zf2 : w4.cell? ⟨gA, 2, none⟩ = some (.func (.func 33) #[] #[]) := HFB.out _ B4.out 2; have zy0 : w4.cell? ⟨w.heap.size, 0, none⟩ = some (.int .i64 ch) := HC.out _ K4.out 0; have zy1 : w4.cell? ⟨w.heap.size, 1, none⟩ = some (.int .i64 xi) := HC.out _ K4.out 1; have zy2 : w4.cell? ⟨w.heap.size, 2, none⟩ = some (.int .i64 xj) := HC.out _ K4.out 2; have zy3 : w4.cell? ⟨w.heap.size, 3, none⟩ = some (.int .i64 xk) := HC.out _ K4.out 3; clear h4 h6 q4 k4) | fail)) | fail
            rename_i hHeld
            clear hHeld
            go_wp2_with (first | (go_at_call 16; refine (same_vs RA.out (PrV.on RU.out B6.out)).mono ?_; rintro e w7 ⟨rfl, k7⟩; have B7 := hide k7; have K7 := hide (below_on K6.out k7); clear k7) | (go_at_call 17; refine (visits_v (L4.out.on B5.out) HX.out (by omega)).mono ?_; rintro e w6 ⟨a6, c6, rfl, r6, k6⟩; have RA := hide r6; have B6 := hide k6; have K6 := hide (below_on K5.out k6); clear r6 k6) | (go_at_call 15; refine (H15.out _ (below_on HBW.out K4.out)).mono ?_; rintro e w5 ⟨a5, c5, rfl, r5, k5⟩; have RU := hide (vrow_vs r5 HX.out (by omega)); have B5 := hide k5; have K5 := hide (below_on K4.out k5); clear r5 k5) | fail)
            go_roundw
            case rel => exact ⟨2 + 1, by go_num, by omega, below_on KL.out (below_on (below_on B4.out (below_on B5.out B6.out)) B7.out)⟩
            case measure => simp [intOf]
        · have H5 : Hid (∀ {lb : Nat} (W2 : World), LineV W2 lb V → Calls Try.prog 34 #[.pointer (some ⟨lb, 0, none⟩), .int .i64 xi, .int .i64 xj, .int .i64 xk] W2 (ChQ W2 lb (X, ok))) := fun {lb} W2 h9 => by
            have h8 := exchange_any h9 (by rw [H.out.len]; omega) xi xj xk
            rw [show exM V xi xj = (X, ok) from hq] at h8
            exact h8
          clear hq
          cases ok
          all_goals
            go_wp2_with (first | (go_at_call 13; refine (new_copy R2.out H.out.len (by omega)).mono ?_; rintro e w3 ⟨lb, rfl, q3, hlb, k3⟩; have L3 := hide q3; have HLB : Hid (W.heap.size ≤ lb) := (Nat.le_trans K2.out.size hlb); have B3 := hide (below_on B2.out k3); have HLV := hide (Nat.le_trans B2.out.size hlb); have K3 := hide (below_on K2.out k3); have zf : w3.cell? ⟨gA, 3, none⟩ = some (.func (.func 34) #[] #[]) := HFB.out _ B3.out 3; have zz0 : w3.cell? ⟨w.heap.size, 0, none⟩ = some (.int .i64 ch) := HC.out _ K3.out 0; have zz1 : w3.cell? ⟨w.heap.size, 1, none⟩ = some (.int .i64 xi) := HC.out _ K3.out 1; have zz2 : w3.cell? ⟨w.heap.size, 2, none⟩ = some (.int .i64 xj) := HC.out _ K3.out 2; have zz3 : w3.cell? ⟨w.heap.size, 3, none⟩ = some (.int .i64 xk) := HC.out _ K3.out 3; clear q3 k3 hlb) | (at_builtin; refine app_copy (.tmp 27) (.tmp 28) rfl rfl rfl rfl (PrV.on H.out.vs (below_on HBW.out KW.out)) H.out.len H.out.nz (by omega) ?_; intro a2 c2 w2 r2 k2; have R2 := hide r2; have B2 := hide k2; have K2 := hide (below_on KW.out k2); clear r2 k2) | fail)
            first | (go_region_held3 (fun w' => w'.cell? ⟨w.heap.size, 1, none⟩ = some (.int .i64 xi) ∧ w'.cell? ⟨w.heap.size, 2, none⟩ = some (.int .i64 xj) ∧ w'.cell? ⟨w.heap.size, 3, none⟩ = some (.int .i64 xk) ∧ w'.cell? ⟨gA, 3, none⟩ = some (.func (.func 34) #[] #[])) (go_keep) (first | (go_at_call 34; refine (H5.out _ (L3.out.on ((Below.refl _ _).drew))).mono ?_; intro e w4 h4; have h6 := chq_low h4 (low_drew B3.out) HLV.out (low_drew B3.out).size; obtain ⟨rfl, q4, k4⟩ := chq_low h4 (low_drew K3.out) HLB.out (low_drew K3.out).size; have L4 := hide q4; have K4 := hide k4; have B4 := hide h6.2.2; have zf2 : w4.cell? ⟨gA, 3, none⟩ = some (.func (.func 34) #[] #[]) := HFB.out _ B4.out 3; have zy0 : w4.cell? ⟨w.heap.size, 0, none⟩ = some (.int .i64 ch) := HC.out _ K4.out 0; have zy1 : w4.cell? ⟨w.heap.size, 1, none⟩ = some (.int .i64 xi) := HC.out _ K4.out 1; have zy2 : w4.cell? ⟨w.heap.size, 2, none⟩ = some (.int .i64 xj) := HC.out _ K4.out 2; have zy3 : w4.cell? ⟨w.heap.size, 3, none⟩ = some (.int .i64 xk) := HC.out _ K4.out 3; clear h4 h6 q4 k4) | fail)) | fail
            rename_i hHeld
            clear hHeld
            go_wp2_with (first | (go_at_call 16; refine (same_vs RA.out (PrV.on RU.out B6.out)).mono ?_; rintro e w7 ⟨rfl, k7⟩; have B7 := hide k7; have K7 := hide (below_on K6.out k7); clear k7) | (go_at_call 17; refine (visits_v (L4.out.on B5.out) HX.out (by omega)).mono ?_; rintro e w6 ⟨a6, c6, rfl, r6, k6⟩; have RA := hide r6; have B6 := hide k6; have K6 := hide (below_on K5.out k6); clear r6 k6) | (go_at_call 15; refine (H15.out _ (below_on HBW.out K4.out)).mono ?_; rintro e w5 ⟨a5, c5, rfl, r5, k5⟩; have RU := hide (vrow_vs r5 HX.out (by omega)); have B5 := hide k5; have K5 := hide (below_on K4.out k5); clear r5 k5) | fail)
            go_roundw
            case rel => exact ⟨3 + 1, by go_num, by omega, below_on KL.out (below_on (below_on B4.out (below_on B5.out B6.out)) B7.out)⟩
            case measure => simp [intOf]
        · have H5 : Hid (∀ {lb : Nat} (W2 : World), LineV W2 lb V → Calls Try.prog 29 #[.pointer (some ⟨lb, 0, none⟩), .int .i64 xi, .int .i64 xj, .int .i64 xk] W2 (ChQ W2 lb (X, ok))) := fun {lb} W2 h9 => by
            have h8 := mixed_any h9 (by rw [H.out.len]; omega) xi xj xk
            rw [show mixM V xi xj = (X, ok) from hq] at h8
            exact h8
          clear hq
          cases ok
          all_goals
            go_wp2_with (first | (go_at_call 13; refine (new_copy R2.out H.out.len (by omega)).mono ?_; rintro e w3 ⟨lb, rfl, q3, hlb, k3⟩; have L3 := hide q3; have HLB : Hid (W.heap.size ≤ lb) := (Nat.le_trans K2.out.size hlb); have B3 := hide (below_on B2.out k3); have HLV := hide (Nat.le_trans B2.out.size hlb); have K3 := hide (below_on K2.out k3); have zf : w3.cell? ⟨gA, 4, none⟩ = some (.func (.func 29) #[] #[]) := HFB.out _ B3.out 4; have zz0 : w3.cell? ⟨w.heap.size, 0, none⟩ = some (.int .i64 ch) := HC.out _ K3.out 0; have zz1 : w3.cell? ⟨w.heap.size, 1, none⟩ = some (.int .i64 xi) := HC.out _ K3.out 1; have zz2 : w3.cell? ⟨w.heap.size, 2, none⟩ = some (.int .i64 xj) := HC.out _ K3.out 2; have zz3 : w3.cell? ⟨w.heap.size, 3, none⟩ = some (.int .i64 xk) := HC.out _ K3.out 3; clear q3 k3 hlb) | (at_builtin; refine app_copy (.tmp 27) (.tmp 28) rfl rfl rfl rfl (PrV.on H.out.vs (below_on HBW.out KW.out)) H.out.len H.out.nz (by omega) ?_; intro a2 c2 w2 r2 k2; have R2 := hide r2; have B2 := hide k2; have K2 := hide (below_on KW.out k2); clear r2 k2) | fail)
            first | (go_region_held3 (fun w' => w'.cell? ⟨w.heap.size, 1, none⟩ = some (.int .i64 xi) ∧ w'.cell? ⟨w.heap.size, 2, none⟩ = some (.int .i64 xj) ∧ w'.cell? ⟨w.heap.size, 3, none⟩ = some (.int .i64 xk) ∧ w'.cell? ⟨gA, 4, none⟩ = some (.func (.func 29) #[] #[])) (go_keep) (first | (go_at_call 29; refine (H5.out _ (L3.out.on ((Below.refl _ _).drew))).mono ?_; intro e w4 h4; have h6 := chq_low h4 (low_drew B3.out) HLV.out (low_drew B3.out).size; obtain ⟨rfl, q4, k4⟩ := chq_low h4 (low_drew K3.out) HLB.out (low_drew K3.out).size; have L4 := hide q4; have K4 := hide k4; have B4 := hide h6.2.2; have zf2 : w4.cell? ⟨gA, 4, none⟩ = some (.func (.func 29) #[] #[]) := HFB.out _ B4.out 4; have zy0 : w4.cell? ⟨w.heap.size, 0, none⟩ = some (.int .i64 ch) := HC.out _ K4.out 0; have zy1 : w4.cell? ⟨w.heap.size, 1, none⟩ = some (.int .i64 xi) := HC.out _ K4.out 1; have zy2 : w4.cell? ⟨w.heap.size, 2, none⟩ = some (.int .i64 xj) := HC.out _ K4.out 2; have zy3 : w4.cell? ⟨w.heap.size, 3, none⟩ = some (.int .i64 xk) := HC.out _ K4.out 3; clear h4 h6 q4 k4) | fail)) | fail
            rename_i hHeld
            clear hHeld
            go_wp2_with (first | (go_at_call 16; refine (same_vs RA.out (PrV.on RU.out B6.out)).mono ?_; rintro e w7 ⟨rfl, k7⟩; have B7 := hide k7; have K7 := hide (below_on K6.out k7); clear k7) | (go_at_call 17; refine (visits_v (L4.out.on B5.out) HX.out (by omega)).mono ?_; rintro e w6 ⟨a6, c6, rfl, r6, k6⟩; have RA := hide r6; have B6 := hide k6; have K6 := hide (below_on K5.out k6); clear r6 k6) | (go_at_call 15; refine (H15.out _ (below_on HBW.out K4.out)).mono ?_; rintro e w5 ⟨a5, c5, rfl, r5, k5⟩; have RU := hide (vrow_vs r5 HX.out (by omega)); have B5 := hide k5; have K5 := hide (below_on K4.out k5); clear r5 k5) | fail)
            go_roundw
            case rel => exact ⟨4 + 1, by go_num, by omega, below_on KL.out (below_on (below_on B4.out (below_on B5.out B6.out)) B7.out)⟩
            case measure => simp [intOf]
        · have H5 : Hid (∀ {lb : Nat} (W2 : World), LineV W2 lb V → Calls Try.prog 35 #[.pointer (some ⟨lb, 0, none⟩), .int .i64 xi, .int .i64 xj, .int .i64 xk] W2 (ChQ W2 lb (X, ok))) := fun {lb} W2 h9 => by
            have h8 := pair_any h9 (by rw [H.out.len]; omega) xi xj xk
            rw [show pairM V xi xj xk = (X, ok) from hq] at h8
            exact h8
          clear hq
          cases ok
          all_goals
            go_wp2_with (first | (go_at_call 13; refine (new_copy R2.out H.out.len (by omega)).mono ?_; rintro e w3 ⟨lb, rfl, q3, hlb, k3⟩; have L3 := hide q3; have HLB : Hid (W.heap.size ≤ lb) := (Nat.le_trans K2.out.size hlb); have B3 := hide (below_on B2.out k3); have HLV := hide (Nat.le_trans B2.out.size hlb); have K3 := hide (below_on K2.out k3); have zf : w3.cell? ⟨gA, 5, none⟩ = some (.func (.func 35) #[] #[]) := HFB.out _ B3.out 5; have zz0 : w3.cell? ⟨w.heap.size, 0, none⟩ = some (.int .i64 ch) := HC.out _ K3.out 0; have zz1 : w3.cell? ⟨w.heap.size, 1, none⟩ = some (.int .i64 xi) := HC.out _ K3.out 1; have zz2 : w3.cell? ⟨w.heap.size, 2, none⟩ = some (.int .i64 xj) := HC.out _ K3.out 2; have zz3 : w3.cell? ⟨w.heap.size, 3, none⟩ = some (.int .i64 xk) := HC.out _ K3.out 3; clear q3 k3 hlb) | (at_builtin; refine app_copy (.tmp 27) (.tmp 28) rfl rfl rfl rfl (PrV.on H.out.vs (below_on HBW.out KW.out)) H.out.len H.out.nz (by omega) ?_; intro a2 c2 w2 r2 k2; have R2 := hide r2; have B2 := hide k2; have K2 := hide (below_on KW.out k2); clear r2 k2) | fail)
            first | (go_region_held3 (fun w' => w'.cell? ⟨w.heap.size, 1, none⟩ = some (.int .i64 xi) ∧ w'.cell? ⟨w.heap.size, 2, none⟩ = some (.int .i64 xj) ∧ w'.cell? ⟨w.heap.size, 3, none⟩ = some (.int .i64 xk) ∧ w'.cell? ⟨gA, 5, none⟩ = some (.func (.func 35) #[] #[])) (go_keep) (first | (go_at_call 35; refine (H5.out _ (L3.out.on ((Below.refl _ _).drew))).mono ?_; intro e w4 h4; have h6 := chq_low h4 (low_drew B3.out) HLV.out (low_drew B3.out).size; obtain ⟨rfl, q4, k4⟩ := chq_low h4 (low_drew K3.out) HLB.out (low_drew K3.out).size; have L4 := hide q4; have K4 := hide k4; have B4 := hide h6.2.2; have zf2 : w4.cell? ⟨gA, 5, none⟩ = some (.func (.func 35) #[] #[]) := HFB.out _ B4.out 5; have zy0 : w4.cell? ⟨w.heap.size, 0, none⟩ = some (.int .i64 ch) := HC.out _ K4.out 0; have zy1 : w4.cell? ⟨w.heap.size, 1, none⟩ = some (.int .i64 xi) := HC.out _ K4.out 1; have zy2 : w4.cell? ⟨w.heap.size, 2, none⟩ = some (.int .i64 xj) := HC.out _ K4.out 2; have zy3 : w4.cell? ⟨w.heap.size, 3, none⟩ = some (.int .i64 xk) := HC.out _ K4.out 3; clear h4 h6 q4 k4) | fail)) | fail
            rename_i hHeld
            clear hHeld
            go_wp2_with (first | (go_at_call 16; refine (same_vs RA.out (PrV.on RU.out B6.out)).mono ?_; rintro e w7 ⟨rfl, k7⟩; have B7 := hide k7; have K7 := hide (below_on K6.out k7); clear k7) | (go_at_call 17; refine (visits_v (L4.out.on B5.out) HX.out (by omega)).mono ?_; rintro e w6 ⟨a6, c6, rfl, r6, k6⟩; have RA := hide r6; have B6 := hide k6; have K6 := hide (below_on K5.out k6); clear r6 k6) | (go_at_call 15; refine (H15.out _ (below_on HBW.out K4.out)).mono ?_; rintro e w5 ⟨a5, c5, rfl, r5, k5⟩; have RU := hide (vrow_vs r5 HX.out (by omega)); have B5 := hide k5; have K5 := hide (below_on K4.out k5); clear r5 k5) | fail)
            go_roundw
            case rel => exact ⟨5 + 1, by go_num, by omega, below_on KL.out (below_on (below_on B4.out (below_on B5.out B6.out)) B7.out)⟩
            case measure => simp [intOf]
      · have hce : c = 6 := by omega
        subst hce
        go_wp2_with fail
        go_ret
        exact ⟨rfl, below_on HBW.out (below_on KA.out KL.out)⟩
end Go.Proofs.Ytdnkmjafkpnliaa
