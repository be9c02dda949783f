/-
  What the document's Inner answers; what the statements' play of one list does; what the law InnerChanges does.
-/
import Derived.Test.YtdnkmjafkpnliaaInB
import Derived.Test.YtdnkmjafkpnliaaInC
import Derived.Test.YtdnkmjafkpnliaaInD
import Derived.Test.YtdnkmjafkpnliaaPrsL
import Derived.Test.YtdnkmjafkpnliaaSizL
import Derived.Deep.RegionHeld3
namespace Go.Proofs.Ytdnkmjafkpnliaa
open Go.RowKit

def innerM (V : List Vst) (c : Nat) (i j k : Int) : List Vst × Bool := match c with
  | 0 => twM V i j
  | 1 => orM V i j k
  | 2 => orM V i j 1
  | 3 => exM V i j
  | 4 => mixM V i j
  | _ => pairM V i j k
theorem mix_len (V : List Vst) (i j : Int) : (mixM V i j).1.length = V.length := by
  unfold mixM
  by_cases hc : 0 ≤ i ∧ i ≤ (V.length : Int) - 1 ∧ 0 ≤ j ∧ j ≤ (V.length : Int) - 2 ∧ i ≠ j ∧ i ≠ j + 1
  · rw [if_pos hc]
    by_cases hlt : i < j
    · rw [if_pos hlt]; refine swapM_len ?_ ?_ ?_ ?_ <;> omega
    · rw [if_neg hlt]; refine swapM_len ?_ ?_ ?_ ?_ <;> omega
  · rw [if_neg hc]
theorem pair_len (V : List Vst) (i j k : Int) : (pairM V i j k).1.length = V.length := by
  obtain ⟨⟨G, b⟩, hq⟩ : ∃ q, pairM V i j k = q := ⟨_, rfl⟩
  rw [hq]
  cases b with
  | false => rw [pair_false hq]
  | true =>
    obtain ⟨ii, jj, kk, kd, it, rfl, rfl, rfl, hjk, hkn, _, rfl, hO⟩ := pair_true hq
    show (insM _ _ _).length = _
    rw [insM_len (by rw [insM_len (by omega)]; omega), insM_len (by omega)]
    omega
theorem inner_len (V : List Vst) (c : Nat) (i j k : Int) : (innerM V c i j k).1.length = V.length := by
  unfold innerM
  split
  · exact tw_len V i j
  · exact or_len V i j k
  · exact or_len V i j 1
  · exact ex_len V i j
  · exact mix_len V i j
  · exact pair_len V i j k
theorem rinner_any {w : World} {va : Option Addr} {n vc : Nat} {V : List Vst} (h : SlI w va n vc V) (hn : n ≤ 300) (c : Nat) (hc : c < 6) (i j k : Int) : Calls Try.prog 15 #[.slice va n vc, .int .i64 (c : Int), .int .i64 i, .int .i64 j, .int .i64 k] w (DIn w (innerM V c i j k) n) := by
  rcases (show c = 0 ∨ c = 1 ∨ c = 2 ∨ c = 3 ∨ c = 4 ∨ c = 5 by omega) with rfl | rfl | rfl | rfl | rfl | rfl
  · exact inner_two h hn i j k
  · exact inner_or1 h hn i j k
  · exact inner_or2 h hn i j k
  · exact inner_ex h hn i j k
  · exact inner_mix h hn i j k
  · exact inner_pair h hn i j k
set_option maxRecDepth 100000 in
set_option maxHeartbeats 12800000 in
theorem iplay_any {w : World} {lb : Nat} {V : List Vst} (h : LineV w lb V) (hm : V.length ≤ 900) (c : Nat) (hc : c < 6) (i j k : Int) : Calls Try.prog 14 #[.pointer (some ⟨lb, 0, none⟩), .int .i64 (c : Int), .int .i64 i, .int .i64 j, .int .i64 k] w (ChQ w lb (innerM V c i j k)) := by
  rcases (show c = 0 ∨ c = 1 ∨ c = 2 ∨ c = 3 ∨ c = 4 ∨ c = 5 by omega) with rfl | rfl | rfl | rfl | rfl | rfl
  · have H := hide (twoopt_any h hm i j k)
    clear h
    go_enter Try.func14, Try.ntmps14
    go_wp2_with (first | (go_at_call 31; refine H.out.mono ?_; rintro e w1 ⟨rfl, k1, k2⟩; have K1 := hide k1; have K2 := hide k2; clear k1 k2) | fail)
    go_ret
    exact ⟨rfl, K1.out, K2.out⟩
  · have H := hide (oropt_any h hm i j k)
    clear h
    go_enter Try.func14, Try.ntmps14
    go_wp2_with (first | (go_at_call 32; refine H.out.mono ?_; rintro e w1 ⟨rfl, k1, k2⟩; have K1 := hide k1; have K2 := hide k2; clear k1 k2) | fail)
    go_ret
    exact ⟨rfl, K1.out, K2.out⟩
  · have H := hide (relocate_any h hm i j k)
    clear h
    go_enter Try.func14, Try.ntmps14
    go_wp2_with (first | (go_at_call 33; refine H.out.mono ?_; rintro e w1 ⟨rfl, k1, k2⟩; have K1 := hide k1; have K2 := hide k2; clear k1 k2) | fail)
    go_ret
    exact ⟨rfl, K1.out, K2.out⟩
  · have H := hide (exchange_any h hm i j k)
    clear h
    go_enter Try.func14, Try.ntmps14
    go_wp2_with (first | (go_at_call 34; refine H.out.mono ?_; rintro e w1 ⟨rfl, k1, k2⟩; have K1 := hide k1; have K2 := hide k2; clear k1 k2) | fail)
    go_ret
    exact ⟨rfl, K1.out, K2.out⟩
  · have H := hide (mixed_any h hm i j k)
    clear h
    go_enter Try.func14, Try.ntmps14
    go_wp2_with (first | (go_at_call 29; refine H.out.mono ?_; rintro e w1 ⟨rfl, k1, k2⟩; have K1 := hide k1; have K2 := hide k2; clear k1 k2) | fail)
    go_ret
    exact ⟨rfl, K1.out, K2.out⟩
  · have H := hide (pair_any h hm i j k)
    clear h
    go_enter Try.func14, Try.ntmps14
    go_wp2_with (first | (go_at_call 35; refine H.out.mono ?_; rintro e w1 ⟨rfl, k1, k2⟩; have K1 := hide k1; have K2 := hide k2; clear k1 k2) | fail)
    go_ret
    exact ⟨rfl, K1.out, K2.out⟩
set_option maxRecDepth 100000 in
set_option maxHeartbeats 12800000 in
theorem changesI_any {w : World} {m vc : Nat} {va : Option Addr} {V : List Vst} (hV : SlI w va m vc V) (ch xi xj xk : Int) : Calls Try.prog 3 #[.slice va m vc, .agg #[.int .i64 ch, .int .i64 xi, .int .i64 xj, .int .i64 xk]] w fun e w' => e = .returned (.bool true) ∧ Below w.heap.size w w' := by
  have H := hide hV
  have hmb : m * 16 ≤ 140737488351232 := by obtain ⟨_, _, e, hb, _⟩ := hV.vs; rw [← hV.len]; exact hb
  clear hV
  obtain ⟨W, hW⟩ : ∃ W, W = w.alloc (.cells #[.int .i64 ch, .int .i64 xi, .int .i64 xj, .int .i64 xk] 24) := ⟨_, rfl⟩
  have HBW : Hid (Below w.heap.size w W) := by rw [hW]; exact (Below.refl _ _).alloc (Nat.le_refl _) _
  have HWS : Hid (W.heap.size = w.heap.size + 1) := by show _ = _; rw [hW]; simp
  have HC : Hid (∀ W2, Below W.heap.size W W2 → ∀ j, W2.cell? ⟨w.heap.size, j, none⟩ = (#[.int .i64 ch, .int .i64 xi, .int .i64 xj, .int .i64 xk] : Array Value)[j]?) := fun W2 hf j => by
    have e9 : W.heap[w.heap.size]? = some (.cells #[.int .i64 ch, .int .i64 xi, .int .i64 xj, .int .i64 xk] 24) := by rw [hW]; exact heap_alloc_new _ _
    exact cell_of_row _ _ _ _ _ _ ((hf.block _ (by rw [HWS.out]; omega)).trans e9)
  have H12 : Hid (Calls Try.prog 12 #[] W fun e w' => e = .returned (.bool true) ∧ Below W.heap.size W w') := awake_any W
  by_cases hl1 : m > 100
  · have z1 : (100 : Int) < (m : Int) := by omega
    have z2 : (m : Int) > 100 := by omega
    go_enter Try.func3, Try.ntmps3
    go_wp2_with (first | (go_at_call 12; rw [← hW]; refine H12.out.mono ?_; rintro e w1 ⟨rfl, k1⟩; have K1 := hide k1; clear k1) | fail)
    go_ret
    exact ⟨rfl, below_on HBW.out K1.out⟩
  · have z1 : ¬ (100 : Int) < (m : Int) := by omega
    have z2 : ¬ (m : Int) > 100 := by omega
    obtain ⟨r, hr, hr6⟩ := umod6 ch
    have hrw : IntKind.i64.wrap (r : Int) = (r : Int) := by rw [IntKind.wrap_i64]; omega
    obtain ⟨⟨X, ok⟩, hq⟩ : ∃ q, innerM V r xi xj xk = q := ⟨_, rfl⟩
    have HQ := hide hq
    have hX := inner_len V r xi xj xk
    rw [hq, H.out.len] at hX
    have HX : Hid (X.length = m) := hX
    have H15 : Hid (∀ W2, Below w.heap.size w W2 → Calls Try.prog 15 #[.slice va m vc, .int .i64 (r : Int), .int .i64 xi, .int .i64 xj, .int .i64 xk] W2 (DIn W2 (X, ok) m)) := fun W2 hf => by
      have h8 := rinner_any (H.out.on hf) (by omega) r hr6 xi xj xk
      rw [HQ.out] at h8
      exact h8
    have H14 : Hid (∀ {lb : Nat} (W2 : World), LineV W2 lb V → Calls Try.prog 14 #[.pointer (some ⟨lb, 0, none⟩), .int .i64 (r : Int), .int .i64 xi, .int .i64 xj, .int .i64 xk] W2 (ChQ W2 lb (X, ok))) := fun {lb} W2 h9 => by
      have h8 := iplay_any h9 (by rw [H.out.len]; omega) r hr6 xi xj xk
      rw [HQ.out] at h8
      exact h8
    clear hq hX
    cases ok
    all_goals
      go_enter Try.func3, Try.ntmps3
      go_wp2_with (first | (go_at_call 16; refine (same_vs RA.out (PrV.on RU.out B6.out)).mono ?_; rintro e w7 ⟨rfl, k7⟩; have B7 := hide k7; have K7 := hide (below_on K6.out k7); clear k7) | (go_at_call 17; refine (visits_v (L4.out.on B5.out) HX.out (by omega)).mono ?_; rintro e w6 ⟨a6, c6, rfl, r6, k6⟩; have RA := hide r6; have B6 := hide k6; have K6 := hide (below_on K5.out k6); clear r6 k6) | (go_at_call 15; refine (H15.out _ (below_on HBW.out K4.out)).mono ?_; rintro e w5 ⟨a5, c5, rfl, r5, k5⟩; have RU := hide (vrow_vs r5 HX.out (by omega)); have B5 := hide k5; have K5 := hide (below_on K4.out k5); clear r5 k5) | (go_at_call 14; refine (H14.out _ L3.out).mono ?_; intro e w4 h4; obtain ⟨rfl, q4, k4⟩ := chq_low h4 K3.out HLB.out K3.out.size; have L4 := hide q4; have K4 := hide k4; have zy0 : w4.cell? ⟨w.heap.size, 0, none⟩ = some (.int .i64 ch) := HC.out _ K4.out 0; have zy1 : w4.cell? ⟨w.heap.size, 1, none⟩ = some (.int .i64 xi) := HC.out _ K4.out 1; have zy2 : w4.cell? ⟨w.heap.size, 2, none⟩ = some (.int .i64 xj) := HC.out _ K4.out 2; have zy3 : w4.cell? ⟨w.heap.size, 3, none⟩ = some (.int .i64 xk) := HC.out _ K4.out 3; clear h4 q4 k4) | (go_at_call 13; refine (new_copy R2.out H.out.len (by omega)).mono ?_; rintro e w3 ⟨lb, rfl, q3, hlb, k3⟩; have L3 := hide q3; have HLB : Hid (W.heap.size ≤ lb) := (Nat.le_trans K2.out.size hlb); have B3 := hide (below_on B2.out k3); have HLV := hide (Nat.le_trans B2.out.size hlb); have K3 := hide (below_on K2.out k3); have zz0 : w3.cell? ⟨w.heap.size, 0, none⟩ = some (.int .i64 ch) := HC.out _ K3.out 0; have zz1 : w3.cell? ⟨w.heap.size, 1, none⟩ = some (.int .i64 xi) := HC.out _ K3.out 1; have zz2 : w3.cell? ⟨w.heap.size, 2, none⟩ = some (.int .i64 xj) := HC.out _ K3.out 2; have zz3 : w3.cell? ⟨w.heap.size, 3, none⟩ = some (.int .i64 xk) := HC.out _ K3.out 3; clear q3 k3 hlb) | (at_builtin; refine app_copy (.tmp 15) (.tmp 16) rfl rfl rfl rfl (PrV.on H.out.vs (below_on HBW.out K1.out)) H.out.len H.out.nz (by omega) ?_; intro a2 c2 w2 r2 k2; have R2 := hide r2; have B2 := hide k2; have K2 := hide (below_on K1.out k2); clear r2 k2) | (go_at_call 12; rw [← hW]; refine H12.out.mono ?_; rintro e w1 ⟨rfl, k1⟩; have K1 := hide k1; clear k1) | fail)
      go_ret
      exact ⟨rfl, below_on HBW.out K7.out⟩
end Go.Proofs.Ytdnkmjafkpnliaa
