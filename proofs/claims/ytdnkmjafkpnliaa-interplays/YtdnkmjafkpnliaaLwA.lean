/-
  What the statements' own Awake and play do (two lists).
-/
import Derived.Test.YtdnkmjafkpnliaaTwG
import Derived.Test.YtdnkmjafkpnliaaBckL
import Derived.Test.YtdnkmjafkpnliaaOwnL
import Derived.Test.YtdnkmjafkpnliaaPrsL
namespace Go.Proofs.Ytdnkmjafkpnliaa
open Go.RowKit

def interM (A B : List Vst) (c : Nat) (i j k : Int) : List Vst × List Vst × Bool := match c with
  | 0 => relM A B i j k
  | 1 => trdM A B i j 1
  | 2 => trdM A B i j 2
  | 3 => talM A B i j
  | 4 => trnM A B i j
  | _ => swpM A B i j k
def aX : List Vst := [(1, 0), (1, 1)]
def aU : List Vst := [(1, 2), (1, 3)]
def aY : List Vst := [(1, 1)]
def aZ : List Vst := [(1, 2), (1, 0), (1, 3)]
theorem rel_aw : relM aX aU 0 1 0 = (aY, aZ, true) := by decide
set_option maxRecDepth 100000 in
set_option maxHeartbeats 12800000 in
theorem tawake_any (w : World) : Calls Try.prog 20 #[] w fun e w' => e = .returned (.bool true) ∧ Below w.heap.size w w' := by
  obtain ⟨W, hW⟩ : ∃ W, W = ((((((w.alloc (.cells #[.int .i64 1, .int .i64 0] 58)).alloc (.cells #[.int .i64 1, .int .i64 1] 58)).alloc (.cells #[.int .i64 1, .int .i64 2] 58)).alloc (.cells #[.int .i64 1, .int .i64 3] 58)).alloc (.cells #[.int .i64 1, .int .i64 0, .int .i64 1, .int .i64 1] 58)).alloc (.cells #[.int .i64 1, .int .i64 2, .int .i64 1, .int .i64 3] 58)) := ⟨_, rfl⟩
  have HBW : Hid (Below w.heap.size w W) := by rw [hW]; exact ((((((Below.refl _ _).alloc (Nat.le_refl _) _).alloc (by simp <;> omega) _).alloc (by simp <;> omega) _).alloc (by simp <;> omega) _).alloc (by simp <;> omega) _).alloc (by simp <;> omega) _
  have HWS : Hid (W.heap.size = w.heap.size + 6) := by show _ = _; rw [hW]; simp
  have e0 : W.heap[w.heap.size]? = some (.cells #[.int .i64 1, .int .i64 0] 58) := by rw [hW, heap_alloc_old _ _ (by simp <;> omega), heap_alloc_old _ _ (by simp <;> omega), heap_alloc_old _ _ (by simp <;> omega), heap_alloc_old _ _ (by simp <;> omega), heap_alloc_old _ _ (by simp <;> omega)]; have h9 := heap_alloc_new w (.cells #[.int .i64 1, .int .i64 0] 58); exact h9
  have e1 : W.heap[w.heap.size + 1]? = some (.cells #[.int .i64 1, .int .i64 1] 58) := by rw [hW, heap_alloc_old _ _ (by simp <;> omega), heap_alloc_old _ _ (by simp <;> omega), heap_alloc_old _ _ (by simp <;> omega), heap_alloc_old _ _ (by simp <;> omega)]; have h9 := heap_alloc_new (w.alloc (.cells #[.int .i64 1, .int .i64 0] 58)) (.cells #[.int .i64 1, .int .i64 1] 58); simp only [World.size_alloc] at h9; exact h9
  have e2 : W.heap[w.heap.size + 1 + 1]? = some (.cells #[.int .i64 1, .int .i64 2] 58) := by rw [hW, heap_alloc_old _ _ (by simp <;> omega), heap_alloc_old _ _ (by simp <;> omega), heap_alloc_old _ _ (by simp <;> omega)]; have h9 := heap_alloc_new ((w.alloc (.cells #[.int .i64 1, .int .i64 0] 58)).alloc (.cells #[.int .i64 1, .int .i64 1] 58)) (.cells #[.int .i64 1, .int .i64 2] 58); simp only [World.size_alloc] at h9; exact h9
  have e3 : W.heap[w.heap.size + 1 + 1 + 1]? = some (.cells #[.int .i64 1, .int .i64 3] 58) := by rw [hW, heap_alloc_old _ _ (by simp <;> omega), heap_alloc_old _ _ (by simp <;> omega)]; have h9 := heap_alloc_new (((w.alloc (.cells #[.int .i64 1, .int .i64 0] 58)).alloc (.cells #[.int .i64 1, .int .i64 1] 58)).alloc (.cells #[.int .i64 1, .int .i64 2] 58)) (.cells #[.int .i64 1, .int .i64 3] 58); simp only [World.size_alloc] at h9; exact h9
  have e4 : W.heap[w.heap.size + 1 + 1 + 1 + 1]? = some (.cells #[.int .i64 1, .int .i64 0, .int .i64 1, .int .i64 1] 58) := by rw [hW, heap_alloc_old _ _ (by simp <;> omega)]; have h9 := heap_alloc_new ((((w.alloc (.cells #[.int .i64 1, .int .i64 0] 58)).alloc (.cells #[.int .i64 1, .int .i64 1] 58)).alloc (.cells #[.int .i64 1, .int .i64 2] 58)).alloc (.cells #[.int .i64 1, .int .i64 3] 58)) (.cells #[.int .i64 1, .int .i64 0, .int .i64 1, .int .i64 1] 58); simp only [World.size_alloc] at h9; exact h9
  have e5 : W.heap[w.heap.size + 1 + 1 + 1 + 1 + 1]? = some (.cells #[.int .i64 1, .int .i64 2, .int .i64 1, .int .i64 3] 58) := by rw [hW]; have h9 := heap_alloc_new (((((w.alloc (.cells #[.int .i64 1, .int .i64 0] 58)).alloc (.cells #[.int .i64 1, .int .i64 1] 58)).alloc (.cells #[.int .i64 1, .int .i64 2] 58)).alloc (.cells #[.int .i64 1, .int .i64 3] 58)).alloc (.cells #[.int .i64 1, .int .i64 0, .int .i64 1, .int .i64 1] 58)) (.cells #[.int .i64 1, .int .i64 2, .int .i64 1, .int .i64 3] 58); simp only [World.size_alloc] at h9; exact h9
  have HE : Hid (∀ W2, Below W.heap.size W W2 → W2.heap[w.heap.size]? = some (.cells #[.int .i64 1, .int .i64 0] 58) ∧ W2.heap[w.heap.size + 1]? = some (.cells #[.int .i64 1, .int .i64 1] 58) ∧ W2.heap[w.heap.size + 1 + 1]? = some (.cells #[.int .i64 1, .int .i64 2] 58) ∧ W2.heap[w.heap.size + 1 + 1 + 1]? = some (.cells #[.int .i64 1, .int .i64 3] 58)) := fun W2 hf => ⟨(hf.block _ (by rw [HWS.out]; omega)).trans e0, (hf.block _ (by rw [HWS.out]; omega)).trans e1, (hf.block _ (by rw [HWS.out]; omega)).trans e2, (hf.block _ (by rw [HWS.out]; omega)).trans e3⟩
  have HX : Hid (SlI W (some ⟨w.heap.size + 1 + 1 + 1 + 1, 0, none⟩) 2 2 aX) := ⟨vs_lit aX (by decide) e4, rfl, (fun h => by cases h), Nat.le_refl _, fun _ => ⟨_, _, rfl⟩⟩
  have HU : Hid (SlI W (some ⟨w.heap.size + 1 + 1 + 1 + 1 + 1, 0, none⟩) 2 2 aU) := ⟨vs_lit aU (by decide) e5, rfl, (fun h => by cases h), Nat.le_refl _, fun _ => ⟨_, _, rfl⟩⟩
  have HN := hide (tnew_any HX.out HU.out (by omega) (by omega))
  clear e0 e1 e2 e3 e4 e5
  go_enter Try.func20, Try.ntmps20
  go_wp2_with (first | (go_at_call 16; refine (same_vs (w := w5.alloc (.cells #[.int .i64 1, .int .i64 2, .int .i64 1, .int .i64 0, .int .i64 1, .int .i64 3] 58)) (V := aZ) (PrV.on (vrow_vs RB.out rfl (by omega)) (low_alloc (below_on B4.out B5.out) _)) (vs_lit aZ (by decide) (heap_alloc_new _ _))).mono ?_; rintro e w6 ⟨rfl, k6⟩; have K6 : Hid (Below W.heap.size W w6) := (below_on (low_alloc K5.out _) k6); clear k6) | (go_at_call 16; refine (same_vs (w := w4.alloc (.cells #[.int .i64 1, .int .i64 1] 58)) (V := aY) (PrV.on (vrow_vs RA.out rfl (by omega)) (low_alloc B4.out _)) (vs_lit aY (by decide) (heap_alloc_new _ _))).mono ?_; rintro e w5 ⟨rfl, k5⟩; have B5 : Hid (Below w4.heap.size w4 w5) := (below_on ((Below.refl _ _).alloc (Nat.le_refl _) _) k5); have K5 := hide (below_on K4.out B5.out); obtain ⟨f0, f1, f2, f3⟩ := HE.out _ K5.out; have w5c00 : w5.cell? ⟨w.heap.size, 0, none⟩ = some (.int .i64 1) := (cell_of_row _ _ _ _ _ _ f0); have w5c01 : w5.cell? ⟨w.heap.size, 1, none⟩ = some (.int .i64 0) := (cell_of_row _ _ _ _ _ _ f0); have w5c10 : w5.cell? ⟨w.heap.size + 1, 0, none⟩ = some (.int .i64 1) := (cell_of_row _ _ _ _ _ _ f1); have w5c11 : w5.cell? ⟨w.heap.size + 1, 1, none⟩ = some (.int .i64 1) := (cell_of_row _ _ _ _ _ _ f1); have w5c20 : w5.cell? ⟨w.heap.size + 1 + 1, 0, none⟩ = some (.int .i64 1) := (cell_of_row _ _ _ _ _ _ f2); have w5c21 : w5.cell? ⟨w.heap.size + 1 + 1, 1, none⟩ = some (.int .i64 2) := (cell_of_row _ _ _ _ _ _ f2); have w5c30 : w5.cell? ⟨w.heap.size + 1 + 1 + 1, 0, none⟩ = some (.int .i64 1) := (cell_of_row _ _ _ _ _ _ f3); have w5c31 : w5.cell? ⟨w.heap.size + 1 + 1 + 1, 1, none⟩ = some (.int .i64 3) := (cell_of_row _ _ _ _ _ _ f3); have w5n0 : ¬ w.heap.size = w5.heap.size := (by have h9 := lt_of_block f0; omega); have w5n1 : ¬ w.heap.size + 1 = w5.heap.size := (by have h9 := lt_of_block f1; omega); have w5n2 : ¬ w.heap.size + 1 + 1 = w5.heap.size := (by have h9 := lt_of_block f2; omega); have w5n3 : ¬ w.heap.size + 1 + 1 + 1 = w5.heap.size := (by have h9 := lt_of_block f3; omega); clear f0 f1 f2 f3; clear k5) | (go_at_call 25; refine (tall_any _).mono ?_; rintro e w4 ⟨g4, rfl, _, _, k4⟩; have B4 := hide k4; have K4 := hide (below_on K3.out k4); obtain ⟨f0, f1, f2, f3⟩ := HE.out _ K4.out; have w4c00 : w4.cell? ⟨w.heap.size, 0, none⟩ = some (.int .i64 1) := (cell_of_row _ _ _ _ _ _ f0); have w4c01 : w4.cell? ⟨w.heap.size, 1, none⟩ = some (.int .i64 0) := (cell_of_row _ _ _ _ _ _ f0); have w4c10 : w4.cell? ⟨w.heap.size + 1, 0, none⟩ = some (.int .i64 1) := (cell_of_row _ _ _ _ _ _ f1); have w4c11 : w4.cell? ⟨w.heap.size + 1, 1, none⟩ = some (.int .i64 1) := (cell_of_row _ _ _ _ _ _ f1); have w4c20 : w4.cell? ⟨w.heap.size + 1 + 1, 0, none⟩ = some (.int .i64 1) := (cell_of_row _ _ _ _ _ _ f2); have w4c21 : w4.cell? ⟨w.heap.size + 1 + 1, 1, none⟩ = some (.int .i64 2) := (cell_of_row _ _ _ _ _ _ f2); have w4c30 : w4.cell? ⟨w.heap.size + 1 + 1 + 1, 0, none⟩ = some (.int .i64 1) := (cell_of_row _ _ _ _ _ _ f3); have w4c31 : w4.cell? ⟨w.heap.size + 1 + 1 + 1, 1, none⟩ = some (.int .i64 3) := (cell_of_row _ _ _ _ _ _ f3); have w4n0 : ¬ w.heap.size = w4.heap.size := (by have h9 := lt_of_block f0; omega); have w4n1 : ¬ w.heap.size + 1 = w4.heap.size := (by have h9 := lt_of_block f1; omega); have w4n2 : ¬ w.heap.size + 1 + 1 = w4.heap.size := (by have h9 := lt_of_block f2; omega); have w4n3 : ¬ w.heap.size + 1 + 1 + 1 = w4.heap.size := (by have h9 := lt_of_block f3; omega); clear f0 f1 f2 f3; clear k4) | (go_at_call 23; refine (tvisits_any (n := 1) (m := 3) L2.out rfl rfl (by omega) (by omega)).mono ?_; rintro e w3 ⟨a3, c3, a3', c3', rfl, r3, k3⟩; have RA := hide r3.1; have RB := hide r3.2.1; have K3 := hide (below_on K2.out k3); clear r3 k3) | (go_at_call 43; refine (trelocate_any L1.out (by decide) (by decide) 0 1 0).mono ?_; intro e w2 h2; rw [rel_aw] at h2; obtain ⟨rfl, q2, k2⟩ := cht_low h2 K1.out HTB.out K1.out.size; have L2 := hide q2; have K2 := hide k2; clear h2 q2 k2) | (go_at_call 21; rw [← hW]; refine HN.out.mono ?_; rintro e w1 ⟨tb, rfl, q1, htb, k1⟩; have L1 := hide q1; have K1 := hide k1; have HTB := hide htb; clear q1 k1 htb) | fail)
  go_ret
  exact ⟨rfl, below_on HBW.out K6.out⟩
set_option maxRecDepth 100000 in
set_option maxHeartbeats 12800000 in
theorem tplay_any {w : World} {tb : Nat} {A B : List Vst} (h : TwoV w tb A B) (hA : A.length ≤ 400) (hB : B.length ≤ 400) (c : Nat) (hc : c < 6) (i j k : Int) : Calls Try.prog 22 #[.pointer (some ⟨tb, 0, none⟩), .int .i64 (c : Int), .int .i64 i, .int .i64 j, .int .i64 k] w (ChT w tb (interM A B c i j k)) := by
  rcases (show c = 0 ∨ c = 1 ∨ c = 2 ∨ c = 3 ∨ c = 4 ∨ c = 5 by omega) with rfl | rfl | rfl | rfl | rfl | rfl
  · have H := hide (trelocate_any h hA hB i j k)
    clear h
    go_enter Try.func22, Try.ntmps22
    go_wp2_with (first | (go_at_call 43; refine H.out.mono ?_; rintro e w1 ⟨rfl, k1, k2⟩; have K1 := hide k1; have K2 := hide k2; clear k1 k2) | fail)
    go_ret
    exact ⟨rfl, K1.out, K2.out⟩
  · have H := hide (texchange_any h hA hB i j k)
    clear h
    go_enter Try.func22, Try.ntmps22
    go_wp2_with (first | (go_at_call 26; refine H.out.mono ?_; rintro e w1 ⟨rfl, k1, k2⟩; have K1 := hide k1; have K2 := hide k2; clear k1 k2) | fail)
    go_ret
    exact ⟨rfl, K1.out, K2.out⟩
  · have H := hide (tcross_any h hA hB i j k)
    clear h
    go_enter Try.func22, Try.ntmps22
    go_wp2_with (first | (go_at_call 27; refine H.out.mono ?_; rintro e w1 ⟨rfl, k1, k2⟩; have K1 := hide k1; have K2 := hide k2; clear k1 k2) | fail)
    go_ret
    exact ⟨rfl, K1.out, K2.out⟩
  · have H := hide (tails_any h hA hB i j k)
    clear h
    go_enter Try.func22, Try.ntmps22
    go_wp2_with (first | (go_at_call 28; refine H.out.mono ?_; rintro e w1 ⟨rfl, k1, k2⟩; have K1 := hide k1; have K2 := hide k2; clear k1 k2) | fail)
    go_ret
    exact ⟨rfl, K1.out, K2.out⟩
  · have H := hide (tturned_any h hA hB i j k)
    clear h
    go_enter Try.func22, Try.ntmps22
    go_wp2_with (first | (go_at_call 44; refine H.out.mono ?_; rintro e w1 ⟨rfl, k1, k2⟩; have K1 := hide k1; have K2 := hide k2; clear k1 k2) | fail)
    go_ret
    exact ⟨rfl, K1.out, K2.out⟩
  · have H := hide (tswap_any h hA hB i j k)
    clear h
    go_enter Try.func22, Try.ntmps22
    go_wp2_with (first | (go_at_call 45; refine H.out.mono ?_; rintro e w1 ⟨rfl, k1, k2⟩; have K1 := hide k1; have K2 := hide k2; clear k1 k2) | fail)
    go_ret
    exact ⟨rfl, K1.out, K2.out⟩
end Go.Proofs.Ytdnkmjafkpnliaa
