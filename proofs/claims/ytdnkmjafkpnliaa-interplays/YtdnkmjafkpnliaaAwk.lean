/-
  The fixed facts of inner.
-/
import Derived.Test.YtdnkmjafkpnliaaRev
import Derived.Deep.RegionHeld3
namespace Go.Proofs.Ytdnkmjafkpnliaa
open Go.RowKit

/-- Visits that lie in a block. -/
theorem vs_lit {w : World} {b c : Nat} (V : List Vst) (hV : V.length ≤ 1000) (h : w.heap[b]? = some (.cells (flatV V).toArray 58)) : VsV w (.slice (some ⟨b, 0, none⟩) V.length c) V := by
  refine ⟨_, _, rfl, by omega, fun k hk => ⟨b, 0, rfl, ?_, ?_⟩⟩
  · rw [cell_of_row _ _ _ _ _ _ h]
    have := flatV_get V k 0 _ (getD_some hk) (by decide)
    rw [Nat.zero_add]
    simpa [encV] using this
  · rw [cell_of_row _ _ _ _ _ _ h]
    have := flatV_get V k 1 _ (getD_some hk) (by decide)
    rw [Nat.zero_add]
    simpa [encV] using this
theorem same_vs {w : World} {v u : Value} {V : List Vst} (h : VsV w v V) (h' : VsV w u V) : Calls Try.prog 16 #[v, u] w fun e w' => e = .returned (.bool true) ∧ Below w.heap.size w w' := sameVisits_any h h'
def vA : List Vst := [(1, 0), (1, 1), (1, 2), (1, 3)]
def vB : List Vst := [(1, 2), (1, 3), (1, 1), (1, 0)]
theorem mix_ab : mixM vA 0 2 = (vB, true) := by decide
set_option maxRecDepth 100000 in
set_option maxHeartbeats 6400000 in
theorem awake_any (w : World) : Calls Try.prog 12 #[] w fun e w' => e = .returned (.bool true) ∧ Below w.heap.size w w' := by
  obtain ⟨W, hW⟩ : ∃ W, W = ((((w.alloc (.cells #[.int .i64 1, .int .i64 0] 58)).alloc (.cells #[.int .i64 1, .int .i64 1] 58)).alloc (.cells #[.int .i64 1, .int .i64 2] 58)).alloc (.cells #[.int .i64 1, .int .i64 3] 58)).alloc (.cells #[.int .i64 1, .int .i64 0, .int .i64 1, .int .i64 1, .int .i64 1, .int .i64 2, .int .i64 1, .int .i64 3] 58) := ⟨_, rfl⟩
  have HBW : Hid (Below w.heap.size w W) := by rw [hW]; exact (((((Below.refl _ _).alloc (Nat.le_refl _) _).alloc (by simp) _).alloc (by simp <;> omega) _).alloc (by simp <;> omega) _).alloc (by simp <;> omega) _
  have HWS : Hid (W.heap.size = w.heap.size + 5) := by show _ = _; rw [hW]; simp
  have HC : Hid (∀ W2, Below W.heap.size W W2 → (W2.cell? ⟨w.heap.size, 0, none⟩ = some (.int .i64 1) ∧ W2.cell? ⟨w.heap.size, 1, none⟩ = some (.int .i64 0)) ∧ (W2.cell? ⟨w.heap.size + 1, 0, none⟩ = some (.int .i64 1) ∧ W2.cell? ⟨w.heap.size + 1, 1, none⟩ = some (.int .i64 1)) ∧ (W2.cell? ⟨w.heap.size + 1 + 1, 0, none⟩ = some (.int .i64 1) ∧ W2.cell? ⟨w.heap.size + 1 + 1, 1, none⟩ = some (.int .i64 2)) ∧ (W2.cell? ⟨w.heap.size + 1 + 1 + 1, 0, none⟩ = some (.int .i64 1) ∧ W2.cell? ⟨w.heap.size + 1 + 1 + 1, 1, none⟩ = some (.int .i64 3))) := fun W2 hf => by
    have e0 : W.heap[w.heap.size]? = some (.cells #[.int .i64 1, .int .i64 0] 58) := by rw [hW, heap_alloc_old _ _ (by simp <;> omega), heap_alloc_old _ _ (by simp <;> omega), heap_alloc_old _ _ (by simp <;> omega), heap_alloc_old _ _ (by simp), heap_alloc_new]
    have e1 : W.heap[w.heap.size + 1]? = some (.cells #[.int .i64 1, .int .i64 1] 58) := by rw [hW, heap_alloc_old _ _ (by simp <;> omega), heap_alloc_old _ _ (by simp <;> omega), heap_alloc_old _ _ (by simp)]; have h9 := heap_alloc_new (w.alloc (.cells #[.int .i64 1, .int .i64 0] 58)) (.cells #[.int .i64 1, .int .i64 1] 58); simpa using h9
    have e2 : W.heap[w.heap.size + 1 + 1]? = some (.cells #[.int .i64 1, .int .i64 2] 58) := by rw [hW, heap_alloc_old _ _ (by simp <;> omega), heap_alloc_old _ _ (by simp)]; have h9 := heap_alloc_new ((w.alloc (.cells #[.int .i64 1, .int .i64 0] 58)).alloc (.cells #[.int .i64 1, .int .i64 1] 58)) (.cells #[.int .i64 1, .int .i64 2] 58); simpa using h9
    have e3 : W.heap[w.heap.size + 1 + 1 + 1]? = some (.cells #[.int .i64 1, .int .i64 3] 58) := by rw [hW, heap_alloc_old _ _ (by simp)]; have h9 := heap_alloc_new (((w.alloc (.cells #[.int .i64 1, .int .i64 0] 58)).alloc (.cells #[.int .i64 1, .int .i64 1] 58)).alloc (.cells #[.int .i64 1, .int .i64 2] 58)) (.cells #[.int .i64 1, .int .i64 3] 58); simpa using h9
    have f : ∀ b A, b < w.heap.size + 5 → W.heap[b]? = some (.cells A 58) → W2.heap[b]? = some (.cells A 58) := fun b A hb h9 => (hf.block b (by rw [HWS.out]; exact hb)).trans h9
    exact ⟨⟨cell_of_row _ _ _ _ _ _ (f _ _ (by omega) e0), cell_of_row _ _ _ _ _ _ (f _ _ (by omega) e0)⟩, ⟨cell_of_row _ _ _ _ _ _ (f _ _ (by omega) e1), cell_of_row _ _ _ _ _ _ (f _ _ (by omega) e1)⟩, ⟨cell_of_row _ _ _ _ _ _ (f _ _ (by omega) e2), cell_of_row _ _ _ _ _ _ (f _ _ (by omega) e2)⟩, cell_of_row _ _ _ _ _ _ (f _ _ (by omega) e3), cell_of_row _ _ _ _ _ _ (f _ _ (by omega) e3)⟩
  have H10 : Hid (Calls Try.prog 13 #[.slice (some ⟨w.heap.size + 1 + 1 + 1 + 1, 0, none⟩) 4 4] W fun e w' => ∃ lb, e = .returned (.pointer (some ⟨lb, 0, none⟩)) ∧ LineV w' lb vA ∧ W.heap.size ≤ lb ∧ Below W.heap.size W w') := by
    refine new_any (V := vA) (m := 4) (vs_lit vA (by decide) ?_) rfl (by omega) (fun e => by cases e)
    rw [hW]
    have h9 := heap_alloc_new ((((w.alloc (.cells #[.int .i64 1, .int .i64 0] 58)).alloc (.cells #[.int .i64 1, .int .i64 1] 58)).alloc (.cells #[.int .i64 1, .int .i64 2] 58)).alloc (.cells #[.int .i64 1, .int .i64 3] 58)) (.cells #[.int .i64 1, .int .i64 0, .int .i64 1, .int .i64 1, .int .i64 1, .int .i64 2, .int .i64 1, .int .i64 3] 58)
    simp only [World.size_alloc] at h9
    exact h9
  go_enter Try.func12, Try.ntmps12
  go_wp2_with (first | (go_at_call 13; rw [← hW]; refine H10.out.mono ?_; rintro e w1 ⟨lb, rfl, q1, hlb, k1⟩; have L1 := hide q1; have K1 := hide k1; have H22 := hide (mixed_any q1 (by decide) 0 2 0); rw [mix_ab] at H22; clear q1 k1) | (go_at_call 29; refine H22.out.mono ?_; rintro e w2 ⟨rfl, q2, k2⟩; have L2 := hide q2; have K2 := hide (K1.out.trans (grw_low k2 hlb K1.out.size)); clear q2 k2) | fail)
  clear hW
  have p0a : w2.cell? ⟨w.heap.size, 0, none⟩ = some (.int .i64 1) := (HC.out _ K2.out).1.1; have p0b : w2.cell? ⟨w.heap.size, 1, none⟩ = some (.int .i64 0) := (HC.out _ K2.out).1.2
  have p1a : w2.cell? ⟨w.heap.size + 1, 0, none⟩ = some (.int .i64 1) := (HC.out _ K2.out).2.1.1; have p1b : w2.cell? ⟨w.heap.size + 1, 1, none⟩ = some (.int .i64 1) := (HC.out _ K2.out).2.1.2
  have p2a : w2.cell? ⟨w.heap.size + 1 + 1, 0, none⟩ = some (.int .i64 1) := (HC.out _ K2.out).2.2.1.1; have p2b : w2.cell? ⟨w.heap.size + 1 + 1, 1, none⟩ = some (.int .i64 2) := (HC.out _ K2.out).2.2.1.2
  have p3a : w2.cell? ⟨w.heap.size + 1 + 1 + 1, 0, none⟩ = some (.int .i64 1) := (HC.out _ K2.out).2.2.2.1; have p3b : w2.cell? ⟨w.heap.size + 1 + 1 + 1, 1, none⟩ = some (.int .i64 3) := (HC.out _ K2.out).2.2.2.2
  have lw : w.heap.size + 5 ≤ w2.heap.size := by have := K2.out.size; have := HWS.out; omega
  have H14 : Hid (∀ W2, Below w2.heap.size w2 W2 → Calls Try.prog 17 #[.pointer (some ⟨lb, 0, none⟩)] W2 fun e w' => ∃ a c, e = .returned (.slice a 4 c) ∧ VsV w' (.slice a 4 c) vB ∧ Below W2.heap.size W2 w') := fun W2 hf => by
    refine (visits_any (L2.out.on hf) (by decide)).mono ?_
    rintro e w' ⟨a, c, rfl, r1, k1⟩
    exact ⟨a, c, rfl, r1.vs (by decide), k1⟩
  have n0 : ¬ w.heap.size = w2.heap.size := by omega
  have n1 : ¬ w.heap.size + 1 = w2.heap.size := by omega
  have n2 : ¬ w.heap.size + 1 + 1 = w2.heap.size := by omega
  have n3 : ¬ w.heap.size + 1 + 1 + 1 = w2.heap.size := by omega
  go_wp2_with fail
  go_region_held3 (fun w' => w'.cell? ⟨w.heap.size, 0, none⟩ = some (.int .i64 1) ∧ w'.cell? ⟨w.heap.size, 1, none⟩ = some (.int .i64 0) ∧ w'.cell? ⟨w.heap.size + 1, 0, none⟩ = some (.int .i64 1) ∧ w'.cell? ⟨w.heap.size + 1, 1, none⟩ = some (.int .i64 1) ∧ w'.cell? ⟨w.heap.size + 1 + 1, 0, none⟩ = some (.int .i64 1) ∧ w'.cell? ⟨w.heap.size + 1 + 1, 1, none⟩ = some (.int .i64 2) ∧ w'.cell? ⟨w.heap.size + 1 + 1 + 1, 0, none⟩ = some (.int .i64 1) ∧ w'.cell? ⟨w.heap.size + 1 + 1 + 1, 1, none⟩ = some (.int .i64 3)) (go_keep) (first | (go_at_call 18; refine (all_any _).mono ?_; rintro e w3 ⟨g, rfl, _, _, k3⟩; have K3 := hide (below_on ((Below.refl _ _).drew) k3); have E3 := hide (below_on K2.out K3.out); have q0a : w3.cell? ⟨w.heap.size, 0, none⟩ = some (.int .i64 1) := (HC.out _ E3.out).1.1; have q0b : w3.cell? ⟨w.heap.size, 1, none⟩ = some (.int .i64 0) := (HC.out _ E3.out).1.2; have q1a : w3.cell? ⟨w.heap.size + 1, 0, none⟩ = some (.int .i64 1) := (HC.out _ E3.out).2.1.1; have q1b : w3.cell? ⟨w.heap.size + 1, 1, none⟩ = some (.int .i64 1) := (HC.out _ E3.out).2.1.2; have q2a : w3.cell? ⟨w.heap.size + 1 + 1, 0, none⟩ = some (.int .i64 1) := (HC.out _ E3.out).2.2.1.1; have q2b : w3.cell? ⟨w.heap.size + 1 + 1, 1, none⟩ = some (.int .i64 2) := (HC.out _ E3.out).2.2.1.2; have q3a : w3.cell? ⟨w.heap.size + 1 + 1 + 1, 0, none⟩ = some (.int .i64 1) := (HC.out _ E3.out).2.2.2.1; have q3b : w3.cell? ⟨w.heap.size + 1 + 1 + 1, 1, none⟩ = some (.int .i64 3) := (HC.out _ E3.out).2.2.2.2; have m0 : ¬ w.heap.size = w3.heap.size := (by have := K3.out.size; omega); have m1 : ¬ w.heap.size + 1 = w3.heap.size := (by have := K3.out.size; omega); have m2 : ¬ w.heap.size + 1 + 1 = w3.heap.size := (by have := K3.out.size; omega); have m3 : ¬ w.heap.size + 1 + 1 + 1 = w3.heap.size := (by have := K3.out.size; omega); clear k3) | (go_at_call 17; refine (H14.out _ (by with_reducible first | exact K3.out | exact below_on K3.out ((Below.refl _ _).alloc (Nat.le_refl _) _))).mono ?_; rintro e w4 ⟨a4, c4, rfl, r4, k4⟩; have R4 := hide r4; have F4 := hide k4; have K4 : Hid (Below w3.heap.size w3 w4) := (by first | exact k4 | exact below_on ((Below.refl _ _).alloc (Nat.le_refl _) _) k4); have E4 := hide (below_on E3.out K4.out); have r0a : w4.cell? ⟨w.heap.size, 0, none⟩ = some (.int .i64 1) := (HC.out _ E4.out).1.1; have r0b : w4.cell? ⟨w.heap.size, 1, none⟩ = some (.int .i64 0) := (HC.out _ E4.out).1.2; have r1a : w4.cell? ⟨w.heap.size + 1, 0, none⟩ = some (.int .i64 1) := (HC.out _ E4.out).2.1.1; have r1b : w4.cell? ⟨w.heap.size + 1, 1, none⟩ = some (.int .i64 1) := (HC.out _ E4.out).2.1.2; have r2a : w4.cell? ⟨w.heap.size + 1 + 1, 0, none⟩ = some (.int .i64 1) := (HC.out _ E4.out).2.2.1.1; have r2b : w4.cell? ⟨w.heap.size + 1 + 1, 1, none⟩ = some (.int .i64 2) := (HC.out _ E4.out).2.2.1.2; have r3a : w4.cell? ⟨w.heap.size + 1 + 1 + 1, 0, none⟩ = some (.int .i64 1) := (HC.out _ E4.out).2.2.2.1; have r3b : w4.cell? ⟨w.heap.size + 1 + 1 + 1, 1, none⟩ = some (.int .i64 3) := (HC.out _ E4.out).2.2.2.2; have o0 : ¬ w.heap.size = w4.heap.size := (by have := E4.out.size; have := HWS.out; omega); have o1 : ¬ w.heap.size + 1 = w4.heap.size := (by have := E4.out.size; have := HWS.out; omega); have o2 : ¬ w.heap.size + 1 + 1 = w4.heap.size := (by have := E4.out.size; have := HWS.out; omega); have o3 : ¬ w.heap.size + 1 + 1 + 1 = w4.heap.size := (by have := E4.out.size; have := HWS.out; omega); clear k4 r4) | (go_at_call 16; refine (same_vs (by first | exact R4.out | exact PrV.on R4.out ((Below.refl _ _).alloc (Nat.le_refl _) _)) (by first | exact vs_lit vB (by decide) (heap_alloc_new _ _) | exact vs_lit vB (by decide) ((F4.out.block _ (by simp)).trans (heap_alloc_new _ _)))).mono ?_; rintro e w5 ⟨rfl, k5⟩; have K5 : Hid (Below w4.heap.size w4 w5) := (by first | exact k5 | exact below_on ((Below.refl _ _).alloc (Nat.le_refl _) _) k5); have E5 := hide (below_on E4.out K5.out); have s0a : w5.cell? ⟨w.heap.size, 0, none⟩ = some (.int .i64 1) := (HC.out _ E5.out).1.1; have s0b : w5.cell? ⟨w.heap.size, 1, none⟩ = some (.int .i64 0) := (HC.out _ E5.out).1.2; have s1a : w5.cell? ⟨w.heap.size + 1, 0, none⟩ = some (.int .i64 1) := (HC.out _ E5.out).2.1.1; have s1b : w5.cell? ⟨w.heap.size + 1, 1, none⟩ = some (.int .i64 1) := (HC.out _ E5.out).2.1.2; have s2a : w5.cell? ⟨w.heap.size + 1 + 1, 0, none⟩ = some (.int .i64 1) := (HC.out _ E5.out).2.2.1.1; have s2b : w5.cell? ⟨w.heap.size + 1 + 1, 1, none⟩ = some (.int .i64 2) := (HC.out _ E5.out).2.2.1.2; have s3a : w5.cell? ⟨w.heap.size + 1 + 1 + 1, 0, none⟩ = some (.int .i64 1) := (HC.out _ E5.out).2.2.2.1; have s3b : w5.cell? ⟨w.heap.size + 1 + 1 + 1, 1, none⟩ = some (.int .i64 3) := (HC.out _ E5.out).2.2.2.2; clear k5) | fail)
  all_goals
    rename_i hHeld
    clear hHeld
    go_wp2_with fail
    go_ret
    exact ⟨rfl, below_on HBW.out E5.out⟩
end Go.Proofs.Ytdnkmjafkpnliaa
