/-
  What the call of a line's swap does.
-/
import Derived.Test.YtdnkmjafkpnliaaLnA
import Derived.Deep.RegionHeld3
namespace Go.Proofs.Ytdnkmjafkpnliaa
open Go.RowKit

/-- The visits from a up to b and those from x up to y change places. -/
def swapM (V : List Vst) (a b x y : Nat) : List Vst := V.take a ++ ((V.drop x).take (y - x) ++ ((V.drop b).take (x - b) ++ ((V.drop a).take (b - a) ++ V.drop y)))
theorem swapM_len {V : List Vst} {a b x y : Nat} (h1 : a ≤ b) (h2 : b ≤ x) (h3 : x ≤ y) (h4 : y ≤ V.length) : (swapM V a b x y).length = V.length := by
  unfold swapM
  simp only [List.length_append, List.length_take, List.length_drop]
  omega
/-- Five slices of visits in a row. -/
theorem cat_five {w : World} {b : Nat} {a1 a2 a3 a4 a5 : Option Addr} {c1 c2 c3 c4 c5 : Nat} {V1 V2 V3 V4 V5 : List Vst} (hb : w.heap[b]? = some (.cells #[.slice a1 V1.length c1, .slice a2 V2.length c2, .slice a3 V3.length c3, .slice a4 V4.length c4, .slice a5 V5.length c5] 22))
    (h1 : VsV w (.slice a1 V1.length c1) V1 ∧ (a1 = none → c1 = 0)) (h2 : VsV w (.slice a2 V2.length c2) V2 ∧ (a2 = none → c2 = 0)) (h3 : VsV w (.slice a3 V3.length c3) V3 ∧ (a3 = none → c3 = 0)) (h4 : VsV w (.slice a4 V4.length c4) V4 ∧ (a4 = none → c4 = 0)) (h5 : VsV w (.slice a5 V5.length c5) V5 ∧ (a5 = none → c5 = 0)) :
    CatV w ⟨b, 0, none⟩ [(a1, c1, V1), (a2, c2, V2), (a3, c3, V3), (a4, c4, V4), (a5, c5, V5)] := ⟨fun k a c V hk => by
  have hc : ∀ j, w.cell? ((⟨b, 0, none⟩ : Addr).add j) = (#[.slice a1 V1.length c1, .slice a2 V2.length c2, .slice a3 V3.length c3, .slice a4 V4.length c4, .slice a5 V5.length c5] : Array Value)[j]? := fun j => by
    rw [add0]; exact cell_of_row _ _ _ _ _ _ hb
  rcases k with _ | _ | _ | _ | _ | k <;> simp at hk <;> obtain ⟨rfl, rfl, rfl⟩ := hk
  · exact ⟨hc 0, h1⟩
  · exact ⟨hc 1, h2⟩
  · exact ⟨hc 2, h3⟩
  · exact ⟨hc 3, h4⟩
  · exact ⟨hc 4, h5⟩⟩
set_option maxRecDepth 100000 in
set_option maxHeartbeats 6400000 in
theorem swap_a {w : World} {lb g n c a b x y : Nat} {V : List Vst} (hbx : w.heap[lb]? = some (.cells #[.slice (some ⟨g, 0, none⟩) n c] 63)) (hV : VsV w (.slice (some ⟨g, 0, none⟩) n c) V) (hm : V.length = n) (hm2 : n ≤ 900) (hc : n ≤ c) (h1 : a < b) (h2 : b ≤ x) (h3 : x < y) (h4 : y ≤ n) (hyc : ¬ c = y) :
    Calls Try.prog 52 #[.pointer (some ⟨lb, 0, none⟩), .int .i64 a, .int .i64 b, .int .i64 x, .int .i64 y] w fun e w' => e = .returned (.tuple #[]) ∧ LineV w' lb (swapM V a b x y) ∧ w.grownBy w' (some lb) := by
  have HBX := hide hbx
  have HV := hide hV
  have HM := hide hm
  have x0 : w.cell? ⟨lb, 0, none⟩ = some (.slice (some ⟨g, 0, none⟩) n c) := cell_of_row _ _ _ _ _ _ hbx
  clear hbx hV hm
  have ia : (0 : Int) ≤ (a : Int) := by omega
  have ia2 : (a : Int) ≤ (c : Int) := by omega
  have ix : (0 : Int) ≤ (x : Int) := by omega
  have ix2 : (x : Int) ≤ (y : Int) := by omega
  have iy : (y : Int) ≤ (c : Int) := by omega
  have ib : (0 : Int) ≤ (b : Int) := by omega
  have ibx : (b : Int) ≤ (x : Int) := by omega
  have ixc : (x : Int) ≤ (c : Int) := by omega
  have iab : (a : Int) ≤ (b : Int) := by omega
  have ibc : (b : Int) ≤ (c : Int) := by omega
  have iyn : (y : Int) ≤ (n : Int) := by omega
  have iy0 : (0 : Int) ≤ (y : Int) := by omega
  have inc : (n : Int) ≤ (c : Int) := by omega
  have nx : ¬ c = x := by omega
  have nb : ¬ c = b := by omega
  have na : ¬ c = a := by omega
  obtain ⟨V1, hV1⟩ : ∃ V1, V.take a = V1 := ⟨_, rfl⟩
  obtain ⟨V2, hV2⟩ : ∃ V2, (V.drop x).take (y - x) = V2 := ⟨_, rfl⟩
  obtain ⟨V3, hV3⟩ : ∃ V3, (V.drop b).take (x - b) = V3 := ⟨_, rfl⟩
  obtain ⟨V4, hV4⟩ : ∃ V4, (V.drop a).take (b - a) = V4 := ⟨_, rfl⟩
  obtain ⟨V5, hV5⟩ : ∃ V5, V.drop y = V5 := ⟨_, rfl⟩
  have l1 : V1.length = a := by rw [← hV1, List.length_take, HM.out]; omega
  have l2 : V2.length = y - x := by rw [← hV2, List.length_take, List.length_drop, HM.out]; omega
  have l3 : V3.length = x - b := by rw [← hV3, List.length_take, List.length_drop, HM.out]; omega
  have l4 : V4.length = b - a := by rw [← hV4, List.length_take, List.length_drop, HM.out]; omega
  have l5 : V5.length = n - y := by rw [← hV5, List.length_drop, HM.out]
  have p1 : VsV w (.slice (some ⟨g, 0, none⟩) a c) V1 := by
    have h9 := vs_part (s := 0) (n := a) (c' := c) HV.out HM.out (Nat.zero_le _) (by omega)
    rw [Nat.zero_mul, Nat.add_zero, Nat.sub_zero, List.drop_zero, hV1] at h9
    exact h9
  have p2 : VsV w (.slice (some ⟨g, x * 2, none⟩) (y - x) (c - x)) V2 := by
    have h9 := vs_part (s := x) (n := y) (c' := c - x) HV.out HM.out (by omega) (by omega)
    rw [Nat.zero_add, hV2] at h9
    exact h9
  have p3 : VsV w (.slice (some ⟨g, b * 2, none⟩) (x - b) (c - b)) V3 := by
    have h9 := vs_part (s := b) (n := x) (c' := c - b) HV.out HM.out (by omega) (by omega)
    rw [Nat.zero_add, hV3] at h9
    exact h9
  have p4 : VsV w (.slice (some ⟨g, a * 2, none⟩) (b - a) (c - a)) V4 := by
    have h9 := vs_part (s := a) (n := b) (c' := c - a) HV.out HM.out (by omega) (by omega)
    rw [Nat.zero_add, hV4] at h9
    exact h9
  have p5 : VsV w (.slice (some ⟨g, y * 2, none⟩) (n - y) (c - y)) V5 := by
    have h9 := vs_part (s := y) (n := n) (c' := c - y) HV.out HM.out (by omega) (Nat.le_refl _)
    rw [Nat.zero_add, List.take_of_length_le (by rw [List.length_drop, HM.out]; exact Nat.le_refl _), hV5] at h9
    exact h9
  have HSM : Hid (swapM V a b x y = V1 ++ (V2 ++ (V3 ++ (V4 ++ V5)))) := by show _ = _; unfold swapM; rw [hV1, hV2, hV3, hV4, hV5]
  have HSL : Hid ((swapM V a b x y).length = n) := by show _ = _; rw [swapM_len (by omega) h2 (by omega) (by rw [HM.out]; exact h4), HM.out]
  obtain ⟨W, hW⟩ : ∃ W, W = (w.alloc (.cells #[.slice (some ⟨g, 0, none⟩) a c, .slice (some ⟨g, x * 2, none⟩) (y - x) (c - x), .slice (some ⟨g, b * 2, none⟩) (x - b) (c - b), .slice (some ⟨g, a * 2, none⟩) (b - a) (c - a), .slice (some ⟨g, y * 2, none⟩) (n - y) (c - y)] 22)).drew := ⟨_, rfl⟩
  have HBW : Hid (Below w.heap.size w W) := by rw [hW]; exact ((Below.refl _ _).alloc (Nat.le_refl _) _).drew
  have HNB : Hid (w.heap.size < W.heap.size) := by show _ < _; rw [hW]; simp
  have H40 : Hid (Calls Try.prog 50 #[.slice (some ⟨w.heap.size, 0, none⟩) 5 5] W fun e w' => ∃ v, e = .returned v ∧ VRow w' W.heap.size v (swapM V a b x y) ∧ Below W.heap.size W w') := by
    have hb : W.heap[w.heap.size]? = some (.cells #[.slice (some ⟨g, 0, none⟩) V1.length c, .slice (some ⟨g, x * 2, none⟩) V2.length (c - x), .slice (some ⟨g, b * 2, none⟩) V3.length (c - b), .slice (some ⟨g, a * 2, none⟩) V4.length (c - a), .slice (some ⟨g, y * 2, none⟩) V5.length (c - y)] 22) := by
      rw [l1, l2, l3, l4, l5, hW]
      exact heap_alloc_new w _
    have hcat := cat_five hb ⟨by rw [l1]; exact PrV.on p1 HBW.out, fun e => by cases e⟩ ⟨by rw [l2]; exact PrV.on p2 HBW.out, fun e => by cases e⟩ ⟨by rw [l3]; exact PrV.on p3 HBW.out, fun e => by cases e⟩ ⟨by rw [l4]; exact PrV.on p4 HBW.out, fun e => by cases e⟩ ⟨by rw [l5]; exact PrV.on p5 HBW.out, fun e => by cases e⟩
    have hl : catL [(some ⟨g, 0, none⟩, c, V1), (some ⟨g, x * 2, none⟩, c - x, V2), (some ⟨g, b * 2, none⟩, c - b, V3), (some ⟨g, a * 2, none⟩, c - a, V4), (some ⟨g, y * 2, none⟩, c - y, V5)] = swapM V a b x y := by rw [HSM.out]; simp [catL]
    have h9 := concat_any (n := 5) (c := 5) hcat HNB.out rfl (by rw [hl, HSL.out]; omega) (by rw [hl, HSL.out]; omega) (by omega)
    rw [hl] at h9
    exact h9
  clear p1 p2 p3 p4 p5 l1 l2 l3 l4 l5 hV1 hV2 hV3 hV4 hV5
  go_enter Try.func52, Try.ntmps52
  go_wp2_with fail
  go_region_held3 (fun _ => True) (trivial) (first | (go_at_call 50; rw [← hW]; refine H40.out.mono ?_; rintro e w2 ⟨v, rfl, r2, k2⟩; obtain ⟨a2, c2, rfl, _⟩ := r2.shape; rw [HSL.out] at r2 ⊢; have R2 := hide r2; have K2 := hide (below_on HBW.out k2); have HB2 := hide ((K2.out.block lb (lt_of_block HBX.out)).trans HBX.out); have x2 : w2.cell? ⟨lb, 0, none⟩ = some (.slice (some ⟨g, 0, none⟩) n c) := cell_of_row _ _ _ _ _ _ HB2.out; have xf : w2.frozen? ⟨lb, 0, none⟩ = false := frz_row HB2.out; clear r2 k2) | fail)
  rename_i hHeld
  clear hHeld
  go_wp2_with fail
  go_end0
  have hg := heap_setCell_same w2 lb 0 _ _ (.slice a2 n c2) HB2.out
  have hne : ∀ g, Value.ownBlock (.slice a2 n c2) = some g → g ≠ lb := fun g h9 => by
    have h1 := (World.ownsRow.lt R2.out g (by rw [← h9])).1
    have h2 := lt_of_block HBX.out
    have h3 := HNB.out
    omega
  refine ⟨rfl, ⟨a2, c2, ?_, ?_, ?_⟩, grw_set (below_grw K2.out) _ _⟩
  · rw [HSL.out]; exact hg
  · rw [HSL.out]
    have hr := own_mono R2.out (Nat.zero_le _)
    exact own_of_block hr fun g h9 => heap_setCell_other _ _ _ _ (hne g h9)
  · rw [HSL.out]; exact hne
set_option maxRecDepth 100000 in
set_option maxHeartbeats 6400000 in
theorem swap_b {w : World} {lb g a b x y : Nat} {V : List Vst} (hbx : w.heap[lb]? = some (.cells #[.slice (some ⟨g, 0, none⟩) y y] 63)) (hV : VsV w (.slice (some ⟨g, 0, none⟩) y y) V) (hm : V.length = y) (hm2 : y ≤ 900) (h1 : a < b) (h2 : b ≤ x) (h3 : x < y) :
    Calls Try.prog 52 #[.pointer (some ⟨lb, 0, none⟩), .int .i64 a, .int .i64 b, .int .i64 x, .int .i64 y] w fun e w' => e = .returned (.tuple #[]) ∧ LineV w' lb (swapM V a b x y) ∧ w.grownBy w' (some lb) := by
  have HBX := hide hbx
  have HV := hide hV
  have HM := hide hm
  have x0 : w.cell? ⟨lb, 0, none⟩ = some (.slice (some ⟨g, 0, none⟩) y y) := cell_of_row _ _ _ _ _ _ hbx
  clear hbx hV hm
  have ia : (0 : Int) ≤ (a : Int) := by omega
  have ix : (0 : Int) ≤ (x : Int) := by omega
  have ia2 : (a : Int) ≤ (y : Int) := by omega
  have ibc : (b : Int) ≤ (y : Int) := by omega
  have ix2 : (x : Int) ≤ (y : Int) := by omega
  have ib : (0 : Int) ≤ (b : Int) := by omega
  have ibx : (b : Int) ≤ (x : Int) := by omega
  have iab : (a : Int) ≤ (b : Int) := by omega
  have iy0 : (0 : Int) ≤ (y : Int) := by omega
  have nx : ¬ y = x := by omega
  have nb : ¬ y = b := by omega
  have na : ¬ y = a := by omega
  obtain ⟨V1, hV1⟩ : ∃ V1, V.take a = V1 := ⟨_, rfl⟩
  obtain ⟨V2, hV2⟩ : ∃ V2, (V.drop x).take (y - x) = V2 := ⟨_, rfl⟩
  obtain ⟨V3, hV3⟩ : ∃ V3, (V.drop b).take (x - b) = V3 := ⟨_, rfl⟩
  obtain ⟨V4, hV4⟩ : ∃ V4, (V.drop a).take (b - a) = V4 := ⟨_, rfl⟩
  obtain ⟨V5, hV5⟩ : ∃ V5, V.drop y = V5 := ⟨_, rfl⟩
  have l1 : V1.length = a := by rw [← hV1, List.length_take, HM.out]; omega
  have l2 : V2.length = y - x := by rw [← hV2, List.length_take, List.length_drop, HM.out]; omega
  have l3 : V3.length = x - b := by rw [← hV3, List.length_take, List.length_drop, HM.out]; omega
  have l4 : V4.length = b - a := by rw [← hV4, List.length_take, List.length_drop, HM.out]; omega
  have l5 : V5.length = 0 := by rw [← hV5, List.length_drop, HM.out]; omega
  have p1 : VsV w (.slice (some ⟨g, 0, none⟩) a y) V1 := by
    have h9 := vs_part (s := 0) (n := a) (c' := y) HV.out HM.out (Nat.zero_le _) (by omega)
    rw [Nat.zero_mul, Nat.add_zero, Nat.sub_zero, List.drop_zero, hV1] at h9
    exact h9
  have p2 : VsV w (.slice (some ⟨g, x * 2, none⟩) (y - x) (y - x)) V2 := by
    have h9 := vs_part (s := x) (n := y) (c' := y - x) HV.out HM.out (by omega) (by omega)
    rw [Nat.zero_add, hV2] at h9
    exact h9
  have p3 : VsV w (.slice (some ⟨g, b * 2, none⟩) (x - b) (y - b)) V3 := by
    have h9 := vs_part (s := b) (n := x) (c' := y - b) HV.out HM.out (by omega) (by omega)
    rw [Nat.zero_add, hV3] at h9
    exact h9
  have p4 : VsV w (.slice (some ⟨g, a * 2, none⟩) (b - a) (y - a)) V4 := by
    have h9 := vs_part (s := a) (n := b) (c' := y - a) HV.out HM.out (by omega) (by omega)
    rw [Nat.zero_add, hV4] at h9
    exact h9
  have p5 : VsV w (.slice (some ⟨g, 0, none⟩) 0 0) V5 := by
    have e1 : V5 = [] := List.eq_nil_of_length_eq_zero l5
    rw [e1]
    exact ⟨_, _, rfl, by simp, fun k hk => by simp at hk⟩
  have HSM : Hid (swapM V a b x y = V1 ++ (V2 ++ (V3 ++ (V4 ++ V5)))) := by show _ = _; unfold swapM; rw [hV1, hV2, hV3, hV4, hV5]
  have HSL : Hid ((swapM V a b x y).length = y) := by show _ = _; rw [swapM_len (by omega) h2 (by omega) (by rw [HM.out]; exact Nat.le_refl _), HM.out]
  obtain ⟨W, hW⟩ : ∃ W, W = (w.alloc (.cells #[.slice (some ⟨g, 0, none⟩) a y, .slice (some ⟨g, x * 2, none⟩) (y - x) (y - x), .slice (some ⟨g, b * 2, none⟩) (x - b) (y - b), .slice (some ⟨g, a * 2, none⟩) (b - a) (y - a), .slice (some ⟨g, 0, none⟩) 0 0] 22)).drew := ⟨_, rfl⟩
  have HBW : Hid (Below w.heap.size w W) := by rw [hW]; exact ((Below.refl _ _).alloc (Nat.le_refl _) _).drew
  have HNB : Hid (w.heap.size < W.heap.size) := by show _ < _; rw [hW]; simp
  have H40 : Hid (Calls Try.prog 50 #[.slice (some ⟨w.heap.size, 0, none⟩) 5 5] W fun e w' => ∃ v, e = .returned v ∧ VRow w' W.heap.size v (swapM V a b x y) ∧ Below W.heap.size W w') := by
    have hb : W.heap[w.heap.size]? = some (.cells #[.slice (some ⟨g, 0, none⟩) V1.length y, .slice (some ⟨g, x * 2, none⟩) V2.length (y - x), .slice (some ⟨g, b * 2, none⟩) V3.length (y - b), .slice (some ⟨g, a * 2, none⟩) V4.length (y - a), .slice (some ⟨g, 0, none⟩) V5.length 0] 22) := by
      rw [l1, l2, l3, l4, l5, hW]
      exact heap_alloc_new w _
    have hcat := cat_five hb ⟨by rw [l1]; exact PrV.on p1 HBW.out, fun e => by cases e⟩ ⟨by rw [l2]; exact PrV.on p2 HBW.out, fun e => by cases e⟩ ⟨by rw [l3]; exact PrV.on p3 HBW.out, fun e => by cases e⟩ ⟨by rw [l4]; exact PrV.on p4 HBW.out, fun e => by cases e⟩ ⟨by rw [l5]; exact PrV.on p5 HBW.out, fun e => by cases e⟩
    have hl : catL [(some ⟨g, 0, none⟩, y, V1), (some ⟨g, x * 2, none⟩, y - x, V2), (some ⟨g, b * 2, none⟩, y - b, V3), (some ⟨g, a * 2, none⟩, y - a, V4), (some ⟨g, 0, none⟩, 0, V5)] = swapM V a b x y := by rw [HSM.out]; simp [catL]
    have h9 := concat_any (n := 5) (c := 5) hcat HNB.out rfl (by rw [hl, HSL.out]; omega) (by rw [hl, HSL.out]; omega) (by omega)
    rw [hl] at h9
    exact h9
  clear p1 p2 p3 p4 p5 l1 l2 l3 l4 l5 hV1 hV2 hV3 hV4 hV5
  go_enter Try.func52, Try.ntmps52
  go_wp2_with fail
  go_region_held3 (fun _ => True) (trivial) (first | (go_at_call 50; rw [← hW]; refine H40.out.mono ?_; rintro e w2 ⟨v, rfl, r2, k2⟩; obtain ⟨a2, c2, rfl, _⟩ := r2.shape; rw [HSL.out] at r2 ⊢; have R2 := hide r2; have K2 := hide (below_on HBW.out k2); have HB2 := hide ((K2.out.block lb (lt_of_block HBX.out)).trans HBX.out); have x2 : w2.cell? ⟨lb, 0, none⟩ = some (.slice (some ⟨g, 0, none⟩) y y) := cell_of_row _ _ _ _ _ _ HB2.out; have xf : w2.frozen? ⟨lb, 0, none⟩ = false := frz_row HB2.out; clear r2 k2) | fail)
  rename_i hHeld
  clear hHeld
  go_wp2_with fail
  go_end0
  have hg := heap_setCell_same w2 lb 0 _ _ (.slice a2 y c2) HB2.out
  have hne : ∀ g, Value.ownBlock (.slice a2 y c2) = some g → g ≠ lb := fun g h9 => by
    have h1 := (World.ownsRow.lt R2.out g (by rw [← h9])).1
    have h2 := lt_of_block HBX.out
    have h3 := HNB.out
    omega
  refine ⟨rfl, ⟨a2, c2, ?_, ?_, ?_⟩, grw_set (below_grw K2.out) _ _⟩
  · rw [HSL.out]; exact hg
  · rw [HSL.out]
    have hr := own_mono R2.out (Nat.zero_le _)
    exact own_of_block hr fun g h9 => heap_setCell_other _ _ _ _ (hne g h9)
  · rw [HSL.out]; exact hne
theorem swap_any {w : World} {lb g n c a b x y : Nat} {V : List Vst} (hbx : w.heap[lb]? = some (.cells #[.slice (some ⟨g, 0, none⟩) n c] 63)) (hV : VsV w (.slice (some ⟨g, 0, none⟩) n c) V) (hm : V.length = n) (hm2 : n ≤ 900) (hc : n ≤ c) (h1 : a < b) (h2 : b ≤ x) (h3 : x < y) (h4 : y ≤ n) :
    Calls Try.prog 52 #[.pointer (some ⟨lb, 0, none⟩), .int .i64 a, .int .i64 b, .int .i64 x, .int .i64 y] w fun e w' => e = .returned (.tuple #[]) ∧ LineV w' lb (swapM V a b x y) ∧ w.grownBy w' (some lb) := by
  by_cases hyc : c = y
  · have e1 : n = y := by omega
    subst hyc e1
    exact swap_b hbx hV hm hm2 h1 h2 h3
  · exact swap_a hbx hV hm hm2 hc h1 h2 h3 h4 hyc
end Go.Proofs.Ytdnkmjafkpnliaa
