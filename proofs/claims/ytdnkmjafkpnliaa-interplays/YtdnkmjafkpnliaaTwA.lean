/-
  Two lists in memory; what New, Visits, kept, within and All of inter do.
-/
import Derived.Test.YtdnkmjafkpnliaaSlA
import Derived.Deep.RegionHeld3
namespace Go.Proofs.Ytdnkmjafkpnliaa
open Go.RowKit

theorem low_alloc {w W : World} (h : Below w.heap.size w W) (o : Obj) : Below w.heap.size w (W.alloc o) := below_on h ((Below.refl _ _).alloc (Nat.le_refl _) o)
theorem low_drew {w W : World} (h : Below w.heap.size w W) : Below w.heap.size w W.drew := h.drew
/-- Two lists in memory, each in a row of its own. -/
def TwoV (w : World) (tb : Nat) (A B : List Vst) : Prop := ∃ a c a' c', w.heap[tb]? = some (.cells #[.slice a A.length c, .slice a' B.length c'] 72) ∧ (VRow w 0 (.slice a A.length c) A ∧ ∀ g, Value.ownBlock (.slice a A.length c) = some g → g ≠ tb) ∧ VRow w 0 (.slice a' B.length c') B ∧ ∀ g, Value.ownBlock (.slice a' B.length c') = some g → g ≠ tb
theorem TwoV.on {w w' : World} {tb : Nat} {A B : List Vst} (h : TwoV w tb A B) (f : Below w.heap.size w w') : TwoV w' tb A B := by
  obtain ⟨a, c, a', c', h1, ⟨h2, h3⟩, h4, h5⟩ := h
  exact ⟨a, c, a', c', (f.block tb (lt_of_block h1)).trans h1, ⟨h2.later (Nat.le_refl _) f, h3⟩, h4.later (Nat.le_refl _) f, h5⟩
theorem TwoV.lt {w : World} {tb : Nat} {A B : List Vst} (h : TwoV w tb A B) : tb < w.heap.size := by
  obtain ⟨_, _, _, _, h1, _⟩ := h
  exact lt_of_block h1
theorem TwoV.open {w : World} {tb n m : Nat} {A B : List Vst} (h : TwoV w tb A B) (hn : A.length = n) (hm : B.length = m) (hn2 : n ≤ 900) (hm2 : m ≤ 900) : ∃ a c a' c', w.heap[tb]? = some (.cells #[.slice a n c, .slice a' m c'] 72) ∧ SlI w a n c A ∧ SlI w a' m c' B := by
  obtain ⟨a, c, a', c', h1, ⟨h2, _⟩, h4, _⟩ := h
  rw [hn, hm] at h1
  rw [hn] at h2
  rw [hm] at h4
  exact ⟨a, c, a', c', h1, SlI.row h2 hn (by omega), SlI.row h4 hm (by omega)⟩
/-- What a change leaves behind. -/
def ChT (w : World) (tb : Nat) (r : List Vst × List Vst × Bool) (e : Ending) (w' : World) : Prop := e = .returned (.bool r.2.2) ∧ TwoV w' tb r.1 r.2.1 ∧ w.grownBy w' (some tb)
theorem cht_no {w w' : World} {tb : Nat} {A B : List Vst} {r : List Vst × List Vst × Bool} (hr : r = (A, B, false)) (h : TwoV w tb A B) (f : Below w.heap.size w w') : ChT w tb r (.returned (.bool false)) w' := by
  subst hr
  exact ⟨rfl, h.on f, below_grw f⟩
theorem cht_low {w w2 w' : World} {tb B : Nat} {r : List Vst × List Vst × Bool} {e : Ending} (h : ChT w2 tb r e w') (f : Below B w w2) (hB : B ≤ tb) (hs : B ≤ w2.heap.size) : e = .returned (.bool r.2.2) ∧ TwoV w' tb r.1 r.2.1 ∧ Below B w w' := ⟨h.1, h.2.1, f.trans (grw_low h.2.2 hB hs)⟩
theorem two_set {w w2 : World} {tb base : Nat} {x y v : Value} {L : List Vst} {j : Nat} {u : Value} (hb : w2.heap[tb]? = some (.cells #[x, y] 72)) (htb : tb < base) (h : VRow w base v L) (e : ∀ g, v.ownBlock = some g → w2.heap[g]? = w.heap[g]?) : VRow (w2.setCell ⟨tb, j, none⟩ u) base v L := by
  have _ := hb
  refine own_of_block h fun g hg => (heap_setCell_other _ _ _ _ ?_).trans (e g hg)
  have h1 := (World.ownsRow.lt h g hg).1
  intro e9
  have e8 : g = tb := e9
  omega
theorem two_yes {w w2 : World} {tb : Nat} {x y v1 v2 : Value} {L1 L2 : List Vst} {r : List Vst × List Vst × Bool} (hb : w2.heap[tb]? = some (.cells #[x, y] 72)) (htb : tb < w.heap.size) (K : Below w.heap.size w w2) (R1 : VRow w2 w.heap.size v1 L1) (R2 : VRow w2 w.heap.size v2 L2) (hr : r = (L1, L2, true)) : ChT w tb r (.returned (.bool true)) ((w2.setCell ⟨tb, 0, none⟩ v1).setCell ⟨tb, 1, none⟩ v2) := by
  subst hr
  obtain ⟨a1, c1, rfl, _⟩ := R1.shape
  obtain ⟨a2, c2, rfl, _⟩ := R2.shape
  have g1 := heap_setCell_same w2 tb 0 _ _ (.slice a1 L1.length c1) hb
  have g2 := heap_setCell_same _ tb 1 _ _ (.slice a2 L2.length c2) g1
  have q1 := two_set (j := 1) (u := .slice a2 L2.length c2) g1 htb (two_set (j := 0) (u := .slice a1 L1.length c1) hb htb R1 fun _ _ => rfl) fun _ _ => rfl
  have q2 := two_set (j := 1) (u := .slice a2 L2.length c2) g1 htb (two_set (j := 0) (u := .slice a1 L1.length c1) hb htb R2 fun _ _ => rfl) fun _ _ => rfl
  refine ⟨rfl, ⟨a1, c1, a2, c2, g2, ⟨q1.zero, fun g hg => ?_⟩, q2.zero, fun g hg => ?_⟩, grw_set (grw_set (below_grw K) _ _) _ _⟩
  · have h1 := (World.ownsRow.lt R1 g hg).1
    omega
  · have h1 := (World.ownsRow.lt R2 g hg).1
    omega
set_option maxRecDepth 100000 in
set_option maxHeartbeats 6400000 in
theorem tkept_any {w : World} {tb n c m c' : Nat} {a a' : Option Addr} (h : w.heap[tb]? = some (.cells #[.slice a n c, .slice a' m c'] 72)) : Calls Try.prog 46 #[.pointer (some ⟨tb, 0, none⟩)] w fun e w' => e = .returned (.tuple #[.slice a n c, .slice a' m c']) ∧ Below w.heap.size w w' := by
  have hc : w.cell? ⟨tb, 0, none⟩ = some (.slice a n c) := cell_of_row _ _ _ _ _ _ h
  have hc' : w.cell? ⟨tb, 1, none⟩ = some (.slice a' m c') := cell_of_row _ _ _ _ _ _ h
  have HB0 : Hid (∀ k, Below w.heap.size w (w.drewN k)) := fun k => below_drewN (Below.refl _ _) k
  go_enter Try.func46, Try.ntmps46
  go_wp2_with fail
  first | (go_quiet (fail)) | fail
  go_wp2_with fail
  go_ret2
  exact ⟨rfl, HB0.out _⟩
set_option maxRecDepth 100000 in
set_option maxHeartbeats 6400000 in
theorem tkept_nil (w : World) : Calls Try.prog 46 #[.pointer none] w fun e w' => e = .returned (.tuple #[.slice none 0 0, .slice none 0 0]) ∧ Below w.heap.size w w' := by
  go_enter Try.func46, Try.ntmps46
  go_wp2_with fail
  go_ret2
  exact ⟨rfl, Below.refl _ _⟩
set_option maxRecDepth 100000 in
set_option maxHeartbeats 6400000 in
theorem twithin_any (w : World) (i l : Int) : Calls Try.prog 49 #[.int .i64 i, .int .i64 l] w fun e w' => e = .returned (.bool (witB i l)) ∧ Below w.heap.size w w' := by
  by_cases h0 : 0 ≤ i
  · by_cases h1 : i ≤ l
    · have HR : Hid (witB i l = true) := by show _ = _; unfold witB; rw [decide_eq_true h0, decide_eq_true h1]; rfl
      go_enter Try.func49, Try.ntmps49
      go_wp2
      go_ret
      exact ⟨by rw [HR.out]; rfl, Below.refl _ _⟩
    · have HR : Hid (witB i l = false) := by show _ = _; unfold witB; rw [decide_eq_false h1, Bool.and_false]
      go_enter Try.func49, Try.ntmps49
      go_wp2
      go_ret
      exact ⟨by rw [HR.out]; rfl, Below.refl _ _⟩
  · have HR : Hid (witB i l = false) := by show _ = _; unfold witB; rw [decide_eq_false h0]; rfl
    go_enter Try.func49, Try.ntmps49
    go_wp2
    go_ret
    exact ⟨by rw [HR.out]; rfl, Below.refl _ _⟩
set_option maxRecDepth 100000 in
set_option maxHeartbeats 6400000 in
theorem tnew_any {w : World} {m c n c' : Nat} {a a' : Option Addr} {A B : List Vst} (hA : SlI w a m c A) (hB : SlI w a' n c' B) (hm : m ≤ 900) (hn : n ≤ 900) : Calls Try.prog 21 #[.slice a m c, .slice a' n c'] w fun e w' => ∃ tb, e = .returned (.pointer (some ⟨tb, 0, none⟩)) ∧ TwoV w' tb A B ∧ w.heap.size ≤ tb ∧ Below w.heap.size w w' := by
  have H1 := hide (clone_any hA.vs hA.len hm hA.nz)
  have H2 : Hid (∀ W2, Below w.heap.size w W2 → Calls Try.prog 30 #[.slice a' n c'] W2 fun e w' => ∃ a2 c2, e = .returned (.slice a2 n c2) ∧ VRow w' W2.heap.size (.slice a2 n c2) B ∧ Below W2.heap.size W2 w') := fun W2 hf => clone_any (PrV.on hB.vs hf) hB.len hn hB.nz
  have HA := hide hA.len
  have HB := hide hB.len
  clear hA hB
  go_enter Try.func21, Try.ntmps21
  go_wp2_with (first | (go_at_call 30; refine (H2.out _ K1.out).mono ?_; rintro e w2 ⟨a2, c2, rfl, r2, k2⟩; have R2 := hide r2; have K2 := hide k2; clear r2 k2) | (go_at_call 30; refine H1.out.mono ?_; rintro e w1 ⟨a1, c1, rfl, r1, k1⟩; have R1 := hide r1; have K1 := hide k1; clear r1 k1) | fail)
  go_ret
  have f := (Below.refl w2.heap.size w2).alloc (Nat.le_refl _) (.cells #[.slice a1 m c1, .slice a2 n c2] 72)
  refine ⟨w2.heap.size, rfl, ⟨a1, c1, a2, c2, ?_, ⟨?_, ?_⟩, ?_, ?_⟩, below_on K1.out K2.out |>.size, below_on (below_on K1.out K2.out) f⟩
  · rw [HA.out, HB.out]; exact heap_alloc_new _ _
  · rw [HA.out]; exact ((R1.out.zero).later (Nat.le_refl _) K2.out).later (Nat.le_refl _) f
  · intro g hg
    rw [HA.out] at hg
    have h1 := (World.ownsRow.lt R1.out g hg).2
    have h2 := K2.out.size
    omega
  · rw [HB.out]; exact (R2.out.zero).later (Nat.le_refl _) f
  · intro g hg
    rw [HB.out] at hg
    have := (World.ownsRow.lt R2.out g hg).2
    omega
set_option maxRecDepth 100000 in
set_option maxHeartbeats 6400000 in
theorem tvisits_any {w : World} {tb n m : Nat} {A B : List Vst} (h : TwoV w tb A B) (hn : A.length = n) (hm : B.length = m) (hn2 : n ≤ 900) (hm2 : m ≤ 900) : Calls Try.prog 23 #[.pointer (some ⟨tb, 0, none⟩)] w fun e w' => ∃ a c a' c', e = .returned (.tuple #[.slice a n c, .slice a' m c']) ∧ (VRow w' w.heap.size (.slice a n c) A ∧ VRow w' w.heap.size (.slice a' m c') B ∧ ∀ g, Value.ownBlock (.slice a n c) = some g → Value.ownBlock (.slice a' m c') ≠ some g) ∧ Below w.heap.size w w' := by
  obtain ⟨a, c, a', c', h1, hA, hB⟩ := h.open hn hm hn2 hm2
  have H46 := hide (tkept_any h1)
  have H1 : Hid (∀ W2, Below w.heap.size w W2 → Calls Try.prog 30 #[.slice a n c] W2 fun e w' => ∃ a2 c2, e = .returned (.slice a2 n c2) ∧ VRow w' W2.heap.size (.slice a2 n c2) A ∧ Below W2.heap.size W2 w') := fun W2 hf => clone_any (PrV.on hA.vs hf) hA.len hn2 hA.nz
  have H2 : Hid (∀ W2, Below w.heap.size w W2 → Calls Try.prog 30 #[.slice a' m c'] W2 fun e w' => ∃ a2 c2, e = .returned (.slice a2 m c2) ∧ VRow w' W2.heap.size (.slice a2 m c2) B ∧ Below W2.heap.size W2 w') := fun W2 hf => clone_any (PrV.on hB.vs hf) hB.len hm2 hB.nz
  clear h1 hA hB h hn hm
  go_enter Try.func23, Try.ntmps23
  go_wp2_with (first | (go_at_call 46; refine H46.out.mono ?_; rintro e w0 ⟨rfl, k0⟩; have K0 := hide k0; clear k0) | (go_at_call 30; refine (H2.out _ (below_on K0.out K1.out)).mono ?_; rintro e w2 ⟨a2, c2, rfl, r2, k2⟩; have R2 := hide r2; have K2 := hide k2; clear r2 k2) | (go_at_call 30; refine (H1.out _ K0.out).mono ?_; rintro e w1 ⟨a1, c1, rfl, r1, k1⟩; have R1 := hide r1; have K1 := hide k1; clear r1 k1) | fail)
  go_ret2
  refine ⟨a1, c1, a2, c2, rfl, ⟨own_mono (VRow.later R1.out (Nat.le_refl _) K2.out) K0.out.size, own_mono R2.out (below_on K0.out K1.out).size, fun g hg h9 => ?_⟩, below_on (below_on K0.out K1.out) K2.out⟩
  have h1 := (World.ownsRow.lt R1.out g hg).2
  have h2 := (World.ownsRow.lt R2.out g h9).1
  omega
set_option maxRecDepth 100000 in
set_option maxHeartbeats 6400000 in
theorem tvisits_nil (w : World) : Calls Try.prog 23 #[.pointer none] w fun e w' => e = .returned (.tuple #[.slice none 0 0, .slice none 0 0]) ∧ Below w.heap.size w w' := by
  have hnil : ∀ W, (binOp .eql 22 (.slice none 0 0) (.slice none 0 0)).run Try.prog W = .ok (.bool true) W := fun W => by kernel_rfl
  have H23 : Hid (∀ W2, Calls Try.prog 30 #[.slice none 0 0] W2 fun e w' => e = .returned (.slice none 0 0) ∧ Below W2.heap.size W2 w') := fun W2 => by
    go_enter Try.func30, Try.ntmps30
    go_wp2
    go_ret
    exact ⟨rfl, Below.refl _ _⟩
  clear hnil
  go_enter Try.func23, Try.ntmps23
  go_wp2_with (first | (go_at_call 46; refine (tkept_nil _).mono ?_; rintro e w1 ⟨rfl, k1⟩; have K1 := hide k1; clear k1) | (go_at_call 30; refine (H23.out _).mono ?_; rintro e w3 ⟨rfl, k3⟩; have K3 := hide (below_on K2.out k3); clear k3) | (go_at_call 30; refine (H23.out _).mono ?_; rintro e w2 ⟨rfl, k2⟩; have K2 := hide (below_on K1.out k2); clear k2) | fail)
  go_ret2
  exact ⟨rfl, K3.out⟩
set_option maxRecDepth 100000 in
set_option maxHeartbeats 6400000 in
theorem tall_any (w : World) : Calls Try.prog 25 #[] w fun e w' => ∃ g, e = .returned (.slice (some ⟨g, 0, none⟩) 6 6) ∧ w.heap.size ≤ g ∧ w'.heap[g]? = some (.cells #[.func (.func 43) #[] #[], .func (.func 26) #[] #[], .func (.func 27) #[] #[], .func (.func 28) #[] #[], .func (.func 44) #[] #[], .func (.func 45) #[] #[]] 53) ∧ Below w.heap.size w w' := by
  go_enter Try.func25, Try.ntmps25
  go_wp2
  go_ret
  exact ⟨_, rfl, Nat.le_refl _, heap_alloc_new _ _, (Below.refl _ _).alloc (Nat.le_refl _) _⟩
end Go.Proofs.Ytdnkmjafkpnliaa
