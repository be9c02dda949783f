/-
  A line in memory; what slices.Clone, kept, rise, within, New, Visits and All do.
-/
import Derived.Test.YtdnkmjafkpnliaaBb
namespace Go.Proofs.Ytdnkmjafkpnliaa
open Go.RowKit

/-- A line in memory: its visits in a row of their own. -/
def LineV (w : World) (lb : Nat) (V : List Vst) : Prop := ∃ a c, w.heap[lb]? = some (.cells #[.slice a V.length c] 63) ∧ VRow w 0 (.slice a V.length c) V ∧ ∀ g, Value.ownBlock (.slice a V.length c) = some g → g ≠ lb
theorem VRow.zero {w : World} {base : Nat} {v : Value} {V : List Vst} (h : VRow w base v V) : VRow w 0 v V := own_mono h (Nat.zero_le _)
theorem LineV.on {w w' : World} {lb : Nat} {V : List Vst} (h : LineV w lb V) (f : Below w.heap.size w w') : LineV w' lb V := by
  obtain ⟨a, c, h1, h2, h3⟩ := h
  exact ⟨a, c, (f.block lb (lt_of_block h1)).trans h1, h2.later (Nat.le_refl _) f, h3⟩
theorem LineV.lt {w : World} {lb : Nat} {V : List Vst} (h : LineV w lb V) : lb < w.heap.size := by
  obtain ⟨a, c, h1, _⟩ := h
  exact lt_of_block h1
/-- The slice that a line holds. -/
theorem LineV.open {w : World} {lb : Nat} {V : List Vst} (h : LineV w lb V) (hn : V.length ≤ 1000) : ∃ a c, w.heap[lb]? = some (.cells #[.slice a V.length c] 63) ∧ VRow w 0 (.slice a V.length c) V ∧ VsV w (.slice a V.length c) V ∧ (a = none → c = 0) ∧ V.length ≤ c ∧ (∀ g, Value.ownBlock (.slice a V.length c) = some g → g ≠ lb) ∧ (0 < V.length → ∃ g, a = some ⟨g, 0, none⟩ ∧ g ≠ lb) := by
  obtain ⟨a, c, h1, h2, h3⟩ := h
  obtain ⟨a', c', e, hz⟩ := h2.shape
  injection e with e1 _ e2
  subst e1 e2
  have hp : 0 < V.length → (∃ g, a = some ⟨g, 0, none⟩ ∧ g ≠ lb) ∧ V.length ≤ c := fun hl => by
    obtain ⟨g, rfl, hc⟩ := vrow_pos h2 hl
    exact ⟨⟨g, rfl, h3 g rfl⟩, hc⟩
  refine ⟨a, c, h1, h2, h2.vs (by omega), hz, ?_, h3, fun hl => (hp hl).1⟩
  rcases Nat.eq_zero_or_pos V.length with e | e
  · omega
  · exact (hp e).2
set_option maxRecDepth 100000 in
set_option maxHeartbeats 3200000 in
theorem clone_any {w : World} {m vc : Nat} {va : Option Addr} {V : List Vst} (hV : VsV w (.slice va m vc) V) (hm : V.length = m) (hm2 : m ≤ 900) (hz : va = none → vc = 0) :
    Calls Try.prog 30 #[.slice va m vc] w fun e w' => ∃ a c, e = .returned (.slice a m c) ∧ VRow w' w.heap.size (.slice a m c) V ∧ Below w.heap.size w w' := by
  have HV := hide hV
  have HM := hide hm
  have HZ := hide hz
  clear hV hm hz
  have f0 : Below w.heap.size w (w.alloc (.cells #[] 58)) := (Below.refl _ _).alloc (Nat.le_refl _) _
  have HF0 := hide f0
  have HROW : Hid (VRow (w.alloc (.cells #[] 58)) w.heap.size (.slice (some ⟨w.heap.size, 0, none⟩) 0 0) []) := World.ownsRow_made w #[] 0 (Nat.le_refl _) (by unfold maxLen; omega) rfl
  clear f0
  cases va with
  | none =>
    have hv0 := HZ.out rfl
    subst hv0
    have h0 : m = 0 := by
      rcases Nat.eq_zero_or_pos m with e | e
      · exact e
      · exfalso
        obtain ⟨u, hu⟩ : ∃ u, V[0]? = some u := ⟨_, List.getElem?_eq_getElem (by rw [HM.out]; exact e)⟩
        obtain ⟨b, off, e2, _⟩ := vs_cells HV.out hu
        cases e2
    subst h0
    have hV0 : V = [] := List.eq_nil_of_length_eq_zero HM.out
    subst hV0
    have hnil : ∀ W, (binOp .eql 22 (.slice none 0 0) (.slice none 0 0)).run Try.prog W = .ok (.bool true) W := fun W => by kernel_rfl
    go_enter Try.func30, Try.ntmps30
    go_wp2
    go_ret
    exact ⟨_, _, rfl, World.ownsRow_nil w _ 58 2, Below.refl _ _⟩
  | some ad =>
    have hnil : ∀ W, (binOp .eql 22 (.slice (some ad) m vc) (.slice none 0 0)).run Try.prog W = .ok (.bool false) W := fun W => by kernel_rfl
    rcases Nat.eq_zero_or_pos m with e | e
    · subst e
      have hV0 : V = [] := List.eq_nil_of_length_eq_zero HM.out
      subst hV0
      go_enter Try.func30, Try.ntmps30
      go_wp2_with fail
      go_ret
      exact ⟨_, _, rfl, HROW.out, HF0.out⟩
    · go_enter Try.func30, Try.ntmps30
      go_wp2_with (first | (at_builtin; refine app_vis (.tmp 5) (.tmp 6) rfl rfl rfl rfl HROW.out rfl (PrV.on HV.out HF0.out) HM.out HZ.out (by omega) HF0.out.size ?_; intro a2 c2 w2 r1 r2 _; have HR := hide r1; have HB := hide (HF0.out.trans r2); clear r1 r2) | fail)
      have HR2 : Hid (VRow w2 w.heap.size (.slice a2 m c2) V) := by have h9 := HR.out; rw [Nat.zero_add, List.nil_append] at h9; exact h9
      go_ret
      exact ⟨a2, c2, rfl, HR2.out, HB.out⟩
set_option maxRecDepth 100000 in
set_option maxHeartbeats 3200000 in
theorem kept_any {w : World} {lb n c : Nat} {a : Option Addr} (h : w.heap[lb]? = some (.cells #[.slice a n c] 63)) : Calls Try.prog 42 #[.pointer (some ⟨lb, 0, none⟩)] w fun e w' => e = .returned (.slice a n c) ∧ Below w.heap.size w w' := by
  have hc : w.cell? ⟨lb, 0, none⟩ = some (.slice a n c) := cell_of_row _ _ _ _ _ _ h
  go_enter Try.func42, Try.ntmps42
  go_wp2
  go_ret
  exact ⟨rfl, Below.refl _ _⟩
set_option maxRecDepth 100000 in
set_option maxHeartbeats 3200000 in
theorem kept_nil (w : World) : Calls Try.prog 42 #[.pointer none] w fun e w' => e = .returned (.slice none 0 0) ∧ Below w.heap.size w w' := by
  go_enter Try.func42, Try.ntmps42
  go_wp2
  go_ret
  exact ⟨rfl, Below.refl _ _⟩
def riseB (n : Nat) (i j : Int) : Bool := decide (0 ≤ i) && decide (i < j) && decide (j < (n : Int))
set_option maxRecDepth 100000 in
set_option maxHeartbeats 3200000 in
theorem rise_gen {w : World} {pt : Value} {n c : Nat} {a : Option Addr} (i j : Int) (h : Calls Try.prog 42 #[pt] w fun e w' => e = .returned (.slice a n c) ∧ Below w.heap.size w w') : Calls Try.prog 53 #[pt, .int .i64 i, .int .i64 j] w fun e w' => e = .returned (.bool (riseB n i j)) ∧ Below w.heap.size w w' := by
  have H := hide h
  clear h
  by_cases h0 : 0 ≤ i
  · by_cases h1 : i < j
    · by_cases h2 : j < (n : Int)
      · have HR : Hid (riseB n i j = true) := by show _ = _; unfold riseB; rw [decide_eq_true h0, decide_eq_true h1, decide_eq_true h2]; rfl
        go_enter Try.func53, Try.ntmps53
        go_wp2_with (first | (go_at_call 42; refine H.out.mono ?_; rintro e w1 ⟨rfl, k1⟩; have K1 := hide k1; clear k1) | fail)
        go_ret
        exact ⟨by rw [HR.out]; rfl, K1.out⟩
      · have HR : Hid (riseB n i j = false) := by show _ = _; unfold riseB; rw [decide_eq_false h2, Bool.and_false]
        go_enter Try.func53, Try.ntmps53
        go_wp2_with (first | (go_at_call 42; refine H.out.mono ?_; rintro e w1 ⟨rfl, k1⟩; have K1 := hide k1; clear k1) | fail)
        go_ret
        exact ⟨by rw [HR.out]; show Ending.returned (.bool (decide (j < (n : Int)))) = _; rw [decide_eq_false (by omega)], K1.out⟩
    · have HR : Hid (riseB n i j = false) := by show _ = _; unfold riseB; rw [decide_eq_false h1, Bool.and_false]; rfl
      go_enter Try.func53, Try.ntmps53
      go_wp2_with fail
      go_ret
      exact ⟨by rw [HR.out]; rfl, Below.refl _ _⟩
  · have HR : Hid (riseB n i j = false) := by show _ = _; unfold riseB; rw [decide_eq_false h0]; rfl
    go_enter Try.func53, Try.ntmps53
    go_wp2_with fail
    go_ret
    exact ⟨by rw [HR.out]; rfl, Below.refl _ _⟩
theorem rise_any {w : World} {lb n c : Nat} {a : Option Addr} (i j : Int) (h : w.heap[lb]? = some (.cells #[.slice a n c] 63)) : Calls Try.prog 53 #[.pointer (some ⟨lb, 0, none⟩), .int .i64 i, .int .i64 j] w fun e w' => e = .returned (.bool (riseB n i j)) ∧ Below w.heap.size w w' := rise_gen i j (kept_any h)
theorem rise_nil (w : World) (i j : Int) : Calls Try.prog 53 #[.pointer none, .int .i64 i, .int .i64 j] w fun e w' => e = .returned (.bool false) ∧ Below w.heap.size w w' := by
  have h := rise_gen i j (kept_nil w)
  have e : riseB 0 i j = false := by
    unfold riseB
    by_cases h0 : 0 ≤ i
    · by_cases h1 : i < j
      · rw [decide_eq_false (p := j < ((0 : Nat) : Int)) (by omega), Bool.and_false]
      · rw [decide_eq_false h1, Bool.and_false]; rfl
    · rw [decide_eq_false h0]; rfl
  rw [e] at h
  exact h
def witB (i l : Int) : Bool := decide (0 ≤ i) && decide (i ≤ l)
set_option maxRecDepth 100000 in
set_option maxHeartbeats 3200000 in
theorem within_any (w : World) (i l : Int) : Calls Try.prog 51 #[.int .i64 i, .int .i64 l] w fun e w' => e = .returned (.bool (witB i l)) ∧ Below w.heap.size w w' := by
  by_cases h0 : 0 ≤ i
  · by_cases h1 : i ≤ l
    · have HR : Hid (witB i l = true) := by show _ = _; unfold witB; rw [decide_eq_true h0, decide_eq_true h1]; rfl
      go_enter Try.func51, Try.ntmps51
      go_wp2
      go_ret
      exact ⟨by rw [HR.out]; rfl, Below.refl _ _⟩
    · have HR : Hid (witB i l = false) := by show _ = _; unfold witB; rw [decide_eq_false h1, Bool.and_false]
      go_enter Try.func51, Try.ntmps51
      go_wp2
      go_ret
      exact ⟨by rw [HR.out]; rfl, Below.refl _ _⟩
  · have HR : Hid (witB i l = false) := by show _ = _; unfold witB; rw [decide_eq_false h0]; rfl
    go_enter Try.func51, Try.ntmps51
    go_wp2
    go_ret
    exact ⟨by rw [HR.out]; rfl, Below.refl _ _⟩
set_option maxRecDepth 100000 in
set_option maxHeartbeats 3200000 in
theorem new_any {w : World} {m vc : Nat} {va : Option Addr} {V : List Vst} (hV : VsV w (.slice va m vc) V) (hm : V.length = m) (hm2 : m ≤ 900) (hz : va = none → vc = 0) :
    Calls Try.prog 13 #[.slice va m vc] w fun e w' => ∃ lb, e = .returned (.pointer (some ⟨lb, 0, none⟩)) ∧ LineV w' lb V ∧ w.heap.size ≤ lb ∧ Below w.heap.size w w' := by
  have H23 := hide (clone_any hV hm hm2 hz)
  have HM := hide hm
  clear hV hm hz
  go_enter Try.func13, Try.ntmps13
  go_wp2_with (first | (go_at_call 30; refine H23.out.mono ?_; rintro e w1 ⟨a, c, rfl, r1, k1⟩; have R1 := hide r1; have K1 := hide k1; clear r1 k1) | fail)
  go_ret
  refine ⟨w1.heap.size, rfl, ⟨a, c, ?_, ?_, ?_⟩, K1.out.size, below_on K1.out ((Below.refl _ _).alloc (Nat.le_refl _) _)⟩
  · rw [HM.out]; exact heap_alloc_new _ _
  · rw [HM.out]; exact (R1.out.zero).later (Nat.le_refl _) ((Below.refl _ _).alloc (Nat.le_refl _) _)
  · intro g hg
    rw [HM.out] at hg
    have := (World.ownsRow.lt R1.out g hg).2
    omega
set_option maxRecDepth 100000 in
set_option maxHeartbeats 3200000 in
theorem visits_any {w : World} {lb : Nat} {V : List Vst} (h : LineV w lb V) (hn : V.length ≤ 900) : Calls Try.prog 17 #[.pointer (some ⟨lb, 0, none⟩)] w fun e w' => ∃ a c, e = .returned (.slice a V.length c) ∧ VRow w' w.heap.size (.slice a V.length c) V ∧ Below w.heap.size w w' := by
  obtain ⟨a, c, h1, _, h3, h4, _⟩ := h.open (by omega)
  have H30 := hide (kept_any h1)
  obtain ⟨n, hn2⟩ : ∃ n, V.length = n := ⟨_, rfl⟩
  rw [hn2] at H30 h3 hn ⊢
  have H23 : Hid (∀ W2, Below w.heap.size w W2 → Calls Try.prog 30 #[.slice a n c] W2 fun e w' => ∃ a' c', e = .returned (.slice a' n c') ∧ VRow w' W2.heap.size (.slice a' n c') V ∧ Below W2.heap.size W2 w') := fun W2 hf => clone_any (PrV.on h3 hf) hn2 hn h4
  clear h1 h3 h4 hn2 h
  go_enter Try.func17, Try.ntmps17
  go_wp2_with (first | (go_at_call 42; refine H30.out.mono ?_; rintro e w1 ⟨rfl, k1⟩; have K1 := hide k1; clear k1) | (go_at_call 30; refine (H23.out _ K1.out).mono ?_; rintro e w2 ⟨a2, c2, rfl, r2, k2⟩; have R2 := hide r2; have K2 := hide k2; clear r2 k2) | fail)
  go_ret
  exact ⟨a2, c2, rfl, own_mono R2.out K1.out.size, below_on K1.out K2.out⟩
set_option maxRecDepth 100000 in
set_option maxHeartbeats 3200000 in
theorem visits_nil (w : World) : Calls Try.prog 17 #[.pointer none] w fun e w' => e = .returned (.slice none 0 0) ∧ Below w.heap.size w w' := by
  have hnil : ∀ W, (binOp .eql 22 (.slice none 0 0) (.slice none 0 0)).run Try.prog W = .ok (.bool true) W := fun W => by kernel_rfl
  have H23 : Hid (∀ W2, Calls Try.prog 30 #[.slice none 0 0] W2 fun e w' => e = .returned (.slice none 0 0) ∧ Below W2.heap.size W2 w') := fun W2 => by
    go_enter Try.func30, Try.ntmps30
    go_wp2
    go_ret
    exact ⟨rfl, Below.refl _ _⟩
  clear hnil
  go_enter Try.func17, Try.ntmps17
  go_wp2_with (first | (go_at_call 42; refine (kept_nil _).mono ?_; rintro e w1 ⟨rfl, k1⟩; have K1 := hide k1; clear k1) | (go_at_call 30; refine (H23.out _).mono ?_; rintro e w2 ⟨rfl, k2⟩; have K2 := hide k2; clear k2) | fail)
  go_ret
  exact ⟨rfl, below_on K1.out K2.out⟩
set_option maxRecDepth 100000 in
set_option maxHeartbeats 3200000 in
theorem all_any (w : World) : Calls Try.prog 18 #[] w fun e w' => ∃ g, e = .returned (.slice (some ⟨g, 0, none⟩) 6 6) ∧ w.heap.size ≤ g ∧ w'.heap[g]? = some (.cells #[.func (.func 31) #[] #[], .func (.func 32) #[] #[], .func (.func 33) #[] #[], .func (.func 34) #[] #[], .func (.func 29) #[] #[], .func (.func 35) #[] #[]] 38) ∧ Below w.heap.size w w' := by
  go_enter Try.func18, Try.ntmps18
  go_wp2
  go_ret
  exact ⟨_, rfl, Nat.le_refl _, heap_alloc_new _ _, (Below.refl _ _).alloc (Nat.le_refl _) _⟩
end Go.Proofs.Ytdnkmjafkpnliaa
