/-
  Plain: pairs (item, key), their order, lists of pairs in the order of a heap, and what one exchange does to it.
-/
import Derived.WalkKit
namespace Go.Proofs.Ytojkdmkeankcgaa.Qu

/-- (item, key). -/
abbrev Pr := Int × Int
def lt (a b : Pr) : Bool := decide (a.2 < b.2 ∨ a.2 = b.2 ∧ a.1 < b.1)
theorem lt_iff (a b : Pr) : lt a b = true ↔ a.2 < b.2 ∨ a.2 = b.2 ∧ a.1 < b.1 := by simp [lt]
theorem lt_asymm {a b : Pr} (h : lt a b = true) : lt b a = false := by
  rw [lt_iff] at h; simp only [lt, decide_eq_false_iff_not]; omega
theorem lt_irrefl (a : Pr) : lt a a = false := by simp only [lt, decide_eq_false_iff_not]; omega
theorem le_trans {a b c : Pr} (h : lt b a = false) (k : lt c b = false) : lt c a = false := by
  simp only [lt, decide_eq_false_iff_not] at *; omega
theorem lt_le {a b c : Pr} (h : lt a b = true) (k : lt c b = false) : lt c a = false := le_trans (lt_asymm h) k
theorem le_anti {a b : Pr} (h : lt a b = false) (k : lt b a = false) : a = b := by
  simp only [lt, decide_eq_false_iff_not] at *; apply Prod.ext <;> omega

/-- The pair at a place. -/
def at' (L : List Pr) (i : Nat) : Pr := L.getD i (0, 0)
theorem at_get {L : List Pr} {i : Nat} (h : i < L.length) : L[i]? = some (at' L i) := by simp [at', List.getD_eq_getElem?_getD, h]
/-- Two places exchanged. -/
def swp (L : List Pr) (i j : Nat) : List Pr := (L.set i (at' L j)).set j (at' L i)
theorem swp_len (L : List Pr) (i j : Nat) : (swp L i j).length = L.length := by simp [swp]
theorem at_swp (L : List Pr) {i j : Nat} (hi : i < L.length) (hj : j < L.length) (k : Nat) : at' (swp L i j) k = if k = j then at' L i else if k = i then at' L j else at' L k := by
  unfold at' swp
  simp only [List.getD_eq_getElem?_getD, List.getElem?_set, List.length_set]
  by_cases h1 : k = j
  · subst h1; simp [hj, at', List.getD_eq_getElem?_getD]
  · rw [if_neg (Ne.symm h1), if_neg h1]
    by_cases h2 : k = i
    · subst h2; simp [hi, at', List.getD_eq_getElem?_getD]
    · rw [if_neg (Ne.symm h2), if_neg h2]
theorem swp_perm (L : List Pr) {i j : Nat} (hi : i < L.length) (hj : j < L.length) : (swp L i j).Perm L := by
  unfold swp
  have h1 : at' L i = L[i] := by simp [at', List.getD_eq_getElem?_getD, hi]
  have h2 : at' L j = L[j] := by simp [at', List.getD_eq_getElem?_getD, hj]
  rw [h1, h2]
  exact List.set_set_perm hi hj

/-- L' came out of L by exchanges among the first n. -/
structure Sw (n : Nat) (L L' : List Pr) : Prop where
  perm : L'.Perm L
  rest : ∀ k, n ≤ k → at' L' k = at' L k
theorem Sw.len {n : Nat} {L L' : List Pr} (h : Sw n L L') : L'.length = L.length := h.perm.length_eq
theorem Sw.refl (n : Nat) (L : List Pr) : Sw n L L := ⟨.refl _, fun _ _ => rfl⟩
theorem Sw.step {n : Nat} {L L' : List Pr} (h : Sw n L L') {i j : Nat} (hi : i < n) (hj : j < n) (hn : n ≤ L.length) : Sw n L (swp L' i j) := by
  have hl := h.len
  refine ⟨(swp_perm L' (by omega) (by omega)).trans h.perm, fun k hk => ?_⟩
  rw [at_swp L' (by omega) (by omega), if_neg (by omega), if_neg (by omega)]
  exact h.rest k hk
theorem Sw.trans {n : Nat} {L L' L'' : List Pr} (h : Sw n L L') (k : Sw n L' L'') : Sw n L L'' := ⟨k.perm.trans h.perm, fun i hi => (k.rest i hi).trans (h.rest i hi)⟩

def par (k : Nat) : Nat := (k - 1) / 2
/-- The pair at k is not below its parent. -/
def ok (L : List Pr) (k : Nat) : Prop := lt (at' L k) (at' L (par k)) = false
/-- The first n are a heap. -/
def Heap (L : List Pr) (n : Nat) : Prop := ∀ k, 0 < k → k < n → ok L k
/-- A heap but for what stands at i. -/
structure FixAt (L : List Pr) (n i : Nat) : Prop where
  edges : ∀ k, 0 < k → k < n → k ≠ i → par k ≠ i → ok L k
  over : ∀ k, 0 < k → k < n → par k = i → 0 < i → lt (at' L k) (at' L (par i)) = false
/-- What goes down from i0 is at i. -/
structure Down (L : List Pr) (n i0 i : Nat) : Prop where
  edges : ∀ k, 0 < k → k < n → par k ≠ i → (k ≠ i ∨ i ≠ i0) → ok L k
  over : ∀ k, 0 < k → k < n → par k = i → 0 < i → lt (at' L k) (at' L (par i)) = false
/-- What goes up is at j. -/
structure Up (L : List Pr) (n j : Nat) : Prop where
  edges : ∀ k, 0 < k → k < n → k ≠ j → ok L k
  over : ∀ k, 0 < k → k < n → par k = j → 0 < j → lt (at' L k) (at' L (par j)) = false

theorem FixAt.down {L : List Pr} {n i : Nat} (h : FixAt L n i) : Down L n i i := ⟨fun k h0 hn hp hk => h.edges k h0 hn (hk.resolve_right (by simp)) hp, h.over⟩

theorem par_lt {k : Nat} (h : 0 < k) : par k < k := by unfold par; omega
theorem Down.swap {L : List Pr} {n i0 i j : Nat} (h : Down L n i0 i) (hn : n ≤ L.length) (hi : i0 ≤ i) (hj : 0 < j) (hjn : j < n) (hp : par j = i) (hlt : lt (at' L j) (at' L i) = true)
    (hs : ∀ k, 0 < k → k < n → par k = i → lt (at' L k) (at' L j) = false) : Down (swp L i j) n i0 j := by
  have hij := par_lt hj
  have hsw := at_swp L (i := i) (j := j) (by omega) (by omega)
  refine ⟨fun k h0 hk hpk _ => ?_, fun k h0 hk hpk _ => ?_⟩
  · have hpl := par_lt h0
    unfold ok
    rw [hsw, hsw, if_neg hpk]
    by_cases e1 : k = j
    · subst e1
      rw [if_pos rfl, hp, if_pos rfl]
      exact lt_asymm hlt
    · rw [if_neg e1]
      by_cases e2 : par k = i
      · rw [if_pos e2, if_neg (by omega)]
        exact hs k h0 hk e2
      · rw [if_neg e2]
        by_cases e3 : k = i
        · subst e3
          rw [if_pos rfl]
          exact h.over j hj hjn hp h0
        · rw [if_neg e3]
          exact h.edges k h0 hk e2 (.inl e3)
  · have hpl := par_lt h0
    rw [hsw, hsw, hp, if_neg (by omega), if_neg (by omega), if_neg (by omega), if_pos rfl]
    have := h.edges k h0 hk (by omega) (.inl (by omega))
    unfold ok at this
    rwa [hpk] at this
theorem Down.stop_moved {L : List Pr} {n i0 i : Nat} (h : Down L n i0 i) (hi : i ≠ i0) (hs : ∀ k, 0 < k → k < n → par k = i → lt (at' L k) (at' L i) = false) : Heap L n := by
  intro k h0 hk
  by_cases e : par k = i
  · unfold ok; rw [e]; exact hs k h0 hk e
  · exact h.edges k h0 hk e (.inr hi)
theorem Down.stop_same {L : List Pr} {n i : Nat} (h : Down L n i i) (hs : ∀ k, 0 < k → k < n → par k = i → lt (at' L k) (at' L i) = false) : Up L n i := by
  refine ⟨fun k h0 hk hki => ?_, h.over⟩
  by_cases e : par k = i
  · unfold ok; rw [e]; exact hs k h0 hk e
  · exact h.edges k h0 hk e (.inl hki)
theorem Up.stop0 {L : List Pr} {n : Nat} (h : Up L n 0) : Heap L n := fun k h0 hk => h.edges k h0 hk (by omega)
theorem Up.stop {L : List Pr} {n j : Nat} (h : Up L n j) (hs : ok L j) : Heap L n := fun k h0 hk => by
  by_cases e : k = j
  · subst e; exact hs
  · exact h.edges k h0 hk e
theorem Up.swap {L : List Pr} {n j : Nat} (h : Up L n j) (hn : n ≤ L.length) (hj : 0 < j) (hjn : j < n) (hlt : lt (at' L j) (at' L (par j)) = true) : Up (swp L (par j) j) n (par j) := by
  have hij := par_lt hj
  have hsw := at_swp L (i := par j) (j := j) (by omega) (by omega)
  refine ⟨fun k h0 hk hki => ?_, fun k h0 hk hpk hi => ?_⟩
  · have hpl := par_lt h0
    unfold ok
    rw [hsw, hsw]
    by_cases e1 : k = j
    · subst e1
      rw [if_pos rfl, if_neg (by omega), if_pos rfl]
      exact lt_asymm hlt
    · rw [if_neg e1, if_neg hki]
      by_cases e2 : par k = j
      · rw [if_pos e2]; exact h.over k h0 hk e2 hj
      · rw [if_neg e2]
        by_cases e3 : par k = par j
        · rw [if_pos e3]
          have := h.edges k h0 hk e1
          unfold ok at this
          rw [e3] at this
          exact lt_le hlt this
        · rw [if_neg e3]; exact h.edges k h0 hk e1
  · have hpl := par_lt hi
    rw [hsw, hsw, if_neg (show ¬ par (par j) = j by omega), if_neg (show ¬ par (par j) = par j by omega)]
    have hi2 := h.edges (par j) hi (by omega) (by omega)
    unfold ok at hi2
    by_cases e1 : k = j
    · rw [if_pos e1]; exact hi2
    · have := par_lt h0
      rw [if_neg e1, if_neg (by omega)]
      have h3 := h.edges k h0 hk e1
      unfold ok at h3
      rw [hpk] at h3
      exact le_trans hi2 h3

/-- The first of a heap is the least. -/
theorem Heap.least {L : List Pr} {n : Nat} (h : Heap L n) : ∀ k, k < n → lt (at' L k) (at' L 0) = false := by
  intro k
  induction k using Nat.strongRecOn with
  | ind k ih =>
    intro hk
    by_cases e : k = 0
    · subst e; exact lt_irrefl _
    · have hp := par_lt (show 0 < k by omega)
      exact le_trans (ih (par k) hp (by omega)) (h k (by omega) hk)
/-- A heap one of whose pairs is replaced. -/
theorem Heap.fix {L L' : List Pr} {n i : Nat} (h : Heap L n) (hi : i < n) (hL : ∀ k, k < n → k ≠ i → at' L' k = at' L k) : FixAt L' n i := by
  refine ⟨fun k h0 hk h1 h2 => ?_, fun k h0 hk hp hi0 => ?_⟩
  · have := par_lt h0
    unfold ok
    rw [hL k hk h1, hL (par k) (by omega) h2]
    exact h k h0 hk
  · have := par_lt h0
    have := par_lt hi0
    rw [hL k hk (by omega), hL (par i) (by omega) (by omega)]
    have a := h k h0 hk
    have b := h i hi0 hi
    unfold ok at a b
    rw [hp] at a
    exact le_trans b a
theorem Heap.push {L : List Pr} (h : Heap L L.length) (p : Pr) : Up (L ++ [p]) (L ++ [p]).length L.length := by
  have hat : ∀ k, k < L.length → at' (L ++ [p]) k = at' L k := fun k hk => by unfold at'; simp [List.getD_eq_getElem?_getD, List.getElem?_append_left hk]
  refine ⟨fun k h0 hk h1 => ?_, fun k h0 hk hp hi0 => ?_⟩
  · simp at hk
    have := par_lt h0
    unfold ok
    rw [hat k (by omega), hat _ (by omega)]
    exact h k h0 (by omega)
  · simp at hk
    have := par_lt h0
    omega
end Go.Proofs.Ytojkdmkeankcgaa.Qu
