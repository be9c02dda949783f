/-
  An arc that is no lighter than one that is there changes no weight; one of weight 0 is the edge. Plain.
-/
import Derived.Test.YtojkdmkeankcgaaSame
import Derived.Test.YtojkdmkeankcgaaAwake
namespace Go.Proofs.Ytojkdmkeankcgaa

theorem checkFrom_good (n : Int) : ∀ (A : List Arc) (i : Nat), (∀ x ∈ A, placeOk n x = true ∧ numOk x = true) → (checkFrom n i A).2 = 0
  | [], _, _ => rfl
  | a :: r, i, h => by
    have h0 := h a (List.mem_cons_self ..)
    unfold checkFrom
    rw [if_neg (by rw [h0.1]; decide), if_neg (by rw [h0.2]; decide)]
    exact checkFrom_good n r (i + 1) fun x hx => h x (List.mem_cons_of_mem _ hx)
theorem checkM_good {n : Int} {A : List Arc} (hn : 1 ≤ n ∧ n ≤ 32) (hl : A.length ≤ 256) (h : ∀ x ∈ A, placeOk n x = true ∧ numOk x = true) : (checkM n A).2 = 0 := by
  unfold checkM
  rw [if_neg (by omega)]
  exact checkFrom_good n A 0 h
theorem legsM_append (mt : Arc → Int) (A B : List Arc) : legsM mt (A ++ B) = legsM mt A ++ legsM mt B := by simp [legsM]
theorem tab_twin {L : List Leg} {l0 l : Leg} (h0 : l0 ∈ L) (h1 : l.1 = l0.1) (h2 : l.2.1 = l0.2.1) (h3 : l0.2.2 ≤ l.2.2) (p q : Nat) : tab (L ++ [l]) p q = tab L p q := by
  rw [tab_snoc]
  by_cases h : l.1 = p ∧ l.2.1 = q
  · rw [if_pos h]
    rw [h1, h2] at h
    cases e : tab L p q with
    | none => exact absurd h ((tab_spec L p q).1 e l0 h0)
    | some v =>
      have := ((tab_spec L p q).2 v e).2 l0 h0 h.1 h.2
      show some (min v l.2.2) = some v
      congr 1
      omega
  · rw [if_neg h]
theorem leg_mem {A : List Arc} {x : Arc} (hx : x ∈ A) (e : x.1 ≠ x.2.1) : (x.1, x.2.1, x.2.2.1) ∈ legsM timeM A := List.mem_map.2 ⟨x, List.mem_filter.2 ⟨hx, by simpa using e⟩, rfl⟩
theorem light_twin {A : List Arc} {x : Arc} (hx : x ∈ A) {tm : Int} (h : x.2.2.1 ≤ tm) : tab (legsM timeM (A ++ [(x.1, x.2.1, tm, 0), (x.1, x.1, 0, 0)])) = tab (legsM timeM A) := by
  funext p q
  rw [legsM_append]
  by_cases e : x.1 = x.2.1
  · have : legsM timeM [(x.1, x.2.1, tm, 0), (x.1, x.1, 0, 0)] = [] := by simp [legsM, e]
    rw [this, List.append_nil]
  · have : legsM timeM [(x.1, x.2.1, tm, 0), (x.1, x.1, 0, 0)] = [(x.1, x.2.1, tm)] := by simp [legsM, e, timeM]
    rw [this]
    exact tab_twin (l := (x.1, x.2.1, tm)) (leg_mem hx e) rfl rfl h p q
theorem light_loop {A : List Arc} {x : Arc} (e : x.1 = x.2.1) : tab (legsM timeM (A ++ [(x.1, x.2.1, 0, 0)])) = tab (legsM timeM A) := by
  rw [legsM_append]
  have : legsM timeM [(x.1, x.2.1, 0, 0)] = [] := by simp [legsM, e]
  rw [this, List.append_nil]
theorem light_some {A : List Arc} {x : Arc} (hx : x ∈ A) (p q : Nat) : (tab (legsM timeM (A ++ [(x.1, x.2.1, 0, 0)])) p q).isSome = (tab (legsM timeM A) p q).isSome := by
  by_cases e : x.1 = x.2.1
  · rw [light_loop e]
  · rw [legsM_append]
    have : legsM timeM [(x.1, x.2.1, 0, 0)] = [(x.1, x.2.1, 0)] := by simp [legsM, e, timeM]
    rw [this, tab_snoc]
    by_cases h : x.1 = p ∧ x.2.1 = q
    · rw [if_pos h]
      cases e2 : tab (legsM timeM A) p q with
      | none => exact absurd h ((tab_spec _ p q).1 e2 _ (leg_mem hx e))
      | some v => rfl
    · rw [if_neg h]
theorem light_zero {A : List Arc} {x : Arc} (hp : ∀ p q v, tab (legsM timeM A) p q = some v → 0 ≤ v) {p q : Nat} (e : x.1 ≠ x.2.1) (h1 : x.1 = p) (h2 : x.2.1 = q) : tab (legsM timeM (A ++ [(x.1, x.2.1, 0, 0)])) p q = some 0 := by
  rw [legsM_append]
  have : legsM timeM [(x.1, x.2.1, 0, 0)] = [(x.1, x.2.1, 0)] := by simp [legsM, e, timeM]
  rw [this, tab_snoc, if_pos ⟨h1, h2⟩]
  cases e2 : tab (legsM timeM A) p q with
  | none => rfl
  | some v =>
    have := hp p q v e2
    show some (min v 0) = some 0
    congr 1
    omega
theorem cntRow_same {V W : Nat → Nat → Option Int} (h : ∀ p q, (V p q).isSome = (W p q).isSome) (p : Nat) : ∀ k, cntRow V p k = cntRow W p k
  | 0 => rfl
  | k + 1 => by unfold cntRow; rw [cntRow_same h p k, h]
theorem sumLen_same {V W : Nat → Nat → Option Int} (n : Nat) (h : ∀ p q, (V p q).isSome = (W p q).isSome) : ∀ k, sumLen n V k = sumLen n W k
  | 0 => rfl
  | k + 1 => by unfold sumLen; rw [sumLen_same n h k, cntRow_len, cntRow_len, cntRow_same h]
theorem place_two {n x y : Int} (h : 0 ≤ x ∧ x ≤ n - 1 ∧ 0 ≤ y ∧ y ≤ n - 1) (u v : Int) : placeOk n (x, y, u, v) = true := by unfold placeOk; exact decide_eq_true h
theorem num_two {u v : Int} (h : 0 ≤ u ∧ u ≤ 1000000 ∧ 0 ≤ v ∧ v ≤ 1000000) (x y : Int) : numOk (x, y, u, v) = true := by unfold numOk; exact decide_eq_true h
theorem light_check1 {n : Int} {A : List Arc} {x : Arc} (he : (checkM n A).2 = 0) (hx : x ∈ A) (hl : A.length ≤ 254) {tm : Int} (ht : 0 ≤ tm ∧ tm ≤ 1000000) : (checkM n (A ++ [(x.1, x.2.1, tm, 0), (x.1, x.1, 0, 0)])).2 = 0 := by
  obtain ⟨hn, _, ho⟩ := checkM_ok he
  have h1 := (ho x hx).1
  unfold placeOk at h1
  have h1 := of_decide_eq_true h1
  refine checkM_good hn (by simp; omega) fun y hy => ?_
  rcases List.mem_append.1 hy with h | h
  · exact ho y h
  · rcases List.mem_cons.1 h with rfl | h
    · exact ⟨place_two h1 _ _, num_two ⟨ht.1, ht.2, by omega, by omega⟩ _ _⟩
    · obtain rfl := List.mem_singleton.1 h
      exact ⟨place_two ⟨h1.1, h1.2.1, h1.1, h1.2.1⟩ _ _, num_two ⟨by omega, by omega, by omega, by omega⟩ _ _⟩
theorem light_check2 {n : Int} {A : List Arc} {x : Arc} (he : (checkM n A).2 = 0) (hx : x ∈ A) (hl : A.length ≤ 254) : (checkM n (A ++ [(x.1, x.2.1, 0, 0)])).2 = 0 := by
  obtain ⟨hn, _, ho⟩ := checkM_ok he
  have h1 := (ho x hx).1
  unfold placeOk at h1
  have h1 := of_decide_eq_true h1
  refine checkM_good hn (by simp; omega) fun y hy => ?_
  rcases List.mem_append.1 hy with h | h
  · exact ho y h
  · obtain rfl := List.mem_singleton.1 h
    exact ⟨place_two h1 _ _, num_two ⟨by omega, by omega, by omega, by omega⟩ _ _⟩
theorem light_wt {n : Nat} {A : List Arc} {x : Arc} (he : (checkM (n : Int) A).2 = 0) (hx : x ∈ A) (hp : ∀ p q v, tab (legsM timeM A) p q = some v → 0 ≤ v) (e : x.1 ≠ x.2.1) : wt n (tab (legsM timeM (A ++ [(x.1, x.2.1, 0, 0)]))) x.1 x.2.1 = 0 := by
  obtain ⟨hn, _, ho⟩ := checkM_ok he
  have h1 := (ho x hx).1
  unfold placeOk at h1
  have h1 := of_decide_eq_true h1
  unfold wt
  rw [if_pos (by omega), light_zero hp e (p := x.1.toNat) (q := x.2.1.toNat) (by omega) (by omega)]
  rfl
end Go.Proofs.Ytojkdmkeankcgaa
