/-
  Plain lists: the lightest of several legs, the rows of a graph, and what is left of rising legs when those with the ends of the one ahead are struck.
-/
import Derived.Test.YtojkdmkeankcgaaGreatSort
namespace Go.Proofs.YtojkdmkeankcgaaGreat
open Go.Sort Go.Lib Go.Shelf

/-- The least weight of the legs from p to q. -/
def tab : List Leg → Nat → Nat → Option Int
  | [], _, _ => none
  | l :: r, p, q => if l.1 = p ∧ l.2.1 = q then (match tab r p q with | none => some l.2.2 | some v => some (min l.2.2 v)) else tab r p q
theorem tab_spec : ∀ (L : List Leg) (p q : Nat), (tab L p q = none → ∀ l ∈ L, ¬ (l.1 = p ∧ l.2.1 = q)) ∧ (∀ v, tab L p q = some v → (∃ l ∈ L, l.1 = p ∧ l.2.1 = q ∧ l.2.2 = v) ∧ ∀ l ∈ L, l.1 = p → l.2.1 = q → v ≤ l.2.2)
  | [], p, q => ⟨fun _ l h => by simp at h, fun v h => by simp [tab] at h⟩
  | l :: r, p, q => by
    have ih := tab_spec r p q
    by_cases h : l.1 = p ∧ l.2.1 = q
    · simp only [tab, if_pos h]
      cases hr : tab r p q with
      | none =>
        refine ⟨fun e => by simp at e, fun v e => ?_⟩
        simp at e
        subst e
        refine ⟨⟨l, by simp, h.1, h.2, rfl⟩, fun x hx h1 h2 => ?_⟩
        rcases List.mem_cons.1 hx with rfl | hx
        · exact Int.le_refl _
        · exact absurd ⟨h1, h2⟩ (ih.1 hr x hx)
      | some u =>
        refine ⟨fun e => by simp at e, fun v e => ?_⟩
        simp at e
        subst e
        obtain ⟨⟨y, hy, y1, y2, y3⟩, hm⟩ := ih.2 u hr
        refine ⟨?_, fun x hx h1 h2 => ?_⟩
        · by_cases hle : l.2.2 ≤ u
          · exact ⟨l, by simp, h.1, h.2, by omega⟩
          · exact ⟨y, by simp [hy], y1, y2, by omega⟩
        · rcases List.mem_cons.1 hx with rfl | hx
          · omega
          · have := hm x hx h1 h2; omega
    · simp only [tab, if_neg h]
      refine ⟨fun e x hx => ?_, fun v e => ?_⟩
      · rcases List.mem_cons.1 hx with rfl | hx
        · exact h
        · exact ih.1 e x hx
      · obtain ⟨⟨y, hy, y1⟩, hm⟩ := ih.2 v e
        refine ⟨⟨y, by simp [hy], y1⟩, fun x hx h1 h2 => ?_⟩
        rcases List.mem_cons.1 hx with rfl | hx
        · exact absurd ⟨h1, h2⟩ h
        · exact hm x hx h1 h2
theorem tab_some {L : List Leg} {p q : Nat} {v : Int} : tab L p q = some v ↔ (∃ l ∈ L, l.1 = p ∧ l.2.1 = q ∧ l.2.2 = v) ∧ ∀ l ∈ L, l.1 = p → l.2.1 = q → v ≤ l.2.2 := by
  refine ⟨(tab_spec L p q).2 v, fun ⟨⟨l, hl, h1, h2, h3⟩, hm⟩ => ?_⟩
  cases hr : tab L p q with
  | none => exact absurd ⟨h1, h2⟩ ((tab_spec L p q).1 hr l hl)
  | some u =>
    obtain ⟨⟨y, hy, y1, y2, y3⟩, hm2⟩ := (tab_spec L p q).2 u hr
    have a := hm y hy y1 y2
    have b := hm2 l hl h1 h2
    congr 1
    omega
theorem tab_none {L : List Leg} {p q : Nat} : tab L p q = none ↔ ∀ l ∈ L, ¬ (l.1 = p ∧ l.2.1 = q) := by
  refine ⟨(tab_spec L p q).1, fun h => ?_⟩
  cases hr : tab L p q with
  | none => rfl
  | some u =>
    obtain ⟨⟨y, hy, y1, y2, y3⟩, _⟩ := (tab_spec L p q).2 u hr
    exact absurd ⟨y1, y2⟩ (h y hy)
/-- The row of p in a graph with n places whose edges are W. -/
def rowM (n : Nat) (W : Nat → Nat → Option Int) (p : Nat) : List (Int × Int) := (List.range n).filterMap fun q => (W p q).map fun v => ((q : Int), v)
theorem mem_rowM {n p : Nat} {W : Nat → Nat → Option Int} {x : Int × Int} : x ∈ rowM n W p ↔ ∃ q v, q < n ∧ W p q = some v ∧ x = ((q : Int), v) := by
  unfold rowM
  rw [List.mem_filterMap]
  constructor
  · rintro ⟨q, hq, h⟩
    rw [Option.map_eq_some_iff] at h
    obtain ⟨v, h1, h2⟩ := h
    exact ⟨q, v, by simpa using hq, h1, h2.symm⟩
  · rintro ⟨q, v, hq, h1, rfl⟩
    exact ⟨q, by simpa using hq, by rw [h1]; rfl⟩
theorem rowM_rising (n p : Nat) (W : Nat → Nat → Option Int) : (rowM n W p).Pairwise (fun x y => x.1 < y.1) := by
  unfold rowM
  rw [List.pairwise_filterMap]
  refine (List.pairwise_lt_range (n := n)).imp ?_
  intro a b hab x hx y hy
  simp at hx hy
  obtain ⟨v, _, rfl⟩ := hx
  obtain ⟨u, _, rfl⟩ := hy
  simp
  omega
/-- Two rising lists with the same members are one. -/
theorem rising_eq : ∀ (l m : List (Int × Int)), l.Pairwise (fun x y => x.1 < y.1) → m.Pairwise (fun x y => x.1 < y.1) → (∀ x, x ∈ l ↔ x ∈ m) → l = m
  | [], [], _, _, _ => rfl
  | [], y :: m, _, _, h => absurd ((h y).2 (by simp)) (by simp)
  | x :: l, [], _, _, h => absurd ((h x).1 (by simp)) (by simp)
  | x :: l, y :: m, hl, hm, h => by
    rw [List.pairwise_cons] at hl hm
    have hxy : x = y := by
      have h1 := (h x).1 (by simp)
      have h2 := (h y).2 (by simp)
      rcases List.mem_cons.1 h1 with e | e
      · exact e
      · rcases List.mem_cons.1 h2 with e2 | e2
        · exact e2.symm
        · have := hl.1 y e2; have := hm.1 x e; omega
    subst hxy
    congr 1
    refine rising_eq l m hl.2 hm.2 (fun z => ?_)
    constructor
    · intro hz
      rcases List.mem_cons.1 ((h z).1 (by simp [hz])) with e | e
      · subst e; have := hl.1 z hz; omega
      · exact e
    · intro hz
      rcases List.mem_cons.1 ((h z).2 (by simp [hz])) with e | e
      · subst e; have := hm.1 z hz; omega
      · exact e

def sameE (x y : Leg) : Bool := decide (x.1 = y.1 ∧ x.2.1 = y.2.1)
/-- Of the first i legs those whose ends aren't the ends of the leg ahead. -/
def comp (d : Array Leg) : Nat → List Leg
  | 0 => []
  | i + 1 => comp d i ++ (if 0 < i ∧ sameE d[i]! d[i - 1]! = true then [] else [d[i]!])
theorem comp_same (d : Array Leg) (i : Nat) (h0 : 0 < i) (h : sameE d[i]! d[i - 1]! = true) : comp d (i + 1) = comp d i := by simp [comp, h0, h]
theorem comp_new (d : Array Leg) (i : Nat) (h : 0 < i → sameE d[i]! d[i - 1]! = false) : comp d (i + 1) = comp d i ++ [d[i]!] := by
  have : ¬ (0 < i ∧ sameE d[i]! d[i - 1]! = true) := fun ⟨a, b⟩ => by rw [h a] at b; cases b
  simp only [comp, if_neg this]
theorem comp_len (d : Array Leg) : ∀ i, (comp d i).length ≤ i
  | 0 => by simp [comp]
  | i + 1 => by
    have := comp_len d i
    simp only [comp, List.length_append]
    split <;> simp <;> omega
/-- Ahead by its ends. -/
def LtE (x y : Leg) : Prop := x.1 < y.1 ∨ (x.1 = y.1 ∧ x.2.1 < y.2.1)
structure CompIs (d : Array Leg) (i : Nat) : Prop where
  rise : (comp d i).Pairwise LtE
  mem : ∀ x ∈ comp d i, ∃ j, j < i ∧ x = d[j]! ∧ ∀ k, k < i → sameE d[k]! x = true → x.2.2 ≤ (d[k]!).2.2
  all : ∀ k, k < i → ∃ x ∈ comp d i, sameE d[k]! x = true
theorem comp_is (d : Array Leg) (hs : ∀ i j, i < j → j < d.size → ¬ Lt d[j]! d[i]!) : ∀ i, i ≤ d.size → CompIs d i
  | 0, _ => ⟨by simp [comp], fun x h => by simp [comp] at h, fun k h => by omega⟩
  | i + 1, hi => by
    have ih := comp_is d hs i (by omega)
    by_cases h : 0 < i ∧ sameE d[i]! d[i - 1]! = true
    · rw [show CompIs d (i + 1) = CompIs d (i + 1) from rfl]
      have e := comp_same d i h.1 h.2
      have hsE : (d[i]!).1 = (d[i - 1]!).1 ∧ (d[i]!).2.1 = (d[i - 1]!).2.1 := of_decide_eq_true h.2
      refine ⟨by rw [e]; exact ih.rise, fun x hx => ?_, fun k hk => ?_⟩
      · rw [e] at hx
        obtain ⟨j, hj, rfl, hm⟩ := ih.mem x hx
        refine ⟨j, by omega, rfl, fun k hk hk2 => ?_⟩
        by_cases hki : k < i
        · exact hm k hki hk2
        · have : k = i := by omega
          subst this
          have hE : (d[k]!).1 = (d[j]!).1 ∧ (d[k]!).2.1 = (d[j]!).2.1 := of_decide_eq_true hk2
          have hn := hs j k (by omega) (by omega)
          unfold Lt at hn
          omega
      · by_cases hki : k < i
        · rw [e]; exact ih.all k hki
        · have : k = i := by omega
          subst this
          obtain ⟨x, hx, hx2⟩ := ih.all (k - 1) (by omega)
          have hE : (d[k - 1]!).1 = x.1 ∧ (d[k - 1]!).2.1 = x.2.1 := of_decide_eq_true hx2
          exact ⟨x, by rw [e]; exact hx, decide_eq_true ⟨by omega, by omega⟩⟩
    · have hE : ∀ k, k < i → LtE d[k]! d[i]! := by
        intro k hk
        have h0 : 0 < i := by omega
        have hn : ¬ ((d[i]!).1 = (d[i - 1]!).1 ∧ (d[i]!).2.1 = (d[i - 1]!).2.1) := fun a => h ⟨h0, decide_eq_true a⟩
        have h1 := hs (i - 1) i (by omega) (by omega)
        unfold Lt at h1
        unfold LtE
        by_cases hki : k = i - 1
        · subst hki; omega
        · have h2 := hs k (i - 1) (by omega) (by omega)
          unfold Lt at h2
          omega
      have e : comp d (i + 1) = comp d i ++ [d[i]!] := by simp only [comp, if_neg h]
      refine ⟨?_, fun x hx => ?_, fun k hk => ?_⟩
      · rw [e, List.pairwise_append]
        refine ⟨ih.rise, by simp, fun x hx y hy => ?_⟩
        simp at hy
        subst hy
        obtain ⟨j, hj, rfl, _⟩ := ih.mem x hx
        exact hE j hj
      · rw [e] at hx
        rcases List.mem_append.1 hx with hx | hx
        · obtain ⟨j, hj, rfl, hm⟩ := ih.mem x hx
          refine ⟨j, by omega, rfl, fun k hk hk2 => ?_⟩
          by_cases hki : k < i
          · exact hm k hki hk2
          · have : k = i := by omega
            subst this
            have h1 := hE j hj
            have h2 : (d[k]!).1 = (d[j]!).1 ∧ (d[k]!).2.1 = (d[j]!).2.1 := of_decide_eq_true hk2
            unfold LtE at h1
            omega
        · simp at hx
          subst hx
          refine ⟨i, by omega, rfl, fun k hk hk2 => ?_⟩
          by_cases hki : k < i
          · have h1 := hE k hki
            have h2 : (d[k]!).1 = (d[i]!).1 ∧ (d[k]!).2.1 = (d[i]!).2.1 := of_decide_eq_true hk2
            unfold LtE at h1
            omega
          · have : k = i := by omega
            subst this
            exact Int.le_refl _
      · by_cases hki : k < i
        · obtain ⟨x, hx, hx2⟩ := ih.all k hki
          exact ⟨x, by rw [e]; simp [hx], hx2⟩
        · have : k = i := by omega
          subst this
          exact ⟨d[k]!, by rw [e]; simp, decide_eq_true ⟨rfl, rfl⟩⟩

/-- Where the legs that leave p lead. -/
def bucket (p : Nat) (C : List Leg) : List (Int × Int) := (C.filter fun l => decide (l.1 = (p : Int))).map fun l => (l.2.1, l.2.2)
theorem sortL_len (L : List Leg) : (sortL L).length = L.length := by unfold sortL; exact List.length_mergeSort L
theorem sortL_mem (L : List Leg) (x : Leg) : x ∈ sortL L ↔ x ∈ L := by unfold sortL; exact List.mem_mergeSort
theorem sortL_rise (L : List Leg) (i j : Nat) (hij : i < j) (hj : j < (sortL L).toArray.size) : ¬ Lt (sortL L).toArray[j]! (sortL L).toArray[i]! := by
  have h := List.pairwise_mergeSort (le := fun x y => !(ltOf cfL) y x) (fun a b c h1 h2 => by
    simp only [Bool.not_eq_true', ltLf] at *
    unfold Lt at *
    omega) (fun a b => by
    simp only [Bool.or_eq_true, Bool.not_eq_true', ltLf]
    unfold Lt
    omega) L
  rw [List.pairwise_iff_getElem] at h
  have hj2 : j < (sortL L).length := by simpa using hj
  have := h i j (by unfold sortL at hj2; omega) hj2 hij
  simp only [Bool.not_eq_true', ltLf] at this
  rw [getElem!_pos _ j hj, getElem!_pos _ i (by omega)]
  exact this
theorem bucket_eq (n : Nat) (L : List Leg) (hL : ∀ l ∈ L, 0 ≤ l.1 ∧ l.1 < n ∧ 0 ≤ l.2.1 ∧ l.2.1 < n) (p : Nat) : bucket p (comp (sortL L).toArray L.length) = rowM n (tab L) p := by
  have hc := comp_is (sortL L).toArray (fun i j => sortL_rise L i j) L.length (by simp [sortL_len])
  generalize hd : (sortL L).toArray = d at hc
  have hsz : d.size = L.length := by rw [← hd]; simp [sortL_len]
  have hget : ∀ j, j < L.length → d[j]! ∈ L := fun j hj => by
    rw [getElem!_pos _ j (by omega), ← sortL_mem, ← List.mem_toArray, hd]
    exact Array.getElem_mem _
  have hof : ∀ l ∈ L, ∃ j, j < L.length ∧ d[j]! = l := fun l hl => by
    rw [← sortL_mem, ← List.mem_toArray, hd, Array.mem_iff_getElem] at hl
    obtain ⟨j, hj, e⟩ := hl
    exact ⟨j, by omega, by rw [getElem!_pos _ j hj]; exact e⟩
  refine rising_eq _ _ ?_ (rowM_rising n p (tab L)) (fun x => ?_)
  · unfold bucket
    rw [List.pairwise_map]
    have h2 : (List.filter (fun l => decide (l.1 = (p : Int))) (comp d L.length)).Pairwise LtE := hc.rise.filter _
    refine List.Pairwise.imp_of_mem ?_ h2
    intro a b ha hb hab
    have h3 : a.1 = (p : Int) := of_decide_eq_true (List.mem_filter.1 ha).2
    have h4 : b.1 = (p : Int) := of_decide_eq_true (List.mem_filter.1 hb).2
    unfold LtE at hab
    show a.2.1 < b.2.1
    omega
  · rw [mem_rowM]
    unfold bucket
    rw [List.mem_map]
    constructor
    · rintro ⟨l, hl, rfl⟩
      obtain ⟨h1, h2⟩ := List.mem_filter.1 hl
      have h3 : l.1 = (p : Int) := of_decide_eq_true h2
      obtain ⟨j, hj, e, hm⟩ := hc.mem l h1
      have hin := hget j hj
      rw [← e] at hin
      have hb := hL l hin
      refine ⟨l.2.1.toNat, l.2.2, by omega, ?_, by rw [show ((l.2.1.toNat : Nat) : Int) = l.2.1 by omega]⟩
      rw [tab_some]
      refine ⟨⟨l, hin, h3, by omega, rfl⟩, fun y hy y1 y2 => ?_⟩
      obtain ⟨k, hk, rfl⟩ := hof y hy
      exact hm k hk (decide_eq_true ⟨by omega, by omega⟩)
    · rintro ⟨q, v, hq, h1, rfl⟩
      rw [tab_some] at h1
      obtain ⟨⟨l, hl, l1, l2, l3⟩, hm⟩ := h1
      obtain ⟨j, hj, e⟩ := hof l hl
      obtain ⟨x, hx, hx2⟩ := hc.all j hj
      have hE : (d[j]!).1 = x.1 ∧ (d[j]!).2.1 = x.2.1 := of_decide_eq_true hx2
      rw [e] at hE
      obtain ⟨i, hi, e2, hm2⟩ := hc.mem x hx
      have hxL := hget i hi
      rw [← e2] at hxL
      have a := hm x hxL (by omega) (by omega)
      have b := hm2 j hj hx2
      rw [e] at b
      exact ⟨x, List.mem_filter.2 ⟨hx, decide_eq_true (by omega)⟩, by rw [← hE.2, l2]; congr 1; omega⟩
end Go.Proofs.YtojkdmkeankcgaaGreat
