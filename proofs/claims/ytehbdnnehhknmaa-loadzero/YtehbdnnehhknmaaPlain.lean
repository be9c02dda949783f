/-
  Plain mathematics for the laws of layer 9 (load): numbers within the limit, sums that fit, lists of them dimension by dimension; no program in it.
-/
namespace Go.Proofs.Ytehbdnnehhknmaa

/-- Is the number within the limit? -/
def fitsB (a : Int) : Bool := decide (-4611686018427387903 ≤ a ∧ a ≤ 4611686018427387903)
/-- The sum and its error. -/
def addOk (a b : Int) : Bool := fitsB a && fitsB b && fitsB (a + b)
def addV (a b : Int) : Int := bif addOk a b then a + b else 0
def addE (a b : Int) : Int := bif addOk a b then 0 else 10

theorem fitsB_iff (a : Int) : fitsB a = true ↔ -4611686018427387903 ≤ a ∧ a ≤ 4611686018427387903 := by simp [fitsB]
theorem fitsB_false (a : Int) : fitsB a = false ↔ a < -4611686018427387903 ∨ 4611686018427387903 < a := by
  simp [fitsB]; omega


/-- One dimension of a sum, a difference, the greater one: the number and its error. -/
def addF (x y : Int) : Int × Int := (addV x y, addE x y)
def subF (x y : Int) : Int × Int := if fitsB y = true then (addV x (-y), addE x (-y)) else (0, 10)
def mostF (x y : Int) : Int × Int := (if y < x then x else y, 0)
/-- Dimension by dimension, up to the first error. -/
def eachM (f : Int → Int → Int × Int) (xs ys : List Int) : List Int × Int :=
  if xs.length = ys.length then
    match (List.range xs.length).find? (fun i => decide ((f xs[i]! ys[i]!).2 ≠ 0)) with
    | some i => ([], (f xs[i]! ys[i]!).2)
    | none => ((List.range xs.length).map (fun i => (f xs[i]! ys[i]!).1), 0)
  else ([], 43)
theorem eachM_ne {f : Int → Int → Int × Int} {xs ys : List Int} (h : xs.length ≠ ys.length) : eachM f xs ys = ([], 43) := by
  unfold eachM; rw [if_neg h]
theorem eachM_ok {f : Int → Int → Int × Int} {xs ys : List Int} (h : xs.length = ys.length) (ho : ∀ i, i < xs.length → (f xs[i]! ys[i]!).2 = 0) : eachM f xs ys = ((List.range xs.length).map (fun i => (f xs[i]! ys[i]!).1), 0) := by
  unfold eachM
  rw [if_pos h, List.find?_eq_none.2 (fun i hi => by rw [ho i (List.mem_range.1 hi)]; decide)]
theorem eachM_bad {f : Int → Int → Int × Int} {xs ys : List Int} {k : Nat} (h : xs.length = ys.length) (hk : k < xs.length) (ho : ∀ i, i < k → (f xs[i]! ys[i]!).2 = 0) (he : (f xs[k]! ys[k]!).2 ≠ 0) : eachM f xs ys = ([], (f xs[k]! ys[k]!).2) := by
  unfold eachM
  rw [if_pos h]
  have : (List.range xs.length).find? (fun i => decide ((f xs[i]! ys[i]!).2 ≠ 0)) = some k := by
    rw [List.find?_eq_some_iff_append]
    refine ⟨by simpa using he, List.range k, (List.range (xs.length - (k + 1))).map (· + (k + 1)), ?_, fun i hi => ?_⟩
    · have e : List.range xs.length = List.range (k + 1) ++ (List.range (xs.length - (k + 1))).map (k + 1 + ·) := by
        rw [← List.range_add]; congr 1; omega
      rw [e, List.range_succ, List.append_assoc]
      simp [Nat.add_comm]
    · rw [ho i (List.mem_range.1 hi)]; decide
  rw [this]
/-- How it ends, by cases. -/
theorem eachM_cases (f : Int → Int → Int × Int) (xs ys : List Int) :
    (xs.length ≠ ys.length ∧ eachM f xs ys = ([], 43)) ∨ (xs.length = ys.length ∧ ∃ k, k < xs.length ∧ (f xs[k]! ys[k]!).2 ≠ 0 ∧ (∀ i, i < k → (f xs[i]! ys[i]!).2 = 0) ∧ eachM f xs ys = ([], (f xs[k]! ys[k]!).2)) ∨
    (xs.length = ys.length ∧ (∀ i, i < xs.length → (f xs[i]! ys[i]!).2 = 0) ∧ eachM f xs ys = ((List.range xs.length).map (fun i => (f xs[i]! ys[i]!).1), 0)) := by
  by_cases h : xs.length = ys.length
  · by_cases ho : ∀ i, i < xs.length → (f xs[i]! ys[i]!).2 = 0
    · exact .inr (.inr ⟨h, ho, eachM_ok h ho⟩)
    · obtain ⟨k, hk, hm⟩ : ∃ k, (k < xs.length ∧ (f xs[k]! ys[k]!).2 ≠ 0) ∧ ∀ i, i < k → ¬ (i < xs.length ∧ (f xs[i]! ys[i]!).2 ≠ 0) := by
        have hex : ∃ k, k < xs.length ∧ (f xs[k]! ys[k]!).2 ≠ 0 := by
          by_cases h' : ∃ k, k < xs.length ∧ (f xs[k]! ys[k]!).2 ≠ 0
          · exact h'
          · exact absurd (fun i hi => by
              by_cases e : (f xs[i]! ys[i]!).2 = 0
              · exact e
              · exact absurd ⟨i, hi, e⟩ h') ho
        have : ∀ n k, k ≤ n → (k < xs.length ∧ (f xs[k]! ys[k]!).2 ≠ 0) → ∃ k, (k < xs.length ∧ (f xs[k]! ys[k]!).2 ≠ 0) ∧ ∀ i, i < k → ¬ (i < xs.length ∧ (f xs[i]! ys[i]!).2 ≠ 0) := by
          intro n
          induction n with
          | zero => intro k hk hp; exact ⟨k, hp, fun i hi => by omega⟩
          | succ n ih =>
            intro k hk hp
            by_cases h' : ∃ j, j < k ∧ (j < xs.length ∧ (f xs[j]! ys[j]!).2 ≠ 0)
            · obtain ⟨j, hj, hq⟩ := h'
              exact ih j (by omega) hq
            · exact ⟨k, hp, fun i hi hq => h' ⟨i, hi, hq⟩⟩
        obtain ⟨k, hk⟩ := hex
        exact this k k (Nat.le_refl _) hk
      have h0 : ∀ i, i < k → (f xs[i]! ys[i]!).2 = 0 := fun i hi => by
        by_cases e : (f xs[i]! ys[i]!).2 = 0
        · exact e
        · exact absurd ⟨by omega, e⟩ (hm i hi)
      exact .inr (.inl ⟨h, k, hk.1, hk.2, h0, eachM_bad h hk.1 h0 hk.2⟩)
  · exact .inl ⟨h, eachM_ne h⟩
theorem eachM_len (f : Int → Int → Int × Int) (xs ys : List Int) : (eachM f xs ys).1.length ≤ xs.length := by
  rcases eachM_cases f xs ys with ⟨_, e⟩ | ⟨_, _, _, _, _, e⟩ | ⟨_, _, e⟩ <;> rw [e] <;> simp
/-- Nowhere above. -/
def underB (xs ys : List Int) : Bool := decide (xs.length = ys.length ∧ ∀ i, i < xs.length → xs[i]! ≤ ys[i]!)
theorem underB_ne {xs ys : List Int} (h : xs.length ≠ ys.length) : underB xs ys = false := decide_eq_false fun h' => h h'.1
theorem underB_ok {xs ys : List Int} (h : xs.length = ys.length) (ho : ∀ i, i < xs.length → xs[i]! ≤ ys[i]!) : underB xs ys = true := decide_eq_true ⟨h, ho⟩
theorem underB_no {xs ys : List Int} {k : Nat} (hk : k < xs.length) (h : ¬ xs[k]! ≤ ys[k]!) : underB xs ys = false := decide_eq_false fun h' => h (h'.2 k hk)
theorem underB_iff {xs ys : List Int} : underB xs ys = true ↔ (xs.length = ys.length ∧ ∀ i, i < xs.length → xs[i]! ≤ ys[i]!) := by simp [underB]
/-- What is wrong with amounts. -/
def checkE (xs : List Int) (n : Int) : Int := if (xs.length : Int) = n then (if ∀ i, i < xs.length → 0 ≤ xs[i]! ∧ xs[i]! ≤ 1000000 then 0 else 2) else 43
theorem checkE_ne {xs : List Int} {n : Int} (h : ¬ (xs.length : Int) = n) : checkE xs n = 43 := by unfold checkE; rw [if_neg h]
theorem checkE_ok {xs : List Int} {n : Int} (h : (xs.length : Int) = n) (ho : ∀ i, i < xs.length → 0 ≤ xs[i]! ∧ xs[i]! ≤ 1000000) : checkE xs n = 0 := by unfold checkE; rw [if_pos h, if_pos ho]
theorem checkE_no {xs : List Int} {n : Int} {k : Nat} (h : (xs.length : Int) = n) (hk : k < xs.length) (hn : ¬ (0 ≤ xs[k]! ∧ xs[k]! ≤ 1000000)) : checkE xs n = 2 := by unfold checkE; rw [if_pos h, if_neg fun h' => hn (h' k hk)]
/-- The same numbers. -/
def sameB (xs ys : List Int) : Bool := decide (xs = ys)
theorem list_ext {xs ys : List Int} (h : xs.length = ys.length) (ho : ∀ i, i < xs.length → xs[i]! = ys[i]!) : xs = ys := by
  apply List.ext_getElem h
  intro i h1 h2
  have := ho i h1
  rwa [getElem!_pos _ i h1, getElem!_pos _ i h2] at this
theorem sameB_ne {xs ys : List Int} (h : xs.length ≠ ys.length) : sameB xs ys = false := decide_eq_false fun e => h (by rw [e])
theorem sameB_ok {xs ys : List Int} (h : xs.length = ys.length) (ho : ∀ i, i < xs.length → xs[i]! = ys[i]!) : sameB xs ys = true := decide_eq_true (list_ext h ho)
theorem sameB_no {xs ys : List Int} {k : Nat} (h : ¬ xs[k]! = ys[k]!) : sameB xs ys = false := decide_eq_false fun e => h (by rw [e])
theorem sameB_self (xs : List Int) : sameB xs xs = true := decide_eq_true rfl

end Go.Proofs.Ytehbdnnehhknmaa
