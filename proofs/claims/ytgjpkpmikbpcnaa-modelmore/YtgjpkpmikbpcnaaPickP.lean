/-
  Plain mathematics of a sort by selection: what is not used yet, the best of it; no program in it.
-/
import Derived.Test.YtgjpkpmikbpcnaaPlainT
namespace Go.Proofs.Ytgjpkpmikbpcnaa

section
variable {α : Type} (f : α → Int)
/-- What isn't used yet. -/
def rem : List α → List Bool → List α
  | a :: L, b :: u => if b = true then rem L u else a :: rem L u
  | _, _ => []
theorem rem_cons (a : α) (L : List α) (b : Bool) (u : List Bool) : rem (a :: L) (b :: u) = if b = true then rem L u else a :: rem L u := rfl
theorem rem_mem {x : α} : ∀ {L : List α} {u : List Bool}, x ∈ rem L u ↔ ∃ j : Nat, L[j]? = some x ∧ u[j]? = some false
  | [], u => by simp [rem]
  | a :: L, [] => by simp [rem]
  | a :: L, b :: u => by
    unfold rem
    constructor
    · intro h
      split at h
      · obtain ⟨j, h1, h2⟩ := rem_mem.1 h
        exact ⟨j + 1, by simpa using h1, by simpa using h2⟩
      · rename_i hb
        rcases List.mem_cons.1 h with rfl | h
        · exact ⟨0, rfl, by simpa using hb⟩
        · obtain ⟨j, h1, h2⟩ := rem_mem.1 h
          exact ⟨j + 1, by simpa using h1, by simpa using h2⟩
    · rintro ⟨j, h1, h2⟩
      cases j with
      | zero =>
        simp at h1 h2
        subst h1 h2
        simp
      | succ j =>
        have := rem_mem.2 ⟨j, by simpa using h1, by simpa using h2⟩
        split
        · exact this
        · exact List.mem_cons_of_mem _ this
theorem rem_len : ∀ {L : List α} {u : List Bool}, L.length = u.length → (rem L u).length = (u.filter fun b => !b).length
  | [], [], _ => rfl
  | a :: L, b :: u, h => by
    unfold rem
    have ih := rem_len (L := L) (u := u) (by simpa using h)
    cases b with
    | true => simpa using ih
    | false => simpa using ih
theorem rem_cut : ∀ {L : List α} {u : List Bool} {b : Nat} {m : α}, L[b]? = some m → u[b]? = some false → rem L u = rem (L.take b) (u.take b) ++ m :: rem (L.drop (b + 1)) (u.drop (b + 1)) ∧ rem L (u.set b true) = rem (L.take b) (u.take b) ++ rem (L.drop (b + 1)) (u.drop (b + 1))
  | [], u, b, m, h, _ => by simp at h
  | a :: L, [], b, m, _, h => by simp at h
  | a :: L, c :: u, 0, m, h1, h2 => by
    simp at h1 h2
    subst h1 h2
    simp [rem]
  | a :: L, c :: u, b + 1, m, h1, h2 => by
    obtain ⟨e1, e2⟩ := rem_cut (L := L) (u := u) (b := b) (m := m) (by simpa using h1) (by simpa using h2)
    simp only [List.set_cons_succ, List.take_succ_cons, List.drop_succ_cons, rem_cons]
    cases c with
    | true => simp only [if_true]; exact ⟨e1, e2⟩
    | false => simp only [Bool.false_eq_true, if_false, List.cons_append]; exact ⟨by rw [e1], by rw [e2]⟩
/-- The best of the first i: none yet, or the first of the greatest. -/
def BestAt (L : List α) (u : List Bool) (i : Nat) (best : Int) : Prop :=
  (best = -1 ∧ ∀ j, j < i → u[j]? ≠ some false) ∨ (∃ b : Nat, best = (b : Int) ∧ b < i ∧ u[b]? = some false ∧ ∃ m, L[b]? = some m ∧ (∀ j x, j < b → L[j]? = some x → u[j]? = some false → f x < f m) ∧ (∀ j x, b < j → j < i → L[j]? = some x → u[j]? = some false → f x ≤ f m))
theorem best_start (L : List α) (u : List Bool) : BestAt f L u 0 (-1) := .inl ⟨rfl, fun j hj => by omega⟩
theorem best_skip {L : List α} {u : List Bool} {i : Nat} {best : Int} (h : BestAt f L u i best) (hu : u[i]? ≠ some false) : BestAt f L u (i + 1) best := by
  rcases h with ⟨e, h⟩ | ⟨b, e, hb, h1, m, h2, h3, h4⟩
  · refine .inl ⟨e, fun j hj => ?_⟩
    rcases Nat.lt_or_ge j i with h5 | h5
    · exact h j h5
    · have : j = i := by omega
      subst this; exact hu
  · refine .inr ⟨b, e, by omega, h1, m, h2, h3, fun j x hj hi hx hf => ?_⟩
    rcases Nat.lt_or_ge j i with h5 | h5
    · exact h4 j x hj h5 hx hf
    · have : j = i := by omega
      subst this; exact absurd hf hu
theorem best_first {L : List α} {u : List Bool} {i : Nat} {x : α} (h : BestAt f L u i (-1)) (hx : L[i]? = some x) (hu : u[i]? = some false) : BestAt f L u (i + 1) (i : Int) := by
  rcases h with ⟨_, h⟩ | ⟨b, e, _⟩
  · exact .inr ⟨i, rfl, by omega, hu, x, hx, fun j y hj hy hf => absurd hf (h j hj), fun j y h1 h2 => by omega⟩
  · omega
theorem best_more {L : List α} {u : List Bool} {i b : Nat} {x m : α} (h : BestAt f L u i (b : Int)) (hm : L[b]? = some m) (hx : L[i]? = some x) (hu : u[i]? = some false) (hlt : f m < f x) : BestAt f L u (i + 1) (i : Int) := by
  rcases h with ⟨e, _⟩ | ⟨b', e, hb, h1, m', h2, h3, h4⟩
  · omega
  · have : b' = b := by omega
    subst this
    rw [hm] at h2
    cases h2
    refine .inr ⟨i, rfl, by omega, hu, x, hx, fun j y hj hy hf => ?_, fun j y h1 h2 => by omega⟩
    rcases Nat.lt_trichotomy j b' with h5 | h5 | h5
    · have := h3 j y h5 hy hf; omega
    · subst h5; rw [hm] at hy; cases hy; exact hlt
    · have := h4 j y h5 hj hy hf; omega
theorem best_less {L : List α} {u : List Bool} {i b : Nat} {x m : α} (h : BestAt f L u i (b : Int)) (hm : L[b]? = some m) (hx : L[i]? = some x) (hlt : ¬ f m < f x) : BestAt f L u (i + 1) (b : Int) := by
  rcases h with ⟨e, _⟩ | ⟨b', e, hb, h1, m', h2, h3, h4⟩
  · omega
  · have : b' = b := by omega
    subst this
    rw [hm] at h2
    cases h2
    refine .inr ⟨b', e, by omega, h1, m, hm, h3, fun j y hj hi hy hf => ?_⟩
    rcases Nat.lt_or_ge j i with h5 | h5
    · exact h4 j y hj h5 hy hf
    · have : j = i := by omega
      subst this; rw [hx] at hy; cases hy; omega
/-- What is picked stands first in the sorted rest. -/
theorem best_pick {L : List α} {u : List Bool} {n : Nat} {best : Int} (h : BestAt f L u n best) (hu : u.length = n) (hr : (rem L u).length ≠ 0) : ∃ b : Nat, best = (b : Int) ∧ b < n ∧ u[b]? = some false ∧ ∃ m, L[b]? = some m ∧ isort f (rem L u) = m :: isort f (rem L (u.set b true)) := by
  rcases h with ⟨_, h⟩ | ⟨b, e, hb, h1, m, h2, h3, h4⟩
  · exfalso
    obtain ⟨x, hx⟩ := List.exists_mem_of_length_pos (Nat.pos_of_ne_zero hr)
    obtain ⟨j, hj1, hj2⟩ := rem_mem.1 hx
    exact h j (by have := (List.getElem?_eq_some_iff.1 hj2).1; omega) hj2
  · refine ⟨b, e, hb, h1, m, h2, ?_⟩
    obtain ⟨e1, e2⟩ := rem_cut h2 h1
    rw [e1, e2]
    refine isort_pick f (fun a ha => ?_) fun a ha => ?_
    · obtain ⟨j, hj1, hj2⟩ := rem_mem.1 ha
      rw [List.getElem?_take] at hj1 hj2
      split at hj1
      · rename_i hlt
        rw [if_pos hlt] at hj2
        exact h3 j a hlt hj1 hj2
      · cases hj1
    · obtain ⟨j, hj1, hj2⟩ := rem_mem.1 ha
      rw [List.getElem?_drop] at hj1 hj2
      exact h4 _ a (by omega) (by have := (List.getElem?_eq_some_iff.1 hj2).1; omega) hj1 hj2
/-- How many are used. -/
theorem rem_set {L : List α} {u : List Bool} {b : Nat} {m : α} (h1 : L[b]? = some m) (h2 : u[b]? = some false) : (rem L u).length = (rem L (u.set b true)).length + 1 := by
  obtain ⟨e1, e2⟩ := rem_cut h1 h2
  rw [e1, e2]; simp; omega
theorem rem_all : ∀ (L : List α), rem L (List.replicate L.length false) = L
  | [] => rfl
  | a :: L => by simp [rem, List.replicate_succ, rem_all L]
end
end Go.Proofs.Ytgjpkpmikbpcnaa
