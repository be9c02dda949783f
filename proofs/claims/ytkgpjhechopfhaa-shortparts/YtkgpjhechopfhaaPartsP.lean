/-
  Plain: a part of a shortest way is a shortest way.
-/
import Derived.Test.YtkgpjhechopfhaaAlong
namespace Go.Proofs.Ytkgpjhechopfhaa
open Go.RowKit Go.Sort

section
variable {n : Nat} {W : Nat → Nat → Option Int}
theorem weighL_split (v : Nat) (B : List Nat) : ∀ A : List Nat, weighL W (A ++ v :: B) = oadd (weighL W (A ++ [v])) (weighL W (v :: B))
  | [] => by
    show _ = oadd (some 0) _
    cases h : weighL W (v :: B) with
    | none => rw [List.nil_append, h]; rfl
    | some x => rw [List.nil_append, h]; show some x = some (0 + x); rw [Int.zero_add]
  | [a] => by
    show oadd (W a v) (weighL W (v :: B)) = oadd (oadd (W a v) (some 0)) _
    cases W a v with
    | none => rfl
    | some x => show _ = oadd (some (x + 0)) _; rw [Int.add_zero]
  | a :: b :: r => by
    show oadd (W a b) (weighL W ((b :: r) ++ v :: B)) = oadd (oadd (W a b) (weighL W ((b :: r) ++ [v]))) _
    rw [weighL_split v B (b :: r), oadd_assoc]
theorem way_of_list : ∀ (L : List Nat) (a b : Nat) (d : Int), weighL W L = some d → L.head? = some a → L.getLast? = some b → (∀ x ∈ L, x < n) → Way n W a b d
  | [], a, b, d, _, h, _, _ => by cases h
  | [x], a, b, d, h, h1, h2, _ => by
    simp at h1 h2
    subst h1 h2
    have : (0 : Int) = d := by simpa [weighL] using h
    subst this
    exact .here
  | x :: y :: r, a, b, d, h, h1, h2, hall => by
    simp at h1
    subst h1
    obtain ⟨u, v, e1, e2, e3⟩ := oadd_some h
    have := way_of_list (y :: r) y b v e2 rfl (by simpa using h2) (fun z hz => hall z (by simp at hz ⊢; exact .inr hz))
    rw [← e3, show u + v = (0 + u) + v by omega]
    exact Way.trans (.on .here (hall x (by simp)) (hall y (by simp)) e1) this
theorem part_ok {p q i j : Nat} {d : Int} {L : List Nat} (hW : WOk n W) (h : WayOk n W p q d L) (hp : p < n) (hd : least n W p q = some d) (hij : i ≤ j) (hj : j < L.length) :
    ∃ x, least n W L[i]! L[j]! = some x ∧ WayOk n W L[i]! L[j]! x ((L.drop i).take (j + 1 - i)) := by
  have hi : i < L.length := by omega
  rw [getElem!_pos L i hi, getElem!_pos L j hj]
  have e1 : L = L.take i ++ L[i] :: L.drop (i + 1) := by rw [← List.drop_eq_getElem_cons hi, List.take_append_drop]
  have e1b : L.drop i = L[i] :: L.drop (i + 1) := List.drop_eq_getElem_cons hi
  have e2 : L.drop i = (L.drop i).take (j - i) ++ L[j] :: L.drop (j + 1) := by
    have : (L.drop i).drop (j - i) = L[j] :: L.drop (j + 1) := by rw [List.drop_drop, show i + (j - i) = j by omega]; exact List.drop_eq_getElem_cons hj
    rw [← this, List.take_append_drop]
  have e3 : (L.drop i).take (j + 1 - i) = (L.drop i).take (j - i) ++ [L[j]] := by
    rw [show j + 1 - i = (j - i) + 1 by omega, List.take_succ_eq_append_getElem (by rw [List.length_drop]; omega), List.getElem_drop]
    congr 2
    simp only [show i + (j - i) = j by omega]
  have s1 : weighL W L = oadd (weighL W (L.take i ++ [L[i]])) (weighL W (L.drop i)) := by
    rw [e1b, ← weighL_split, ← e1]
  have s2 : weighL W (L.drop i) = oadd (weighL W ((L.drop i).take (j + 1 - i))) (weighL W (L[j] :: L.drop (j + 1))) := by
    rw [e3, ← weighL_split, ← e2]
  have hs := h.sum
  rw [s1, s2] at hs
  obtain ⟨x1, y1, h1, h2, h3⟩ := oadd_some hs
  obtain ⟨x2, x3, h4, h5, h6⟩ := oadd_some h2
  have hall := h.all
  have aM : ∀ x ∈ (L.drop i).take (j + 1 - i), x < n := fun x hx => hall x (List.mem_of_mem_drop (List.mem_of_mem_take hx))
  have fM : ((L.drop i).take (j + 1 - i)).head? = some L[i] := by rw [e1b, show j + 1 - i = (j - i) + 1 by omega]; rfl
  have lM : ((L.drop i).take (j + 1 - i)).getLast? = some L[j] := by rw [e3]; simp
  have w2 := way_of_list _ _ _ _ h4 fM lM aM
  have w1 : Way n W p L[i] x1 := by
    refine way_of_list _ _ _ _ h1 ?_ List.getLast?_concat (fun x hx => ?_)
    · rw [← List.take_succ_eq_append_getElem hi, List.head?_take, if_neg (by omega)]
      exact h.first
    · rw [List.mem_append] at hx
      rcases hx with hx | hx
      · exact hall x (List.mem_of_mem_take hx)
      · simp at hx; subst hx; exact hall _ (List.getElem_mem _)
  have w3 : Way n W L[j] q x3 := by
    refine way_of_list _ _ _ _ h5 rfl ?_ (fun x hx => ?_)
    · rw [← List.drop_eq_getElem_cons hj, List.getLast?_drop, if_neg (by omega)]
      exact h.last
    · rw [← List.drop_eq_getElem_cons hj] at hx
      exact hall x (List.mem_of_mem_drop hx)
  have hIi : L[i] < n := hall _ (List.getElem_mem _)
  have hIj : L[j] < n := hall _ (List.getElem_mem _)
  have hl := least_is hW L[i] hIi
  obtain ⟨y, hy1, hy2⟩ := hl.le w2
  have w2' := hl.way _ _ hIj hy1
  obtain ⟨z, hz1, hz2⟩ := (least_is hW p hp).le ((w1.trans w2').trans w3)
  rw [hd] at hz1
  cases hz1
  have : y = x2 := by omega
  subst this
  exact ⟨y, hy1, h4, fM, lM, aM, Nat.le_trans (Nat.le_trans (List.length_take_le' _ _) (by rw [List.length_drop]; omega)) h.len⟩
end
end Go.Proofs.Ytkgpjhechopfhaa
