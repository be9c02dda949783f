/-
  Plain: a queue as a list of pairs with different items: what Put, Key, Drop and Take do to it.
-/
import Derived.Test.YtojkdmkeankcgaaQHeapL
namespace Go.Proofs.Ytojkdmkeankcgaa.Qu

def items (X : List Pr) : List Int := X.map (·.1)
def Dis (X : List Pr) : Prop := (items X).Nodup
def repl (x k : Int) (p : Pr) : Pr := if p.1 = x then (x, k) else p
/-- An item's pair. -/
def look (X : List Pr) (x : Int) : Option Pr := X.find? (fun p => decide (p.1 = x))
def dropM (X : List Pr) (x : Int) : List Pr := X.filter (fun p => decide (p.1 ≠ x))
def putM (X : List Pr) (x k : Int) : List Pr × Bool :=
  match look X x with
  | none => if X.length < 4096 then (X ++ [(x, k)], true) else (X, false)
  | some p => if k < p.2 then (X.map (repl x k), true) else (X, false)
def keyM (X : List Pr) (x : Int) : Int × Bool :=
  match look X x with
  | none => (0, false)
  | some p => (p.2, true)
/-- The least of X. -/
def Least (X : List Pr) (p : Pr) : Prop := p ∈ X ∧ ∀ y ∈ X, lt y p = false

theorem Dis.perm {X Y : List Pr} (h : Dis X) (p : X.Perm Y) : Dis Y := (p.map _).nodup_iff.1 h
theorem Dis.inj {X : List Pr} (h : Dis X) {p q : Pr} (hp : p ∈ X) (hq : q ∈ X) (e : p.1 = q.1) : p = q := by
  induction X with
  | nil => cases hp
  | cons a r ih =>
    unfold Dis items at h
    rw [List.map_cons, List.nodup_cons] at h
    rcases List.mem_cons.1 hp with rfl | hp'
    · rcases List.mem_cons.1 hq with rfl | hq'
      · rfl
      · exact absurd (List.mem_map.2 ⟨q, hq', e.symm⟩) h.1
    · rcases List.mem_cons.1 hq with rfl | hq'
      · exact absurd (List.mem_map.2 ⟨p, hp', e⟩) h.1
      · exact ih h.2 hp' hq'
theorem look_none {X : List Pr} {x : Int} : look X x = none ↔ ∀ p ∈ X, p.1 ≠ x := by
  unfold look; rw [List.find?_eq_none]; simp
theorem look_some {X : List Pr} (h : Dis X) {x : Int} {p : Pr} : look X x = some p ↔ p ∈ X ∧ p.1 = x := by
  constructor
  · intro e
    exact ⟨List.mem_of_find?_eq_some e, by simpa using List.find?_some e⟩
  · rintro ⟨hp, rfl⟩
    cases e : look X p.1 with
    | none => exact absurd rfl (look_none.1 e p hp)
    | some q =>
      have h1 := List.mem_of_find?_eq_some e
      have h2 : q.1 = p.1 := by simpa using List.find?_some e
      rw [h.inj h1 hp h2]
theorem look_perm {X Y : List Pr} (h : Dis X) (p : X.Perm Y) (x : Int) : look X x = look Y x := by
  cases e : look Y x with
  | none => rw [look_none] at e ⊢; exact fun q hq => e q (p.mem_iff.1 hq)
  | some q => rw [look_some (h.perm p)] at e; rw [look_some h]; exact ⟨p.mem_iff.2 e.1, e.2⟩
theorem Least.uniq {X : List Pr} {p q : Pr} (h : Least X p) (k : Least X q) : p = q := le_anti (k.2 p h.1) (h.2 q k.1)
theorem Least.perm {X Y : List Pr} {p : Pr} (h : Least X p) (e : X.Perm Y) : Least Y p := ⟨e.mem_iff.1 h.1, fun y hy => h.2 y (e.mem_iff.2 hy)⟩
theorem least_ex : ∀ {X : List Pr}, X ≠ [] → ∃ p, Least X p
  | [], h => absurd rfl h
  | [a], _ => ⟨a, by simp, by simp [lt_irrefl]⟩
  | a :: b :: r, _ => by
    obtain ⟨p, hp, hl⟩ := least_ex (X := b :: r) (by simp)
    by_cases h : lt a p = true
    · refine ⟨a, by simp, fun y hy => ?_⟩
      rcases List.mem_cons.1 hy with rfl | hy'
      · exact lt_irrefl _
      · exact lt_le h (hl y hy')
    · refine ⟨p, by simp at hp ⊢; exact .inr hp, fun y hy => ?_⟩
      rcases List.mem_cons.1 hy with rfl | hy'
      · simpa using h
      · exact hl y hy'
theorem putM_perm {X Y : List Pr} (h : Dis X) (p : X.Perm Y) (x k : Int) : (putM X x k).1.Perm (putM Y x k).1 ∧ (putM X x k).2 = (putM Y x k).2 := by
  unfold putM
  rw [look_perm h p, p.length_eq]
  cases look Y x with
  | none => dsimp only; split <;> exact ⟨by first | exact p.append_right _ | exact p, rfl⟩
  | some q => dsimp only; split <;> exact ⟨by first | exact p.map _ | exact p, rfl⟩
theorem dropM_perm {X Y : List Pr} (p : X.Perm Y) (x : Int) : (dropM X x).Perm (dropM Y x) := p.filter _
theorem items_repl (X : List Pr) (x k : Int) : items (X.map (repl x k)) = items X := by
  unfold items
  rw [List.map_map]
  refine List.map_congr_left fun p _ => ?_
  simp only [Function.comp, repl]
  split
  · rename_i h; exact h.symm
  · rfl
theorem dis_put {X : List Pr} (h : Dis X) (x k : Int) : Dis (putM X x k).1 := by
  unfold putM
  cases e : look X x with
  | none =>
    dsimp only
    split
    · unfold Dis items
      rw [List.map_append, List.nodup_append]
      refine ⟨h, by simp, ?_⟩
      intro a ha b hb
      obtain ⟨p, hp, rfl⟩ := List.mem_map.1 ha
      simp at hb
      subst hb
      exact look_none.1 e p hp
    · exact h
  | some q =>
    dsimp only
    split
    · unfold Dis; rw [items_repl]; exact h
    · exact h
theorem dis_drop {X : List Pr} (h : Dis X) (x : Int) : Dis (dropM X x) := (List.filter_sublist.map _).nodup h
/-- Without the last pair. -/
theorem dropM_last {L : List Pr} {p : Pr} (h : Dis (L ++ [p])) : dropM (L ++ [p]) p.1 = L := by
  unfold dropM
  rw [List.filter_append]
  have h1 : L.filter (fun q => decide (q.1 ≠ p.1)) = L := by
    rw [List.filter_eq_self]
    intro q hq
    unfold Dis items at h
    rw [List.map_append, List.nodup_append] at h
    have := h.2.2 q.1 (List.mem_map.2 ⟨q, hq, rfl⟩) p.1 (by simp)
    simpa using this
  rw [h1]
  simp
theorem dropM_perm_last {L X : List Pr} {p : Pr} (hX : Dis X) (h : (L ++ [p]).Perm X) : L.Perm (dropM X p.1) := by
  have := dropM_perm h p.1
  rw [dropM_last (hX.perm h.symm)] at this
  exact this
theorem set_repl : ∀ {L : List Pr} {i : Nat}, Dis L → i < L.length → ∀ k, L.set i ((at' L i).1, k) = L.map (repl (at' L i).1 k)
  | [], _, _, h, _ => by simp at h
  | a :: r, 0, h, _, k => by
    unfold Dis items at h
    rw [List.map_cons, List.nodup_cons] at h
    have e : at' (a :: r) 0 = a := rfl
    rw [e, List.set_cons_zero, List.map_cons]
    congr 1
    · simp [repl]
    · have : r.map (repl a.1 k) = r.map id := List.map_congr_left fun q hq => by
        unfold repl
        rw [if_neg]
        · rfl
        · intro e2
          exact h.1 (List.mem_map.2 ⟨q, hq, e2⟩)
      rw [this, List.map_id]
  | a :: r, i + 1, h, hi, k => by
    have h0 := h
    unfold Dis items at h
    rw [List.map_cons, List.nodup_cons] at h
    have e : at' (a :: r) (i + 1) = at' r i := by simp [at']
    have hi' : i < r.length := by simpa using hi
    rw [e, List.set_cons_succ, List.map_cons, set_repl (L := r) h.2 hi' k]
    congr 1
    unfold repl
    rw [if_neg]
    intro e2
    refine h.1 (List.mem_map.2 ⟨at' r i, ?_, e2.symm⟩)
    have : at' r i = r[i] := by simp [at', List.getD_eq_getElem?_getD, hi']
    rw [this]; exact List.getElem_mem _
theorem mem_at {L : List Pr} {p : Pr} : p ∈ L ↔ ∃ i, i < L.length ∧ at' L i = p := by
  constructor
  · intro h
    obtain ⟨i, hi, e⟩ := List.getElem_of_mem h
    exact ⟨i, hi, by simp [at', List.getD_eq_getElem?_getD, hi, e]⟩
  · rintro ⟨i, hi, rfl⟩
    have : at' L i = L[i] := by simp [at', List.getD_eq_getElem?_getD, hi]
    rw [this]; exact List.getElem_mem _
theorem filter_one : ∀ {X : List Pr} {x : Int}, Dis X → (∃ p ∈ X, p.1 = x) → (dropM X x).length + 1 = X.length
  | [], _, _, h => by obtain ⟨p, hp, _⟩ := h; cases hp
  | a :: r, x, hd, h => by
    have hd2 := hd
    unfold Dis items at hd
    rw [List.map_cons, List.nodup_cons] at hd
    by_cases e : a.1 = x
    · have : dropM r x = r := by
        unfold dropM
        rw [List.filter_eq_self]
        intro q hq
        simp
        intro e2
        exact hd.1 (List.mem_map.2 ⟨q, hq, e2.trans e.symm⟩)
      have h2 : dropM (a :: r) x = dropM r x := by simp [dropM, e]
      rw [h2, this]; simp
    · have h2 : dropM (a :: r) x = a :: dropM r x := by simp [dropM, e]
      obtain ⟨p, hp, hpx⟩ := h
      have hpr : p ∈ r := by
        rcases List.mem_cons.1 hp with rfl | h'
        · exact absurd hpx e
        · exact h'
      have := filter_one (X := r) (x := x) hd.2 ⟨p, hpr, hpx⟩
      rw [h2]; simp; omega
end Go.Proofs.Ytojkdmkeankcgaa.Qu
