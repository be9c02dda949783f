/-
  Plain mathematics of a stable sort by falling keys; no program in it.
-/
namespace Go.Proofs.Ytgjpkpmikbpcnaa

section
variable {α : Type} (f : α → Int)
/-- x set in ahead of the first one with a lesser key. -/
def insL (x : α) : List α → List α
  | [] => [x]
  | y :: S => if f y < f x then x :: y :: S else y :: insL x S
def isortF (S L : List α) : List α := L.foldl (fun S x => insL f x S) S
def isort (L : List α) : List α := isortF f [] L
/-- Keys that don't rise. -/
def Srt (S : List α) : Prop := S.Pairwise fun a b => f b ≤ f a
theorem insL_len (x : α) : ∀ S : List α, (insL f x S).length = S.length + 1
  | [] => rfl
  | y :: S => by
    unfold insL
    split
    · simp
    · simp [insL_len x S]
theorem insL_mem {x z : α} : ∀ {S : List α}, z ∈ insL f x S ↔ z = x ∨ z ∈ S
  | [] => by simp [insL]
  | y :: S => by
    unfold insL
    split
    · simp
    · simp only [List.mem_cons, insL_mem]
      constructor
      · rintro (h | h | h)
        · exact .inr (.inl h)
        · exact .inl h
        · exact .inr (.inr h)
      · rintro (h | h | h)
        · exact .inr (.inl h)
        · exact .inl h
        · exact .inr (.inr h)
theorem insL_srt {x : α} : ∀ {S : List α}, Srt f S → Srt f (insL f x S)
  | [], _ => List.pairwise_singleton _ _
  | y :: S, h => by
    obtain ⟨h1, h2⟩ := List.pairwise_cons.1 h
    unfold insL
    split
    · rename_i hlt
      refine List.pairwise_cons.2 ⟨fun a ha => ?_, h⟩
      rcases List.mem_cons.1 ha with rfl | ha
      · omega
      · have := h1 a ha; omega
    · rename_i hlt
      refine List.pairwise_cons.2 ⟨fun a ha => ?_, insL_srt h2⟩
      rcases (insL_mem f).1 ha with rfl | ha
      · omega
      · exact h1 a ha
theorem isortF_srt : ∀ (L S : List α), Srt f S → Srt f (isortF f S L)
  | [], _, h => h
  | x :: L, S, h => isortF_srt L (insL f x S) (insL_srt f h)
theorem isortF_len : ∀ (L S : List α), (isortF f S L).length = S.length + L.length
  | [], _ => rfl
  | x :: L, S => by
    show (isortF f (insL f x S) L).length = _
    rw [isortF_len L, insL_len]; simp; omega
theorem isortF_mem {z : α} : ∀ {L S : List α}, z ∈ isortF f S L ↔ z ∈ S ∨ z ∈ L
  | [], S => by simp [isortF]
  | x :: L, S => by
    show z ∈ isortF f (insL f x S) L ↔ _
    rw [isortF_mem, insL_mem]
    simp only [List.mem_cons]
    constructor
    · rintro ((h | h) | h)
      · exact .inr (.inl h)
      · exact .inl h
      · exact .inr (.inr h)
    · rintro (h | h | h)
      · exact .inl (.inr h)
      · exact .inl (.inl h)
      · exact .inr h
theorem isort_len (L : List α) : (isort f L).length = L.length := by unfold isort; rw [isortF_len]; simp
theorem isort_mem {z : α} {L : List α} : z ∈ isort f L ↔ z ∈ L := by unfold isort; rw [isortF_mem]; simp
theorem isort_srt (L : List α) : Srt f (isort f L) := isortF_srt f L [] List.Pairwise.nil
/-- Where the walk from the right stands still. -/
theorem insL_at {x : α} : ∀ {A B : List α}, (∀ a ∈ A, f x ≤ f a) → (∀ b ∈ B, f b < f x) → insL f x (A ++ B) = A ++ x :: B
  | [], [], _, _ => rfl
  | [], b :: B, _, h => by simp only [List.nil_append]; unfold insL; rw [if_pos (h b List.mem_cons_self)]
  | a :: A, B, h, k => by
    have := h a List.mem_cons_self
    simp only [List.cons_append]
    conv => lhs; unfold insL
    rw [if_neg (by omega), insL_at (fun y hy => h y (List.mem_cons_of_mem _ hy)) k]
/-- The first of the greatest ones stands first. -/
theorem isortF_head {m : α} : ∀ (B S : List α), (∀ b ∈ B, f b ≤ f m) → isortF f (m :: S) B = m :: isortF f S B
  | [], _, _ => rfl
  | b :: B, S, h => by
    have := h b List.mem_cons_self
    show isortF f (insL f b (m :: S)) B = m :: isortF f (insL f b S) B
    rw [insL, if_neg (by omega)]
    exact isortF_head B _ fun y hy => h y (List.mem_cons_of_mem _ hy)
theorem isortF_app (S A B : List α) : isortF f S (A ++ B) = isortF f (isortF f S A) B := by unfold isortF; rw [List.foldl_append]
theorem insL_head {m : α} : ∀ {S : List α}, (∀ a ∈ S, f a < f m) → insL f m S = m :: S
  | [], _ => rfl
  | a :: S, h => by unfold insL; rw [if_pos (h a List.mem_cons_self)]
theorem isort_pick {m : α} {A B : List α} (hA : ∀ a ∈ A, f a < f m) (hB : ∀ b ∈ B, f b ≤ f m) : isort f (A ++ m :: B) = m :: isort f (A ++ B) := by
  unfold isort
  rw [isortF_app]
  show isortF f (insL f m (isortF f [] A)) B = _
  rw [insL_head f (fun a ha => hA a (by simpa using (isortF_mem f).1 ha)), isortF_head f B _ hB, isortF_app]
theorem insL_congr {g : α → Int} {x : α} : ∀ {S : List α}, (∀ y ∈ S, f y = g y) → f x = g x → insL f x S = insL g x S
  | [], _, _ => rfl
  | y :: S, h, k => by
    unfold insL
    rw [h y List.mem_cons_self, k, insL_congr (fun z hz => h z (List.mem_cons_of_mem _ hz)) k]
theorem isortF_congr {g : α → Int} : ∀ {L S : List α}, (∀ y ∈ L, f y = g y) → (∀ y ∈ S, f y = g y) → isortF f S L = isortF g S L
  | [], _, _, _ => rfl
  | x :: L, S, h, k => by
    show isortF f (insL f x S) L = isortF g (insL g x S) L
    have hx := h x List.mem_cons_self
    rw [← insL_congr f k hx]
    exact isortF_congr (fun y hy => h y (List.mem_cons_of_mem _ hy)) fun y hy => by
      rcases (insL_mem f).1 hy with rfl | hy
      · exact hx
      · exact k y hy
theorem isort_congr {g : α → Int} {L : List α} (h : ∀ y ∈ L, f y = g y) : isort f L = isort g L := isortF_congr f h fun y hy => by simp at hy
/-- One left out. -/
theorem insL_out [DecidableEq α] {x y : α} (hy : y ≠ x) : ∀ {S : List α}, Srt f S → (insL f y S).filter (fun z => decide (z ≠ x)) = insL f y (S.filter fun z => decide (z ≠ x))
  | [], _ => by simp [insL, hy]
  | a :: S, h => by
    obtain ⟨h1, h2⟩ := List.pairwise_cons.1 h
    have ih := insL_out hy h2
    by_cases ha : a = x
    · have e : (a :: S).filter (fun z => decide (z ≠ x)) = S.filter (fun z => decide (z ≠ x)) := by simp [ha]
      rw [e]
      conv => lhs; unfold insL
      split
      · rename_i hlt
        rw [List.filter_cons, if_pos (by simpa using hy), e, insL_head]
        intro b hb
        have := h1 b (List.mem_filter.1 hb).1
        omega
      · rw [List.filter_cons, if_neg (by simp [ha])]
        exact ih
    · have e : (a :: S).filter (fun z => decide (z ≠ x)) = a :: S.filter (fun z => decide (z ≠ x)) := by simp [ha]
      rw [e]
      conv => lhs; unfold insL
      conv => rhs; unfold insL
      split
      · rw [List.filter_cons, if_pos (by simpa using hy), e]
      · rw [List.filter_cons, if_pos (by simpa using ha), ih]
theorem insL_self [DecidableEq α] {x : α} : ∀ {S : List α}, (insL f x S).filter (fun z => decide (z ≠ x)) = S.filter fun z => decide (z ≠ x)
  | [] => by simp [insL]
  | a :: S => by
    unfold insL
    split
    · rw [List.filter_cons, if_neg (by simp)]
    · rw [List.filter_cons, List.filter_cons, insL_self]
theorem isortF_out [DecidableEq α] {x : α} : ∀ {B S : List α}, Srt f S → x ∉ B → (isortF f S B).filter (fun z => decide (z ≠ x)) = isortF f (S.filter fun z => decide (z ≠ x)) B
  | [], _, _, _ => rfl
  | b :: B, S, h, hx => by
    have hb : b ≠ x := fun e => hx (e ▸ List.mem_cons_self)
    show (isortF f (insL f b S) B).filter _ = isortF f (insL f b _) B
    rw [isortF_out (insL_srt f h) (fun h => hx (List.mem_cons_of_mem _ h)), insL_out f hb h]
theorem isort_out [DecidableEq α] {x : α} {A B : List α} (hA : x ∉ A) (hB : x ∉ B) : (isort f (A ++ x :: B)).filter (fun z => decide (z ≠ x)) = isort f (A ++ B) := by
  unfold isort
  rw [isortF_app, isortF_app]
  show (isortF f (insL f x (isortF f [] A)) B).filter _ = _
  rw [isortF_out f (insL_srt f (isortF_srt f A [] List.Pairwise.nil)) hB, insL_self, List.filter_eq_self.2]
  intro a ha
  have : a ∈ A := by simpa using (isortF_mem f).1 ha
  have hne : a ≠ x := fun e => hA (e ▸ this)
  simpa using hne
end
end Go.Proofs.Ytgjpkpmikbpcnaa
