/-
  Plain: the program's joined, a kid at a time.
-/
import Derived.Test.YtpffhckimilppaaDoorJoinP
namespace Go.Proofs.YtpffhckimilppaaDoor

theorem jnK_cons (i : Int) (s : List Int) (k : Int) (ks : List Int) : jnK i s (k :: ks) = if k < 0 ∨ i ≤ k ∨ k ∈ s then none else jnK i (s ++ [k]) ks := rfl
theorem jnT_cons (i : Nat) (s ks : List Int) (r : List (List Int)) : jnT i s (ks :: r) = (jnK i s ks).bind fun s => jnT (i + 1) s r := rfl
theorem jnK_app {i : Int} {a b : List Int} : ∀ {s : List Int}, jnK i s (a ++ b) = (jnK i s a).bind fun s => jnK i s b := by
  induction a with
  | nil => intro s; rfl
  | cons k a ih =>
    intro s
    rw [List.cons_append, jnK_cons, jnK_cons]
    by_cases h : k < 0 ∨ i ≤ k ∨ k ∈ s
    · rw [if_pos h, if_pos h]; rfl
    · rw [if_neg h, if_neg h]; exact ih
theorem jnT_app {A B : List (List Int)} : ∀ {i : Nat} {s : List Int}, jnT i s (A ++ B) = (jnT i s A).bind fun s => jnT (i + A.length) s B := by
  induction A with
  | nil => intro i s; rfl
  | cons k A ih =>
    intro i s
    rw [List.cons_append, jnT_cons, jnT_cons]
    cases jnK i s k with
    | none => rfl
    | some m =>
      simp only [Option.bind_some]
      rw [ih, List.length_cons, Nat.add_assoc, Nat.add_comm 1]
theorem jnT_one {i : Nat} {s : List Int} {b : List Int} : jnT i s [b] = jnK i s b := by
  rw [jnT_cons]
  cases jnK i s b <;> rfl
theorem jn_begin (A : List (List Int)) : jnT 0 [] (A ++ [[]]) = jnT 0 [] A := by
  rw [jnT_app]
  cases jnT 0 [] A <;> rfl
theorem jn_step {A : List (List Int)} {b : List Int} {x : Int} {s : List Int} (h : jnT 0 [] (A ++ [b]) = some s) : jnT 0 [] (A ++ [b ++ [x]]) = if x < 0 ∨ (A.length : Int) ≤ x ∨ x ∈ s then none else some (s ++ [x]) := by
  rw [jnT_app] at h ⊢
  cases ha : jnT 0 [] A with
  | none => rw [ha] at h; cases h
  | some m =>
    rw [ha] at h
    simp only [Option.bind_some, jnT_one, Nat.zero_add] at h ⊢
    rw [jnK_app, h]
    rfl
theorem jn_none {A R : List (List Int)} {b r : List Int} {x : Int} (h : jnT 0 [] (A ++ [b ++ [x]]) = none) : jnT 0 [] (A ++ (b ++ x :: r) :: R) = none := by
  rw [jnT_app] at h ⊢
  cases ha : jnT 0 [] A with
  | none => rfl
  | some m =>
    rw [ha] at h
    simp only [Option.bind_some, jnT_one] at h ⊢
    rw [jnT_cons, show b ++ x :: r = (b ++ [x]) ++ r by simp, jnK_app, h]
    rfl
theorem jn_len {K : List (List Int)} {s : List Int} (h : jnT 0 [] K = some s) : s.length ≤ K.length := by
  obtain ⟨h1, h2, rfl⟩ := (jnT_some (by simp)).1 h
  simp only [List.nil_append] at h2 ⊢
  have hc : ∀ k : Int, K.flatten.count k ≤ 1 := fun k => List.nodup_iff_count.1 h2 k
  have h4 : sumC K.flatten K.length = K.flatten.length := sumC_len fun k hk => by have := h1.all k hk; omega
  have := sumC_le hc (m := K.length)
  omega
theorem jn_in {K : List (List Int)} {s : List Int} (h : jnT 0 [] K = some s) : ∀ x ∈ s, 0 ≤ x ∧ x < (K.length : Int) - 1 := by
  obtain ⟨h1, h2, rfl⟩ := (jnT_some (by simp)).1 h
  intro x hx
  have := h1.all x (by simpa using hx)
  omega
end Go.Proofs.YtpffhckimilppaaDoor
