/-
  Plain mathematics for the laws of layer 10: the set of a list, or its first fault; no program in it.
-/
import Derived.Test.YtkemjofjmpjiiaaDoorPop
namespace Go.Proofs.YtkemjofjmpjiiaaDoor

/-- The set so far, then the others; or the place and the error of the first that is none, or stood ahead. -/
def ofF : Nat → Nat → List Int → Nat × Nat × Int
  | _, s, [] => (s, 0, 0)
  | i, s, z :: r => if z < 0 ∨ 61 < z then (0, i, 2) else if s.testBit z.toNat = true then (0, i, 28) else ofF (i + 1) (s ||| 2 ^ z.toNat) r
def ofM (zs : List Int) : Nat × Nat × Int := ofF 0 0 zs
/-- The bits of s are just the numbers of l. -/
def Bits (s : Nat) (l : List Int) : Prop := ∀ k : Nat, s.testBit k = true ↔ (k : Int) ∈ l
theorem bits_nil : Bits 0 [] := fun k => by simp
theorem bits_add {s : Nat} {l : List Int} {z : Int} (h : Bits s l) (h0 : 0 ≤ z) : Bits (s ||| 2 ^ z.toNat) (l ++ [z]) := fun k => by
  rw [Nat.testBit_or, Nat.testBit_two_pow, Bool.or_eq_true, h k, List.mem_append]
  simp
  constructor
  · rintro (h | h)
    · exact .inl h
    · exact .inr (by omega)
  · rintro (h | h)
    · exact .inl h
    · exact .inr (by omega)
theorem lt62_add {s : Nat} {z : Int} (h : s < 4611686018427387904) (h0 : 0 ≤ z) (h1 : z ≤ 61) : s ||| 2 ^ z.toNat < 4611686018427387904 := by
  have hp : (2 : Nat) ^ z.toNat < 2 ^ 62 := Nat.pow_lt_pow_of_lt (by decide) (by omega)
  exact Nat.or_lt_two_pow (n := 62) h hp
theorem bits_same {s t : Nat} {l m : List Int} (hs : Bits s l) (ht : Bits t m) (h : ∀ z, z ∈ l ↔ z ∈ m) : s = t := Nat.eq_of_testBit_eq fun k => by
  rw [Bool.eq_iff_iff, hs k, ht k, h]
/-- Skills, each once. -/
def Fine (l : List Int) : Prop := (∀ z ∈ l, 0 ≤ z ∧ z ≤ 61) ∧ l.Nodup
theorem ofF_good (P : Nat → Nat) (hP : ∀ s k, k < 62 → s &&& 2 ^ k = 0 → P (s ||| 2 ^ k) = P s + 1) : ∀ (r : List Int) (i s : Nat) (l : List Int), Bits s l → s < 4611686018427387904 → P s = l.length → Fine (l ++ r) → ∃ t, ofF i s r = (t, 0, 0) ∧ Bits t (l ++ r) ∧ t < 4611686018427387904 ∧ P t = (l ++ r).length
  | [], i, s, l, hb, hs, hp, _ => ⟨s, rfl, by simpa using hb, hs, by simpa using hp⟩
  | z :: r, i, s, l, hb, hs, hp, hf => by
    obtain ⟨h0, h1⟩ := hf.1 z (by simp)
    have hn : ¬ s.testBit z.toNat = true := fun h => by
      have := (hb z.toNat).1 h
      rw [show ((z.toNat : Nat) : Int) = z by omega] at this
      have hd := (List.nodup_append.1 hf.2).2.2 z this z (by simp)
      exact hd rfl
    have hz : s &&& 2 ^ z.toNat = 0 := Nat.eq_of_testBit_eq fun k => by
      rw [Nat.testBit_and, Nat.testBit_two_pow, Nat.zero_testBit]
      by_cases e : z.toNat = k
      · subst e; simp at hn; simp [hn]
      · simp [e]
    have hpo := hP s z.toNat (by omega) hz
    obtain ⟨t, e1, e2, e3, e4⟩ := ofF_good P hP r (i + 1) (s ||| 2 ^ z.toNat) (l ++ [z]) (bits_add hb h0) (lt62_add hs h0 h1) (by simp; omega) (by simpa using hf)
    refine ⟨t, ?_, by simpa using e2, e3, by simpa using e4⟩
    unfold ofF
    rw [if_neg (by omega), if_neg hn]
    exact e1
theorem ofF_bad : ∀ (r : List Int) (i s : Nat) (l : List Int), Bits s l → Fine l → ¬ Fine (l ++ r) → ∃ k e, ofF i s r = (0, k, e) ∧ e ≠ 0
  | [], _, _, l, _, hl, hf => absurd (by simpa using hl) hf
  | z :: r, i, s, l, hb, hl, hf => by
    unfold ofF
    by_cases h0 : z < 0 ∨ 61 < z
    · rw [if_pos h0]; exact ⟨_, _, rfl, by decide⟩
    · rw [if_neg h0]
      by_cases h1 : s.testBit z.toNat = true
      · rw [if_pos h1]; exact ⟨_, _, rfl, by decide⟩
      · rw [if_neg h1]
        have hz : z ∉ l := fun h => h1 ((hb z.toNat).2 (by rwa [show ((z.toNat : Nat) : Int) = z by omega]))
        refine ofF_bad r _ _ (l ++ [z]) (bits_add hb (by omega)) ⟨fun x hx => ?_, ?_⟩ (by simpa using hf)
        · rcases List.mem_append.1 hx with h | h
          · exact hl.1 x h
          · simp at h; subst h; omega
        · rw [List.nodup_append]
          refine ⟨hl.2, by simp, fun a ha b hb e => ?_⟩
          simp at hb; subst hb; subst e; exact hz ha
theorem fine_nil : Fine [] := ⟨fun z h => by simp at h, List.nodup_nil⟩
theorem ofM_good {l : List Int} (h : Fine l) : ∃ t, ofM l = (t, 0, 0) ∧ Bits t l ∧ t < 4611686018427387904 ∧ pop 64 t = l.length := by
  have := ofF_good (pop 64) (fun s k hk hz => by have hpo := pop_or_and 64 s (2 ^ k); rw [hz, pop_zero, pop_bit _ hk] at hpo; omega) l 0 0 [] bits_nil (by decide) (pop_zero 64) (by simpa using h)
  simpa [ofM] using this
theorem ofM_bad {l : List Int} (h : ¬ Fine l) : ∃ k e, ofM l = (0, k, e) ∧ e ≠ 0 := ofF_bad l 0 0 [] bits_nil fine_nil (by simpa using h)
theorem fine_reverse {l : List Int} : Fine l.reverse ↔ Fine l := by
  have : l.reverse.Nodup ↔ l.Nodup := by
    unfold List.Nodup
    rw [List.pairwise_reverse]
    exact ⟨fun h => h.imp fun h => h.symm, fun h => h.imp fun h => h.symm⟩
  simp [Fine, this]
/-- In which order they stand doesn't matter. -/
theorem ofM_reverse (l : List Int) : (ofM l).1 = (ofM l.reverse).1 ∧ ((ofM l).2.2 = 0 ↔ (ofM l.reverse).2.2 = 0) := by
  by_cases h : Fine l
  · obtain ⟨t, e1, e2, _⟩ := ofM_good h
    obtain ⟨u, f1, f2, _⟩ := ofM_good (fine_reverse.2 h)
    rw [e1, f1]
    exact ⟨bits_same e2 f2 (by simp), by simp⟩
  · obtain ⟨k, e, e1, e2⟩ := ofM_bad h
    obtain ⟨k', e', f1, f2⟩ := ofM_bad (mt fine_reverse.1 h)
    rw [e1, f1]
    exact ⟨rfl, by simp [e2, f2]⟩
theorem ofM_shape (l : List Int) : (ofM l).1 < 4611686018427387904 ∧ ((ofM l).2.2 = 0 → (ofM l).2.1 = 0 ∧ pop 64 (ofM l).1 = l.length) ∧ ((ofM l).2.2 ≠ 0 → (ofM l).1 = 0) := by
  by_cases h : Fine l
  · obtain ⟨t, e1, e2, e3, e4⟩ := ofM_good h
    rw [e1]; exact ⟨e3, fun _ => ⟨rfl, e4⟩, fun h => absurd rfl h⟩
  · obtain ⟨k, e, e1, e2⟩ := ofM_bad h
    rw [e1]; exact ⟨(by show (0 : Nat) < _; decide), fun h => absurd h e2, fun _ => rfl⟩
end Go.Proofs.YtkemjofjmpjiiaaDoor
