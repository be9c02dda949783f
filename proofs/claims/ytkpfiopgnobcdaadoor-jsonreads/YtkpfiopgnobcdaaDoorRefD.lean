/-
  What the escape of the document's reader does.
-/
import Derived.Test.YtkpfiopgnobcdaaDoorRefC
namespace Go.Proofs.YtkpfiopgnobcdaaDoor
open Go.RowKit

/-- The escape as the document has it: a half, and a second one behind a first. -/
theorem escape_half (B : List UInt8) (a : Nat) : escapeM B a = (halfM B a a).andThen fun x q =>
    if x < 55296 ∨ 57344 ≤ x then .ok x q
    else if 56320 ≤ x ∨ escapedB B q = false then .bad a 24
    else (halfM B a q).andThen fun y r => if y < 56320 ∨ 57344 ≤ y then .bad a 24 else .ok (65536 + (x - 55296) * 1024 + (y - 56320)) r := by
  unfold escapeM halfM
  cases hP : peekM B (a + 1) with
  | bad p c => rfl
  | ok c p =>
    simp only [Res.andThen]
    by_cases h1 : c = 34 ∨ c = 92 ∨ c = 47
    · rw [if_pos h1]
      rcases h1 with rfl | rfl | rfl <;> rfl
    rw [if_neg h1]
    by_cases h2 : c = 98
    · subst h2; rfl
    rw [if_neg h2]
    by_cases h3 : c = 102
    · subst h3; rfl
    rw [if_neg h3]
    by_cases h4 : c = 110
    · subst h4; rfl
    rw [if_neg h4]
    by_cases h5 : c = 114
    · subst h5; rfl
    rw [if_neg h5]
    by_cases h6 : c = 116
    · subst h6; rfl
    rw [if_neg h6]
    have hm : markM c = none := by
      unfold markM
      rw [if_neg (by omega), if_neg (by omega), if_neg (by omega), if_neg h2, if_neg h3, if_neg h4, if_neg h5, if_neg h6]
    rw [hm]
    simp only
    by_cases h7 : c = 117
    · rw [if_pos h7, if_pos h7]
      unfold codedM
      cases hexM B a 4 0 (a + 2) with
      | bad p c => rfl
      | ok l q =>
        simp only [Res.andThen]
        split
        · rfl
        · split
          · rfl
          · rename_i hs
            have he : escapedB B q = true := by cases h : escapedB B q <;> simp_all
            have hq : q + 1 < B.length ∧ byteAt B (q + 1) = 117 := by unfold escapedB at he; simp at he; omega
            have hpk : peekM B (q + 1) = .ok 117 (q + 1) := by unfold peekM; rw [if_pos hq.1, hq.2]
            rw [hpk]
            simp only
            have hm2 : markM 117 = none := by decide
            rw [hm2]
            simp only [if_true]
    · rw [if_neg h7, if_neg h7]
end Go.Proofs.YtkpfiopgnobcdaaDoor
