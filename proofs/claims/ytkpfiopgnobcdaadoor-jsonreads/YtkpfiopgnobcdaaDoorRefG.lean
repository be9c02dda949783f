/-
  What the escape of the document's reader does, whole.
-/
import Derived.Test.YtkpfiopgnobcdaaDoorRefF
namespace Go.Proofs.YtkpfiopgnobcdaaDoor
open Go.RowKit

section
variable {B : List UInt8} {R cap : Nat} {ta : Option Addr} {w0 w w' : World} {a b p : Nat} {v : Value}
theorem hexM_lt (B : List UInt8) (f : Nat) : ∀ (k l a x q : Nat), hexM B f k l a = .ok x q → x < (l + 1) * 16 ^ k ∧ a ≤ q ∧ q = a + k ∧ q ≤ B.length + 0 ∨ k = 0
  | 0, l, a, x, q, h => .inr rfl
  | k + 1, l, a, x, q, h => by
    refine .inl ?_
    unfold hexM at h
    split at h
    · rename_i hlt
      split at h
      · cases h
      · rename_i h16
        have hs : sixteenM (byteAt B a) ≤ 15 := by
          unfold sixteenM
          split
          · rename_i hd; unfold digN at hd; simp at hd; omega
          · split
            · omega
            · split <;> omega
        rcases hexM_lt B f k _ _ x q h with ⟨h1, h2, h3, h4⟩ | hk
        · refine ⟨?_, by omega, by omega, h4⟩
          have : (16 * l + (sixteenM (byteAt B a)).toNat + 1) * 16 ^ k ≤ (l + 1) * 16 ^ (k + 1) := by
            rw [Nat.pow_succ, show (l + 1) * (16 ^ k * 16) = ((l + 1) * 16) * 16 ^ k by rw [Nat.mul_comm (16 ^ k) 16, Nat.mul_assoc]]
            exact Nat.mul_le_mul_right _ (by omega)
          omega
        · subst hk
          unfold hexM at h
          simp only [Res.ok.injEq] at h
          obtain ⟨rfl, rfl⟩ := h
          refine ⟨by simp; omega, by omega, by omega, by omega⟩
    · cases h
theorem half_ok {f x q : Nat} (h : halfM B f a = .ok x q) : x < 65536 ∧ q ≤ B.length := by
  unfold halfM at h
  cases hp : peekM B (a + 1) with
  | bad y c => rw [hp] at h; cases h
  | ok c y =>
    rw [hp] at h
    simp only [Res.andThen] at h
    have hlt : a + 1 < B.length := by unfold peekM at hp; split at hp; assumption; cases hp
    cases hm : markM c with
    | some r =>
      rw [hm] at h
      simp only [Res.ok.injEq] at h
      obtain ⟨rfl, rfl⟩ := h
      refine ⟨?_, by omega⟩
      unfold markM at hm
      repeat' (split at hm)
      all_goals first | (cases hm; omega) | cases hm
    | none =>
      rw [hm] at h
      simp only at h
      split at h
      · rcases hexM_lt B f 4 0 (a + 2) x q h with ⟨h1, _, _, h4⟩ | h0
        · exact ⟨by simpa using h1, by omega⟩
        · cases h0
      · cases h
theorem half_code {f y c : Nat} (h : halfM B f a = .bad y c) : c ≠ 0 := by
  have hhex : ∀ (k l a y c : Nat), hexM B f k l a = .bad y c → c ≠ 0 := by
    intro k
    induction k with
    | zero => intro l a y c h; cases h
    | succ k ih =>
      intro l a y c h
      unfold hexM at h
      split at h
      · split at h
        · cases h; decide
        · exact ih _ _ _ _ h
      · cases h; decide
  unfold halfM at h
  cases hp : peekM B (a + 1) with
  | bad y c2 =>
    rw [hp] at h
    cases h
    unfold peekM at hp
    split at hp
    · cases hp
    · cases hp; decide
  | ok c2 y =>
    rw [hp] at h
    simp only [Res.andThen] at h
    cases hm : markM c2 with
    | some r => rw [hm] at h; cases h
    | none =>
      rw [hm] at h
      simp only at h
      split at h
      · exact hhex _ _ _ _ _ h
      · cases h; decide
/-- What an escape may answer behind a fault. -/
def EscP (X : Int) : Prop := 0 ≤ X ∧ X < 2097152
theorem escape_good (E : REnv B R cap ta w0) (h : RSc B R cap ta w0 w a 0 0 v) (ha : a < B.length) : Calls Tryd.prog 34 #[.pointer (some ⟨R, 0, none⟩)] w (DoneI B R cap ta w0 w v 3 EscP (escapeM B a)) := by
  rw [escape_half]
  cases hH : halfM B a a with
  | bad y c =>
    refine (escape_bad h c y (hide ((badI (half_good E h ha a) hH)))).mono ?_
    rintro e w' ⟨q, rfl, hq, hs, hf⟩
    exact ⟨0, q, rfl, ⟨by decide, by decide⟩, by omega, hs, hf⟩
  | ok x q =>
    obtain ⟨hx, hqB⟩ := half_ok hH
    have H1 := okI (half_good E h ha a) hH
    simp only [Res.andThen]
    by_cases c1 : x < 55296 ∨ 57344 ≤ x
    · rw [if_pos c1]
      exact escape_one h (x : Int) q (by omega) (hide H1)
    · rw [if_neg c1]
      by_cases c2 : 56320 ≤ x
      · rw [if_pos (.inl c2)]
        refine (escape_second h (x : Int) q (by omega) (by omega) (by omega) (hide H1)).mono ?_
        rintro e w' ⟨rfl, hs, hf⟩
        exact ⟨0, q, rfl, ⟨by decide, by decide⟩, by omega, hs, hf⟩
      · rcases escaped_cases B q with ⟨e1, e2⟩ | ⟨e1, e2, e3, e4⟩
        · rw [if_pos (.inr e1)]
          refine (escape_alone E h (x : Int) q (by omega) (by omega) (by omega) e2 hqB (hide H1)).mono ?_
          rintro e w' ⟨rfl, hs, hf⟩
          exact ⟨0, q, rfl, ⟨by decide, by decide⟩, by omega, hs, hf⟩
        · rw [if_neg (fun h => by rcases h with h | h; exact c2 h; rw [e1] at h; cases h)]
          cases hH2 : halfM B a q with
          | ok y r =>
            obtain ⟨hy, hrB⟩ := half_ok hH2
            have H2 := escape_two E h (x : Int) q (by omega) (by omega) (by omega) e2 e3 e4 (hide H1) (y : Int) ⟨by omega, by omega⟩ (fun z => z = r) 0 0 (hide (fun w1 hs1 => (okI (half_good E hs1 (by omega) a) hH2).mono fun e w' ⟨h1, h2, h3⟩ => ⟨h1, r, rfl, h2, h3⟩))
            simp only
            by_cases hy2 : y < 56320 ∨ 57344 ≤ y
            · rw [if_pos hy2]
              rw [if_pos (by omega), if_pos (by omega)] at H2
              refine H2.mono ?_
              rintro e w' ⟨rfl, _, rfl, hs, hf⟩
              exact ⟨_, _, rfl, ⟨by omega, by omega⟩, by omega, hs, hf⟩
            · rw [if_neg hy2]
              rw [if_neg (by omega), if_neg (by omega)] at H2
              refine H2.mono ?_
              rintro e w' ⟨rfl, _, rfl, hs, hf⟩
              exact ⟨by congr 2; omega, hs, hf⟩
          | bad y c =>
            have hcc := half_code hH2
            have H2 := escape_two E h (x : Int) q (by omega) (by omega) (by omega) e2 e3 e4 (hide H1) 0 ⟨by omega, by omega⟩ (fun z => z ≤ B.length + 2) c y (hide (fun w1 hs1 => (badI (half_good E hs1 (by omega) a) hH2).mono fun e w' ⟨X, q2, h1, h2, h3, h4, h5⟩ => ⟨by rw [h1, h2], q2, h3, h4, h5⟩))
            rw [if_neg (fun h => hcc h.1), if_neg (fun h => hcc h.1)] at H2
            refine H2.mono ?_
            rintro e w' ⟨rfl, q2, hq2, hs, hf⟩
            exact ⟨_, q2, rfl, ⟨by omega, by omega⟩, by omega, hs, hf⟩
end
end Go.Proofs.YtkpfiopgnobcdaaDoor
