/-
  The reader's value, at every depth.
-/
import Derived.Test.YtpffhckimilppaaDoorJBegun
namespace Go.Proofs.YtpffhckimilppaaDoor.Js
open Go.RowKit

theorem wordM_adv (B : List UInt8) : ∀ (l : List UInt8) (a : Nat) (x : Unit) (a' : Nat), wordM B l a = .ok x a' → a' = a + l.length
  | [], a, x, a', e => by simp only [wordM, Res.ok.injEq] at e; simp; omega
  | c :: l, a, x, a', e => by
    simp only [wordM] at e
    cases h : wantM B c.toNat a with
    | bad y z => rw [h] at e; cases e
    | ok y q =>
      rw [h] at e
      have := wantM_at h
      have := wordM_adv B l q x a' e
      simp; omega
theorem eachL_ok {σ : Type} (B : List UInt8) (close : Nat) (kid : σ → Nat → Res σ) (m : σ → Nat) (hk : ∀ s a s' a', kid s a = .ok s' a' → a < a' ∧ m s ≤ m s') :
    ∀ (k : Nat) (s : σ) (a : Nat) (s' : σ) (a' : Nat), eachL B close kid k s a = .ok s' a' → a < a' ∧ m s ≤ m s'
  | 0, s, a, s', a', e => by simp [eachL] at e
  | k + 1, s, a, s', a', e => by
    simp only [eachL] at e
    cases h : kid s a with
    | bad y z => rw [h] at e; cases e
    | ok s1 a1 =>
      have h1 := hk _ _ _ _ h
      rw [h] at e
      simp only [Res.andThen] at e
      cases hA : aheadM B a1 with
      | bad y z => rw [hA] at e; cases e
      | ok c p =>
        have h2 := aheadM_at hA
        rw [hA] at e
        simp only at e
        split at e
        · simp only [Res.ok.injEq] at e; obtain ⟨rfl, rfl⟩ := e; omega
        · cases hW : wantM B 44 p with
          | bad y z => rw [hW] at e; cases e
          | ok y q =>
            rw [hW] at e
            have h3 := wantM_at hW
            have h4 := eachL_ok B close kid m hk k _ _ _ _ e
            omega
theorem eachM_ok {σ : Type} (B : List UInt8) (close : Nat) (kid : σ → Nat → Res σ) (m : σ → Nat) (hk : ∀ s a s' a', kid s a = .ok s' a' → a < a' ∧ m s ≤ m s') (s : σ) (a : Nat) (s' : σ) (a' : Nat) (e : eachM B close kid s a = .ok s' a') : a < a' ∧ m s ≤ m s' := by
  unfold eachM at e
  cases hA : aheadM B (a + 1) with
  | bad y z => rw [hA] at e; cases e
  | ok c p =>
    have h2 := aheadM_at hA
    rw [hA] at e
    simp only [Res.andThen] at e
    split at e
    · simp only [Res.ok.injEq] at e; obtain ⟨rfl, rfl⟩ := e; omega
    · have := eachL_ok B close kid m hk _ _ _ _ _ e; omega
theorem listK_ok {sub : Sub} (hs : SubOk sub) (s : List Nat × List V) (a : Nat) (s' : List Nat × List V) (a' : Nat) (e : listK sub s a = .ok s' a') : a < a' ∧ s.2.length ≤ s'.2.length := by
  unfold listK at e
  cases h : sub s.2 a with
  | bad y z => rw [h] at e; cases e
  | ok x a1 =>
    rw [h] at e
    simp only [Res.andThen, Res.ok.injEq] at e
    have := hs _ _ _ _ h
    obtain ⟨rfl, rfl⟩ := e
    simp only; omega
theorem objK_ok (B : List UInt8) {sub : Sub} (hs : SubOk sub) (s : List (List UInt8) × List Nat × List V) (a : Nat) (s' : List (List UInt8) × List Nat × List V) (a' : Nat) (e : objK B sub s a = .ok s' a') : a < a' ∧ s.2.2.length ≤ s'.2.2.length := by
  unfold objK at e
  cases hN : nameM B s.1 a with
  | bad x y => rw [hN] at e; cases e
  | ok n p =>
    rw [hN] at e
    simp only [Res.andThen] at e
    have hap := nameM_adv hN
    cases hW : wantM B 58 (skip B p) with
    | bad x y => rw [hW] at e; cases e
    | ok z q =>
      rw [hW] at e
      have hq := wantM_at hW
      have hsk := run_ge blankB B p
      have hsk2 : skip B p = run blankB B p := rfl
      cases hM : sub s.2.2 q with
      | bad x y => simp only [hM] at e; cases e
      | ok x a1 =>
        simp only [hM, Res.ok.injEq] at e
        have := hs _ _ _ _ hM
        obtain ⟨rfl, rfl⟩ := e
        simp only; omega
theorem begunM_ok (B : List UInt8) (sub : Option Sub) (hs : ∀ f, sub = some f → SubOk f) (T : List V) (p : Nat) (hp : p < B.length) (y : V × List V) (a' : Nat) (e : begunM B sub (byteAt B p) T p = .ok y a') : T.length ≤ y.2.length ∧ p < a' := by
  unfold begunM at e
  split at e
  · cases h : wordM B nullW p with
    | bad x z => rw [h] at e; cases e
    | ok x a1 => rw [h] at e; simp only [Res.andThen, Res.ok.injEq] at e; have := wordM_adv B _ _ _ _ h; obtain ⟨rfl, rfl⟩ := e; simp [nullW] at this; simp only; omega
  split at e
  · cases h : wordM B trueW p with
    | bad x z => rw [h] at e; cases e
    | ok x a1 => rw [h] at e; simp only [Res.andThen, Res.ok.injEq] at e; have := wordM_adv B _ _ _ _ h; obtain ⟨rfl, rfl⟩ := e; simp [trueW] at this; simp only; omega
  split at e
  · cases h : wordM B falseW p with
    | bad x z => rw [h] at e; cases e
    | ok x a1 => rw [h] at e; simp only [Res.andThen, Res.ok.injEq] at e; have := wordM_adv B _ _ _ _ h; obtain ⟨rfl, rfl⟩ := e; simp [falseW] at this; simp only; omega
  split at e
  · cases h : quotedM B p with
    | bad x z => rw [h] at e; cases e
    | ok x a1 => rw [h] at e; simp only [Res.andThen, Res.ok.injEq] at e; have := quotedL_adv B _ _ _ _ _ h; obtain ⟨rfl, rfl⟩ := e; simp only; omega
  split at e
  · rename_i hd
    have hnum : numeralB (byteAt B p) = true := by
      unfold numeralB
      rcases hd with h1 | h1
      · rw [h1]; rfl
      · rw [h1]; rfl
    have h1 := run_yes numeralB B p hp hnum
    have h2 := run_ge numeralB B (p + 1)
    cases h : numberM B p with
    | bad x z => rw [h] at e; cases e
    | ok x a1 =>
      rw [h] at e
      simp only [Res.andThen, Res.ok.injEq] at e
      unfold numberM at h
      split at h
      · simp only [Res.ok.injEq] at h
        obtain ⟨rfl, rfl⟩ := e
        have h3 : numEnd B p = run numeralB B p := rfl
        simp only; omega
      · cases h
  split at e
  · unfold listM at e
    cases sub with
    | none => cases e
    | some f =>
      simp only at e
      cases h : eachM B 93 (listK f) ([], T) p with
      | bad x z => rw [h] at e; cases e
      | ok s a1 =>
        rw [h] at e
        simp only [Res.andThen, Res.ok.injEq] at e
        have := eachM_ok B 93 (listK f) (fun s => s.2.length) (listK_ok (hs f rfl)) _ _ _ _ h
        obtain ⟨rfl, rfl⟩ := e
        simp only at this ⊢; omega
  split at e
  · unfold objectM at e
    cases sub with
    | none => cases e
    | some f =>
      simp only at e
      cases h : eachM B 125 (objK B f) ([], [], T) p with
      | bad x z => rw [h] at e; cases e
      | ok s a1 =>
        rw [h] at e
        simp only [Res.andThen, Res.ok.injEq] at e
        have := eachM_ok B 125 (objK B f) (fun s => s.2.2.length) (objK_ok B (hs f rfl)) _ _ _ _ h
        obtain ⟨rfl, rfl⟩ := e
        simp only at this ⊢; omega
  · cases e
theorem valueS_ok (B : List UInt8) (sub : Option Sub) (hs : ∀ f, sub = some f → SubOk f) : SubOk (valueS B sub) := by
  intro T a x a' e
  unfold valueS at e
  cases hA : aheadM B a with
  | bad y z => rw [hA] at e; cases e
  | ok c p =>
    obtain ⟨rfl, hp, hap⟩ := aheadM_at hA
    rw [hA] at e
    simp only [Res.andThen] at e
    cases h : begunM B sub (byteAt B p) T p with
    | bad y z => rw [h] at e; cases e
    | ok y a1 =>
      rw [h] at e
      simp only at e
      have := begunM_ok B sub hs T p hp y a1 h
      split at e
      · cases e
      · simp only [Res.ok.injEq] at e
        obtain ⟨rfl, rfl⟩ := e
        simp; omega
theorem valueM_ok (B : List UInt8) : ∀ k, SubOk (valueM B k)
  | 0 => valueS_ok B none (fun _ e => by cases e)
  | k + 1 => valueS_ok B (some (valueM B k)) (fun f e => by cases e; exact valueM_ok B k)

theorem value_all {B : List UInt8} {R tb toff cap : Nat} {w0 : World} (E : Env B R tb toff cap w0) : ∀ k d, k + d = 16 → ValueC B R tb toff cap w0 (valueM B k) d
  | 0, d, h => fun w a v T cs hst => value_any E (fun w p v T cs h1 hp => begun_c E (sub := none) (show d = 16 by omega) _ p h1 hp) hst
  | k + 1, d, h => fun w a v T cs hst => value_any E (fun w p v T cs h1 hp => begun_c E (sub := some (valueM B k)) ⟨by omega, value_all E k (d + 1) (by omega), valueM_ok B k⟩ _ p h1 hp) hst
end Go.Proofs.YtpffhckimilppaaDoor.Js