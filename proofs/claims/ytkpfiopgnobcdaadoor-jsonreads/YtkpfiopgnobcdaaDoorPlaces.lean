/-
  Where the plain reader goes on, and where its faults stand: within the text, and each with a code; no program in it.
-/
import Derived.Test.YtkpfiopgnobcdaaDoorModel
namespace Go.Proofs.YtkpfiopgnobcdaaDoor
open Go.RowKit

def Fine {α : Type} (B : List UInt8) (lo : Nat) : Res α → Prop
  | .ok _ q => lo ≤ q ∧ q ≤ B.length
  | .bad p c => p ≤ B.length ∧ c ≠ 0
theorem Fine.mono {α : Type} {B : List UInt8} {lo lo' : Nat} {r : Res α} (h : Fine B lo r) (hl : lo' ≤ lo) : Fine B lo' r := by
  cases r with
  | ok x q => exact ⟨Nat.le_trans hl h.1, h.2⟩
  | bad p c => exact h
theorem Fine.bind {α β : Type} {B : List UInt8} {lo lo2 : Nat} {r : Res α} {f : α → Nat → Res β} (h : Fine B lo r) (hf : ∀ x q, r = .ok x q → lo ≤ q → q ≤ B.length → Fine B lo2 (f x q)) : Fine B lo2 (r.andThen f) := by
  cases r with
  | ok x q => exact hf x q rfl h.1 h.2
  | bad p c => exact h
theorem andThen_ok {α β : Type} {r : Res α} {f : α → Nat → Res β} {y : β} {q : Nat} (h : r.andThen f = .ok y q) : ∃ x p, r = .ok x p ∧ f x p = .ok y q := by
  cases r with
  | ok x p => exact ⟨x, p, rfl, h⟩
  | bad p c => cases h
theorem pl_skip_le (B : List UInt8) (a : Nat) (h : a ≤ B.length) : a ≤ skip B a ∧ skip B a ≤ B.length := ⟨run_ge _ _ _, run_le _ _ _ h⟩
theorem pl_peek {B : List UInt8} {a c q : Nat} (h : peekM B a = .ok c q) : q = a ∧ a < B.length ∧ c = byteAt B a := by
  unfold peekM at h
  split at h
  · rename_i hl; simp only [Res.ok.injEq] at h; exact ⟨h.2.symm, hl, h.1.symm⟩
  · cases h
theorem pl_ahead {B : List UInt8} {a c q : Nat} (h : aheadM B a = .ok c q) : q = skip B a ∧ q < B.length ∧ c = byteAt B q ∧ a ≤ q := by
  have := pl_peek h
  obtain ⟨rfl, h2, h3⟩ := this
  exact ⟨rfl, h2, h3, run_ge _ _ _⟩
theorem peek_fine {B : List UInt8} {a : Nat} (h : a ≤ B.length) : Fine B a (peekM B a) := by
  unfold peekM; split
  · exact ⟨Nat.le_refl _, h⟩
  · exact ⟨h, by decide⟩
theorem ahead_fine {B : List UInt8} {a : Nat} (h : a ≤ B.length) : Fine B a (aheadM B a) :=
  (peek_fine (pl_skip_le B a h).2).mono (pl_skip_le B a h).1
theorem want_fine {B : List UInt8} {c a : Nat} (h : a ≤ B.length) : Fine B (a + 1) (wantM B c a) := by
  unfold wantM; split
  · split
    · exact ⟨Nat.le_refl _, by omega⟩
    · exact ⟨h, by decide⟩
  · exact ⟨h, by decide⟩
theorem word_fine {B : List UInt8} : ∀ {l : List UInt8} {a : Nat}, a ≤ B.length → Fine B (a + l.length) (wordM B l a)
  | [], a, h => ⟨Nat.le_refl _, h⟩
  | c :: cs, a, h => by
    unfold wordM
    refine (want_fine h).bind fun x q _ h1 h2 => (word_fine (l := cs) h2).mono ?_
    simp; omega
theorem number_fine {B : List UInt8} {a : Nat} (h : a < B.length) (hn : numeralB (byteAt B a) = true) : Fine B (a + 1) (numberM B a) := by
  unfold numberM; split
  · refine ⟨?_, run_le _ _ _ (Nat.le_of_lt h)⟩
    unfold numEnd; rw [run_yes _ _ _ h hn]; exact run_ge _ _ _
  · exact ⟨Nat.le_of_lt h, by decide⟩
theorem hex_fine {B : List UInt8} {f : Nat} (hf : f ≤ B.length) : ∀ {k l a : Nat}, a ≤ B.length → Fine B a (hexM B f k l a)
  | 0, l, a, h => ⟨Nat.le_refl _, h⟩
  | k + 1, l, a, h => by
    unfold hexM; split
    · split
      · exact ⟨hf, by decide⟩
      · exact (hex_fine hf (by omega)).mono (by omega)
    · exact ⟨h, by decide⟩
theorem escaped_two {B : List UInt8} {a : Nat} (h : escapedB B a = true) : a + 2 ≤ B.length := by
  unfold escapedB at h; simp at h; omega
theorem coded_fine {B : List UInt8} {f a : Nat} (hf : f ≤ B.length) (h : a ≤ B.length) : Fine B a (codedM B f a) := by
  unfold codedM
  refine (hex_fine hf h).bind fun l q _ h1 h2 => ?_
  split
  · exact ⟨h1, h2⟩
  split
  · exact ⟨hf, by decide⟩
  rename_i hs
  have h3 : q + 2 ≤ B.length := escaped_two (by cases he : escapedB B q <;> simp_all)
  refine (hex_fine hf h3).bind fun s p _ h4 h5 => ?_
  split
  · exact ⟨hf, by decide⟩
  · exact ⟨by omega, h5⟩
theorem escape_fine {B : List UInt8} {a : Nat} (h : a < B.length) : Fine B (a + 1) (escapeM B a) := by
  unfold escapeM
  refine (peek_fine (a := a + 1) (by omega)).bind fun c q he h1 h2 => ?_
  have h3 := (pl_peek he).2.1
  repeat' split
  all_goals first | exact ⟨by omega, by omega⟩ | exact (coded_fine (by omega) (by omega)).mono (by omega) | exact ⟨by omega, by decide⟩
theorem dec_size {B : List UInt8} {a : Nat} (h : a < B.length) : 1 ≤ (decAt B a).2 ∧ a + (decAt B a).2 ≤ B.length := by
  unfold decAt Lib.decodeN
  repeat' split
  all_goals simp only
  all_goals omega
theorem letter_fine {B : List UInt8} {a : Nat} (h : a ≤ B.length) : Fine B (a + 1) (letterM B a) := by
  unfold letterM
  refine (peek_fine h).bind fun c q he h1 h2 => ?_
  have h3 := (pl_peek he).2.1
  have h4 := dec_size h3
  repeat' split
  all_goals first | exact escape_fine h3 | exact ⟨by omega, by decide⟩ | exact ⟨by omega, by omega⟩
theorem quotedL_fine {B : List UInt8} : ∀ {k a : Nat} {s : List UInt8}, a ≤ B.length → B.length + 1 ≤ k + a → Fine B (a + 1) (quotedL B k a s)
  | 0, a, s, h, hk => by omega
  | k + 1, a, s, h, hk => by
    unfold quotedL
    refine (peek_fine h).bind fun c q he h1 h2 => ?_
    have h3 := (pl_peek he).2.1
    split
    · exact ⟨Nat.le_refl _, by omega⟩
    · exact (letter_fine h).bind fun r p _ h4 h5 => (quotedL_fine h5 (by omega)).mono (by omega)
theorem quoted_fine {B : List UInt8} {a : Nat} (h : a < B.length) : Fine B (a + 2) (quotedM B a) := quotedL_fine (by omega) (by omega)
theorem eachL_fine {σ : Type} {B : List UInt8} {close : Nat} {kid : σ → Nat → Res σ} (hkid : ∀ s a, a ≤ B.length → Fine B (a + 1) (kid s a)) : ∀ {k a : Nat} {s : σ}, a ≤ B.length → B.length + 1 ≤ k + a → Fine B (a + 1) (eachL B close kid k s a)
  | 0, a, s, h, hk => by omega
  | k + 1, a, s, h, hk => by
    unfold eachL
    refine (hkid s a h).bind fun s' q _ h1 h2 => (ahead_fine h2).bind fun c p he h3 h4 => ?_
    have h5 := (pl_ahead he).2.1
    split
    · exact ⟨by omega, by omega⟩
    · exact (want_fine h4).bind fun _ r _ h6 h7 => (eachL_fine hkid h7 (by omega)).mono (by omega)
theorem each_fine {σ : Type} {B : List UInt8} {close : Nat} {kid : σ → Nat → Res σ} (hkid : ∀ s a, a ≤ B.length → Fine B (a + 1) (kid s a)) {a : Nat} {s : σ} (h : a < B.length) : Fine B (a + 1) (eachM B close kid s a) := by
  unfold eachM
  refine (ahead_fine (a := a + 1) (by omega)).bind fun c p he h3 h4 => ?_
  have h5 := (pl_ahead he).2.1
  split
  · exact ⟨by omega, by omega⟩
  · exact (eachL_fine hkid h4 (by omega)).mono (by omega)
theorem name_fine {B : List UInt8} {ns : List (List UInt8)} {a : Nat} (h : a ≤ B.length) : Fine B (a + 1) (nameM B ns a) := by
  unfold nameM
  refine (ahead_fine h).bind fun c p he h3 h4 => ?_
  have h5 := (pl_ahead he).2.1
  split
  · refine (quoted_fine h5).bind fun s q _ h6 h7 => ?_
    split
    · exact ⟨h4, by decide⟩
    · exact ⟨by omega, h7⟩
  · exact ⟨h4, by decide⟩
def SubFine (B : List UInt8) (f : Sub) : Prop := ∀ T a, a ≤ B.length → Fine B (a + 1) (f T a)
theorem listK_fine {B : List UInt8} {f : Sub} (hf : SubFine B f) (s : List Nat × List V) (a : Nat) (h : a ≤ B.length) : Fine B (a + 1) (listK f s a) := by
  unfold listK
  exact (hf _ _ h).bind fun x q _ h1 h2 => ⟨h1, h2⟩
theorem objK_fine {B : List UInt8} {f : Sub} (hf : SubFine B f) (s : List (List UInt8) × List Nat × List V) (a : Nat) (h : a ≤ B.length) : Fine B (a + 1) (objK B f s a) := by
  unfold objK
  refine (name_fine h).bind fun n p _ h1 h2 => (want_fine (pl_skip_le B p h2).2).bind fun _ q _ h3 h4 => (hf _ _ h4).bind fun x r _ h5 h6 => ⟨?_, h6⟩
  have := (pl_skip_le B p h2).1
  omega
theorem begun_fine {B : List UInt8} {sub : Option Sub} (hs : ∀ f, sub = some f → SubFine B f) (T : List V) {a : Nat} (h : a < B.length) : Fine B (a + 1) (begunM B sub (byteAt B a) T a) := by
  have hl := Nat.le_of_lt h
  unfold begunM
  split
  · exact (word_fine hl).bind fun _ q _ h1 h2 => ⟨by simp [nullW] at h1; omega, h2⟩
  split
  · exact (word_fine hl).bind fun _ q _ h1 h2 => ⟨by simp [trueW] at h1; omega, h2⟩
  split
  · exact (word_fine hl).bind fun _ q _ h1 h2 => ⟨by simp [falseW] at h1; omega, h2⟩
  split
  · exact (quoted_fine h).bind fun s q _ h1 h2 => ⟨by omega, h2⟩
  split
  · rename_i hd
    have hnum : numeralB (byteAt B a) = true := by
      unfold numeralB
      rcases hd with h1 | h1
      · rw [h1]; rfl
      · rw [h1]; rfl
    exact (number_fine h hnum).bind fun s q _ h1 h2 => ⟨h1, h2⟩
  split
  · cases sub with
    | none => exact ⟨hl, by decide⟩
    | some f => exact (each_fine (listK_fine (hs f rfl)) h).bind fun s q _ h1 h2 => ⟨h1, h2⟩
  split
  · cases sub with
    | none => exact ⟨hl, by decide⟩
    | some f => exact (each_fine (objK_fine (hs f rfl)) h).bind fun s q _ h1 h2 => ⟨h1, h2⟩
  · exact ⟨hl, by decide⟩
theorem valueS_fine {B : List UInt8} {sub : Option Sub} (hs : ∀ f, sub = some f → SubFine B f) : SubFine B (valueS B sub) := by
  intro T a h
  unfold valueS
  refine (ahead_fine h).bind fun c p he h3 h4 => ?_
  obtain ⟨_, h5, rfl, _⟩ := pl_ahead he
  refine (begun_fine hs T h5).bind fun x q _ h6 h7 => ?_
  split
  · exact ⟨h4, by decide⟩
  · exact ⟨by omega, h7⟩
theorem value_fine {B : List UInt8} : ∀ d, SubFine B (valueM B d)
  | 0 => valueS_fine (fun f h => by cases h)
  | d + 1 => valueS_fine (fun f h => by cases h; exact value_fine d)
theorem read_fine (B : List UInt8) : Fine B 0 (readM B) := by
  unfold readM
  refine (value_fine 16 [] 0 (Nat.zero_le _)).bind fun x q _ h1 h2 => ?_
  have := pl_skip_le B q h2
  split
  · exact ⟨this.2, by decide⟩
  · exact ⟨Nat.le_refl _, Nat.zero_le _⟩

/-! More fuel changes nothing. -/
theorem andThen_congr {α β : Type} {r : Res α} {f g : α → Nat → Res β} (h : ∀ x q, r = .ok x q → f x q = g x q) : r.andThen f = r.andThen g := by
  cases r with
  | ok x q => exact h x q rfl
  | bad p c => rfl
theorem quotedL_fuel {B : List UInt8} (m : Nat) : ∀ {k a : Nat} {s : List UInt8}, a ≤ B.length → B.length + 1 ≤ k + a → quotedL B (k + m) a s = quotedL B k a s
  | 0, a, s, h, hk => by omega
  | k + 1, a, s, h, hk => by
    rw [show k + 1 + m = (k + m) + 1 by omega]
    unfold quotedL
    refine andThen_congr fun c q _ => ?_
    split
    · rfl
    · refine andThen_congr fun r p he => ?_
      have h1 := letter_fine h
      rw [he] at h1
      exact quotedL_fuel m h1.2 (by have := h1.1; omega)
theorem eachL_fuel {σ : Type} {B : List UInt8} {close : Nat} {kid : σ → Nat → Res σ} (hkid : ∀ s a, a ≤ B.length → Fine B (a + 1) (kid s a)) (m : Nat) : ∀ {k a : Nat} {s : σ}, a ≤ B.length → B.length + 1 ≤ k + a → eachL B close kid (k + m) s a = eachL B close kid k s a
  | 0, a, s, h, hk => by omega
  | k + 1, a, s, h, hk => by
    rw [show k + 1 + m = (k + m) + 1 by omega]
    unfold eachL
    refine andThen_congr fun s' q he => ?_
    have h1 := hkid s a h
    rw [he] at h1
    refine andThen_congr fun c p hp => ?_
    have h2 := pl_ahead hp
    split
    · rfl
    · refine andThen_congr fun _ r hr => ?_
      have h3 : Fine B (p + 1) (wantM B 44 p) := want_fine (Nat.le_of_lt h2.2.1)
      rw [hr] at h3
      exact eachL_fuel hkid m h3.2 (by have := h3.1; have := h1.1; omega)
end Go.Proofs.YtkpfiopgnobcdaaDoor
