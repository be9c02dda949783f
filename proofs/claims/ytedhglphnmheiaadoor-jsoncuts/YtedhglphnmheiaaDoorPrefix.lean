/-
  What the plain reader reads in a beginning of a text it reads in the whole; no program in it.
-/
import Derived.Test.YtedhglphnmheiaaDoorPlaces
namespace Go.Proofs.YtedhglphnmheiaaDoor
open Go.RowKit

theorem decodeN_more {n m b0 b1 b2 b3 c1 c2 c3 : Nat} (hnm : n ≤ m) (h1 : 1 < n → b1 = c1) (h2 : 2 < n → b2 = c2) (h3 : 3 < n → b3 = c3) (h : ¬ ((Lib.decodeN n b0 b1 b2 b3).1 = 65533 ∧ (Lib.decodeN n b0 b1 b2 b3).2 = 1)) :
    Lib.decodeN m b0 c1 c2 c3 = Lib.decodeN n b0 b1 b2 b3 := by
  unfold Lib.decodeN at h ⊢
  by_cases g0 : b0 < 128
  · simp only [if_pos g0]
  simp only [if_neg g0] at h ⊢
  by_cases g1 : b0 / 32 = 6 ∧ (1 < n ∧ b1 / 64 = 2)
  · have := h1 g1.2.1
    subst this
    rw [if_pos g1, if_pos ⟨g1.1, by omega, g1.2.2⟩]
  rw [if_neg g1] at h ⊢
  by_cases g2 : b0 / 16 = 14 ∧ (1 < n ∧ b1 / 64 = 2) ∧ (2 < n ∧ b2 / 64 = 2)
  · have e1 := h1 g2.2.1.1
    have e2 := h2 g2.2.2.1
    subst e1 e2
    rw [if_pos g2, if_neg (fun e => by have := e.1; have := g2.1; omega), if_pos ⟨g2.1, ⟨by omega, g2.2.1.2⟩, by omega, g2.2.2.2⟩]
  rw [if_neg g2] at h ⊢
  by_cases g3 : b0 / 8 = 30 ∧ (1 < n ∧ b1 / 64 = 2) ∧ (2 < n ∧ b2 / 64 = 2) ∧ (3 < n ∧ b3 / 64 = 2)
  · have e1 := h1 g3.2.1.1
    have e2 := h2 g3.2.2.1.1
    have e3 := h3 g3.2.2.2.1
    subst e1 e2 e3
    rw [if_pos g3, if_neg (fun e => by have := e.1; have := g3.1; omega), if_neg (fun e => by have := e.1; have := g3.1; omega), if_pos ⟨g3.1, ⟨by omega, g3.2.1.2⟩, ⟨by omega, g3.2.2.1.2⟩, by omega, g3.2.2.2.2⟩]
  · rw [if_neg g3] at h
    exact absurd ⟨rfl, rfl⟩ h
section
variable {B C : List UInt8} {n : Nat} (hn : n ≤ B.length) (hC : C = B.take n)
include hn hC
theorem pre_len : C.length = n := by rw [hC, List.length_take]; omega
theorem pre_byte {a : Nat} (h : a < C.length) : byteAt C a = byteAt B a := by
  have hl := pre_len hn hC
  unfold byteAt
  rw [List.getD_eq_getElem?_getD, List.getD_eq_getElem?_getD, hC, List.getElem?_take_of_lt (by omega)]
theorem pre_run (p : Nat → Bool) : ∀ (k a : Nat), a + k = C.length → run p C a < C.length → run p B a = run p C a
  | 0, a, h, hr => by have := run_ge p C a; omega
  | k + 1, a, h, hr => by
    have hl := pre_len hn hC
    have hb := pre_byte hn hC (a := a) (by omega)
    by_cases hp : p (byteAt C a) = true
    · rw [run_yes p C a (by omega) hp] at hr ⊢
      rw [run_yes p B a (by omega) (hb ▸ hp)]
      exact pre_run p k (a + 1) (by omega) hr
    · have hp' : p (byteAt C a) = false := by simpa using hp
      rw [run_no p C a (fun _ => hp'), run_no p B a (fun _ => hb ▸ hp')]
theorem pre_peek {a c q : Nat} (h : peekM C a = .ok c q) : peekM B a = .ok c q := by
  have hl := pre_len hn hC
  obtain ⟨rfl, h2, rfl⟩ := pl_peek h
  unfold peekM
  rw [if_pos (by omega), pre_byte hn hC h2]
theorem pre_ahead {a c q : Nat} (h : aheadM C a = .ok c q) : aheadM B a = .ok c q := by
  have h2 := pl_ahead h
  have hle : a ≤ C.length := by omega
  have : skip B a = skip C a := pre_run hn hC blankB (C.length - a) a (by omega) (by have := h2.1; have := h2.2.1; unfold skip at *; omega)
  unfold aheadM at h ⊢
  rw [this]; exact pre_peek hn hC h
theorem pre_want {c a q : Nat} {x : Unit} (h : wantM C c a = .ok x q) : wantM B c a = .ok x q := by
  have hl := pre_len hn hC
  unfold wantM at h ⊢
  split at h
  · rename_i ha
    rw [if_pos (by omega), ← pre_byte hn hC ha]; exact h
  · cases h
theorem pre_word : ∀ {l : List UInt8} {a q : Nat} {x : Unit}, wordM C l a = .ok x q → wordM B l a = .ok x q
  | [], a, q, x, h => h
  | c :: cs, a, q, x, h => by
    unfold wordM at h ⊢
    obtain ⟨y, p, h1, h2⟩ := andThen_ok h
    rw [pre_want hn hC h1]; exact pre_word h2
theorem pre_number {a q : Nat} {x : Int} (ha : a ≤ C.length) (h : numberM C a = .ok x q) (hq : q < C.length) : numberM B a = .ok x q := by
  have hl := pre_len hn hC
  unfold numberM at h ⊢
  split at h
  · rename_i hp
    simp only [Res.ok.injEq] at h
    obtain ⟨rfl, rfl⟩ := h
    have e1 : numEnd B a = numEnd C a := pre_run hn hC numeralB (C.length - a) a (by omega) hq
    have e2 : numTxt B a = numTxt C a := by
      unfold numTxt
      rw [e1, hC, List.drop_take, List.take_take]
      congr 1
      rw [hC] at hq; rw [hC] at hl; rw [hl] at hq; omega
    rw [e1, e2, if_pos hp]
  · cases h
theorem pre_hex {f : Nat} : ∀ {k l a x q : Nat}, hexM C f k l a = .ok x q → hexM B f k l a = .ok x q
  | 0, l, a, x, q, h => h
  | k + 1, l, a, x, q, h => by
    have hl := pre_len hn hC
    unfold hexM at h ⊢
    split at h
    · rename_i ha
      rw [if_pos (by omega), ← pre_byte hn hC ha]
      split at h
      · cases h
      · rename_i hs
        rw [if_neg hs]; exact pre_hex h
    · cases h
theorem pre_coded {f a x q : Nat} (h : codedM C f a = .ok x q) : codedM B f a = .ok x q := by
  have hl := pre_len hn hC
  unfold codedM at h ⊢
  obtain ⟨l, p, h1, h2⟩ := andThen_ok h
  rw [pre_hex hn hC h1]
  simp only [Res.andThen]
  split at h2
  · rename_i hc; rw [if_pos hc]; exact h2
  rename_i hc
  rw [if_neg hc]
  split at h2
  · cases h2
  rename_i he
  have he2 : escapedB C p = true := by cases h3 : escapedB C p <;> simp_all
  have hp := escaped_two he2
  have he3 : escapedB B p = true := by
    unfold escapedB at he2 ⊢
    rw [pre_byte hn hC (by omega), pre_byte hn hC (by omega)] at he2
    simp only [Bool.and_eq_true, decide_eq_true_eq] at he2 ⊢
    exact ⟨⟨by omega, he2.1.2⟩, he2.2⟩
  rw [if_neg (by rw [he3]; simp at he ⊢; exact he.1)]
  obtain ⟨s, r, h4, h5⟩ := andThen_ok h2
  have h6 := pre_hex hn hC h4
  rw [h6]
  exact h5
theorem pre_escape {a x q : Nat} (h : escapeM C a = .ok x q) : escapeM B a = .ok x q := by
  unfold escapeM at h ⊢
  obtain ⟨c, p, h1, h2⟩ := andThen_ok h
  rw [pre_peek hn hC h1]
  simp only [Res.andThen]
  split at h2
  · rename_i g; rw [if_pos g]; exact h2
  rename_i g; rw [if_neg g]; clear g
  split at h2
  · rename_i g; rw [if_pos g]; exact h2
  rename_i g; rw [if_neg g]; clear g
  split at h2
  · rename_i g; rw [if_pos g]; exact h2
  rename_i g; rw [if_neg g]; clear g
  split at h2
  · rename_i g; rw [if_pos g]; exact h2
  rename_i g; rw [if_neg g]; clear g
  split at h2
  · rename_i g; rw [if_pos g]; exact h2
  rename_i g; rw [if_neg g]; clear g
  split at h2
  · rename_i g; rw [if_pos g]; exact h2
  rename_i g; rw [if_neg g]; clear g
  split at h2
  · rename_i g; rw [if_pos g]; exact pre_coded hn hC h2
  · cases h2
theorem pre_dec {a : Nat} (ha : a < C.length) (h : ¬ ((decAt C a).1 = 65533 ∧ (decAt C a).2 = 1)) : decAt B a = decAt C a := by
  have hl := pre_len hn hC
  unfold decAt at h ⊢
  rw [← pre_byte hn hC ha]
  exact decodeN_more (by omega) (fun g => pre_byte hn hC (by omega)) (fun g => pre_byte hn hC (by omega)) (fun g => pre_byte hn hC (by omega)) h
theorem pre_letter {a x q : Nat} (h : letterM C a = .ok x q) : letterM B a = .ok x q := by
  unfold letterM at h ⊢
  obtain ⟨c, p, h1, h2⟩ := andThen_ok h
  have ha := (pl_peek h1).2.1
  rw [pre_peek hn hC h1]
  simp only [Res.andThen]
  split at h2
  · cases h2
  rename_i g; rw [if_neg g]; clear g
  split at h2
  · rename_i g; rw [if_pos g]; exact pre_escape hn hC h2
  rename_i g; rw [if_neg g]; clear g
  split at h2
  · cases h2
  rename_i g
  rw [pre_dec hn hC ha g, if_neg g]; exact h2
theorem pre_quotedL : ∀ {k m a q : Nat} {s x : List UInt8}, quotedL C k a s = .ok x q → k ≤ m → quotedL B m a s = .ok x q
  | 0, m, a, q, s, x, h, hk => by cases h
  | k + 1, 0, a, q, s, x, h, hk => by omega
  | k + 1, m + 1, a, q, s, x, h, hk => by
    unfold quotedL at h ⊢
    obtain ⟨c, p, h1, h2⟩ := andThen_ok h
    rw [pre_peek hn hC h1]
    simp only [Res.andThen]
    split at h2
    · rename_i g; rw [if_pos g]; exact h2
    · rename_i g; rw [if_neg g]
      obtain ⟨r, p2, h3, h4⟩ := andThen_ok h2
      have h5 := pre_letter hn hC h3
      rw [h5]
      exact pre_quotedL h4 (by omega)
theorem pre_quoted {a q : Nat} {x : List UInt8} (h : quotedM C a = .ok x q) : quotedM B a = .ok x q := by
  have hl := pre_len hn hC
  exact pre_quotedL hn hC h (by omega)
def KidPre {σ : Type} (C : List UInt8) (kid kid' : σ → Nat → Res σ) : Prop := ∀ s a s' q, a ≤ C.length → kid s a = .ok s' q → q < C.length → kid' s a = .ok s' q
theorem pre_eachL {σ : Type} {close : Nat} {kid kid' : σ → Nat → Res σ} (hk : KidPre C kid kid') : ∀ {k m a q : Nat} {s s' : σ}, a ≤ C.length → eachL C close kid k s a = .ok s' q → k ≤ m → eachL B close kid' m s a = .ok s' q
  | 0, m, a, q, s, s', ha, h, hkm => by cases h
  | k + 1, 0, a, q, s, s', ha, h, hkm => by omega
  | k + 1, m + 1, a, q, s, s', ha, h, hkm => by
    unfold eachL at h ⊢
    obtain ⟨s1, a1, h1, h2⟩ := andThen_ok h
    obtain ⟨c, p, h3, h4⟩ := andThen_ok h2
    have h5 := pl_ahead h3
    rw [hk _ _ _ _ ha h1 (by omega)]
    simp only [Res.andThen]
    rw [pre_ahead hn hC h3]
    simp only
    split at h4
    · rename_i g; rw [if_pos g]; exact h4
    · rename_i g; rw [if_neg g]
      obtain ⟨y, r, h6, h7⟩ := andThen_ok h4
      have h8 : Fine C (p + 1) (wantM C 44 p) := want_fine (by omega)
      rw [h6] at h8
      rw [pre_want hn hC h6]
      exact pre_eachL hk h8.2 h7 (by omega)
theorem pre_each {σ : Type} {close : Nat} {kid kid' : σ → Nat → Res σ} (hk : KidPre C kid kid') {a q : Nat} {s s' : σ} (h : eachM C close kid s a = .ok s' q) : eachM B close kid' s a = .ok s' q := by
  have hl := pre_len hn hC
  unfold eachM at h ⊢
  obtain ⟨c, p, h3, h4⟩ := andThen_ok h
  have h5 := pl_ahead h3
  rw [pre_ahead hn hC h3]
  simp only [Res.andThen]
  split at h4
  · rename_i g; rw [if_pos g]; exact h4
  · rename_i g; rw [if_neg g]; exact pre_eachL hn hC hk (by omega) h4 (by omega)
theorem pre_name {ns : List (List UInt8)} {a q : Nat} {x : List UInt8} (h : nameM C ns a = .ok x q) : nameM B ns a = .ok x q := by
  unfold nameM at h ⊢
  obtain ⟨c, p, h3, h4⟩ := andThen_ok h
  rw [pre_ahead hn hC h3]
  simp only [Res.andThen]
  split at h4
  · rename_i g; rw [if_pos g]
    obtain ⟨y, r, h6, h7⟩ := andThen_ok h4
    rw [pre_quoted hn hC h6]
    exact h7
  · cases h4
def SubPre (C : List UInt8) (f f' : Sub) : Prop := ∀ T a x q, a ≤ C.length → f T a = .ok x q → q < C.length → f' T a = .ok x q
omit hn hC in
theorem pre_listK {f f' : Sub} (hs : SubPre C f f') : KidPre C (listK f) (listK f') := by
  intro s a s' q ha h hq
  unfold listK at h ⊢
  obtain ⟨x, p, h1, h2⟩ := andThen_ok h
  simp only [Res.ok.injEq] at h2
  rw [hs _ _ _ _ ha h1 (by omega)]
  simp only [Res.andThen, h2]
theorem pre_objK {f f' : Sub} (hs : SubPre C f f') : KidPre C (objK C f) (objK B f') := by
  have hl := pre_len hn hC
  intro s a s' q ha h hq
  unfold objK at h ⊢
  obtain ⟨x, p, h1, h2⟩ := andThen_ok h
  obtain ⟨y, r, h3, h4⟩ := andThen_ok h2
  obtain ⟨z, t, h5, h6⟩ := andThen_ok h4
  simp only [Res.ok.injEq] at h6
  have f1 : Fine C (a + 1) (nameM C s.1 a) := name_fine ha
  rw [h1] at f1
  have f2 : Fine C (skip C p + 1) (wantM C 58 (skip C p)) := want_fine (pl_skip_le C p f1.2).2
  rw [h3] at f2
  have hsk : skip B p = skip C p := pre_run hn hC blankB (C.length - p) p (by have := f1.2; omega) (by have := f2.1; have := f2.2; unfold skip at *; omega)
  rw [pre_name hn hC h1]
  simp only [Res.andThen]
  rw [hsk, pre_want hn hC h3]
  simp only
  rw [hs _ _ _ _ f2.2 h5 (by omega)]
  simp only [h6]
def Opens (c : Nat) : Prop := c = 91 ∨ c = 123
theorem pre_begun {sub sub' : Option Sub} (hs : ∀ f, sub = some f → ∃ f', sub' = some f' ∧ SubPre C f f') {c : Nat} {T : List V} {a q : Nat} {x : V × List V} (ha : a ≤ C.length) (h : begunM C sub c T a = .ok x q) (hq : q < C.length ∨ Opens c) : begunM B sub' c T a = .ok x q := by
  unfold begunM at h ⊢
  split at h
  · rename_i g; rw [if_pos g]
    obtain ⟨y, p, h1, h2⟩ := andThen_ok h
    rw [pre_word hn hC h1]; exact h2
  rename_i g; rw [if_neg g]; clear g
  split at h
  · rename_i g; rw [if_pos g]
    obtain ⟨y, p, h1, h2⟩ := andThen_ok h
    rw [pre_word hn hC h1]; exact h2
  rename_i g; rw [if_neg g]; clear g
  split at h
  · rename_i g; rw [if_pos g]
    obtain ⟨y, p, h1, h2⟩ := andThen_ok h
    rw [pre_word hn hC h1]; exact h2
  rename_i g; rw [if_neg g]; clear g
  split at h
  · rename_i g; rw [if_pos g]
    obtain ⟨y, p, h1, h2⟩ := andThen_ok h
    rw [pre_quoted hn hC h1]; exact h2
  rename_i g; rw [if_neg g]; clear g
  split at h
  · rename_i g; rw [if_pos g]
    have hq' : q < C.length := by
      rcases hq with h1 | rfl | rfl
      · exact h1
      · exact absurd g (by decide)
      · exact absurd g (by decide)
    obtain ⟨y, p, h1, h2⟩ := andThen_ok h
    simp only [Res.ok.injEq] at h2
    obtain ⟨rfl, rfl⟩ := h2
    rw [pre_number hn hC ha h1 hq']; rfl
  rename_i g; rw [if_neg g]; clear g
  split at h
  · rename_i g; rw [if_pos g]
    cases sub with
    | none => cases h
    | some f =>
      obtain ⟨f', rfl, hf⟩ := hs f rfl
      unfold listM at h ⊢
      obtain ⟨y, p, h1, h2⟩ := andThen_ok h
      simp only
      rw [pre_each hn hC (pre_listK hf) h1]; exact h2
  rename_i g; rw [if_neg g]; clear g
  split at h
  · rename_i g; rw [if_pos g]
    cases sub with
    | none => cases h
    | some f =>
      obtain ⟨f', rfl, hf⟩ := hs f rfl
      unfold objectM at h ⊢
      obtain ⟨y, p, h1, h2⟩ := andThen_ok h
      simp only
      rw [pre_each hn hC (pre_objK hn hC hf) h1]; exact h2
  · cases h
theorem pre_valueS {sub sub' : Option Sub} (hs : ∀ f, sub = some f → ∃ f', sub' = some f' ∧ SubPre C f f') {T : List V} {a q : Nat} {x : Nat × List V} (h : valueS C sub T a = .ok x q) (hq : q < C.length ∨ Opens (byteAt C (skip C a))) : valueS B sub' T a = .ok x q := by
  unfold valueS at h ⊢
  obtain ⟨c, p, h1, h2⟩ := andThen_ok h
  obtain ⟨y, r, h3, h4⟩ := andThen_ok h2
  have h5 := pl_ahead h1
  rw [pre_ahead hn hC h1]
  simp only [Res.andThen]
  split at h4
  · cases h4
  · rename_i g
    simp only [Res.ok.injEq] at h4
    obtain ⟨rfl, rfl⟩ := h4
    rw [pre_begun hn hC hs (by omega) h3 (hq.imp id (fun e => by rw [h5.2.2.1, h5.1]; exact e))]
    simp only [if_neg g]
theorem pre_value : ∀ d, SubPre C (valueM C d) (valueM B d)
  | 0 => fun T a x q ha h hq => pre_valueS hn hC (sub := none) (sub' := none) (fun f e => by cases e) h (.inl hq)
  | d + 1 => fun T a x q ha h hq => pre_valueS hn hC (sub := some (valueM C d)) (sub' := some (valueM B d)) (fun f e => by cases e; exact ⟨_, rfl, pre_value d⟩) h (.inl hq)
/-- A beginning of a list or object that is read, up to its last bracket, is not read. -/
theorem cut_bad {T : List V} {z last : Nat} (hr : readM B = .ok T z) (ho : Opens (byteAt B 0)) (hl : last < B.length) (hb : blankB (byteAt B last) = false) (hnl : n ≤ last) : ∃ p c, readM C = .bad p c ∧ p ≤ n ∧ c ≠ 0 := by
  have hl2 := pre_len hn hC
  have hf := read_fine C
  cases hM : readM C with
  | bad p c => rw [hM] at hf; exact ⟨p, c, rfl, by have := hf.1; omega, hf.2⟩
  | ok T' z' =>
    exfalso
    unfold readM at hM hr
    obtain ⟨x, q, h1, h2⟩ := andThen_ok hM
    have hq := value_fine 16 [] 0 (Nat.zero_le C.length)
    rw [h1] at hq
    have h0 : 0 < C.length := by have := hq.1; have := hq.2; omega
    have e0 : byteAt C 0 = byteAt B 0 := pre_byte hn hC h0
    have hs0 : skip C 0 = 0 := run_no _ _ _ (fun _ => by rw [e0]; rcases ho with e | e <;> rw [e] <;> rfl)
    have h3 : valueM B 16 [] 0 = .ok x q := pre_valueS hn hC (sub := some (valueM C 15)) (sub' := some (valueM B 15)) (fun f e => by cases e; exact ⟨_, rfl, pre_value hn hC 15⟩) h1 (.inr (by rw [hs0, e0]; exact ho))
    rw [h3] at hr
    simp only [Res.andThen] at hr
    split at hr
    · cases hr
    · rename_i hsk
      have key : ∀ (k i : Nat), i + k = last → skip B i ≤ last := fun k => by
        induction k with
        | zero => intro i hi; subst hi; rw [skip, run_no _ _ _ (fun _ => by simpa using hb)]; omega
        | succ k ih =>
          intro i hi
          by_cases hbi : blankB (byteAt B i) = true
          · rw [skip, run_yes _ _ _ (by omega) hbi]; exact ih (i + 1) (by omega)
          · rw [skip, run_no _ _ _ (fun _ => by simpa using hbi)]; omega
      have := key (last - q) q (by have := hq.2; omega)
      omega
end
end Go.Proofs.YtedhglphnmheiaaDoor
