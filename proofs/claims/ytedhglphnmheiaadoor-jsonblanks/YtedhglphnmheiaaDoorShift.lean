/-
  Bytes ahead of a text move the places of the plain reader, and blanks ahead move nothing else; no program in it.
-/
import Derived.Test.YtedhglphnmheiaaDoorPlaces
namespace Go.Proofs.YtedhglphnmheiaaDoor
open Go.RowKit

def Res.sh {α : Type} (n : Nat) : Res α → Res α
  | .ok x q => .ok x (q + n)
  | .bad p c => .bad (p + n) c
theorem sh_bind {α β : Type} {n : Nat} {r r' : Res α} {f g : α → Nat → Res β} (hr : r' = r.sh n) (h : ∀ x q, r = .ok x q → g x (q + n) = (f x q).sh n) : r'.andThen g = (r.andThen f).sh n := by
  subst hr
  cases r with
  | ok x q => exact h x q rfl
  | bad p c => rfl
section
variable {W B : List UInt8} {n : Nat} (hW : W.length = n)
include hW
theorem sh_len : (W ++ B).length = B.length + n := by simp [hW]; omega
theorem sh_byte (a : Nat) : byteAt (W ++ B) (a + n) = byteAt B a := by
  unfold byteAt
  rw [List.getD_eq_getElem?_getD, List.getD_eq_getElem?_getD, List.getElem?_append_right (by omega), hW, Nat.add_sub_cancel]
theorem sh_drop (a : Nat) : (W ++ B).drop (a + n) = B.drop a := by
  rw [← hW, Nat.add_comm, ← List.drop_drop, List.drop_left]
theorem sh_run (p : Nat → Bool) (a : Nat) : run p (W ++ B) (a + n) = run p B a + n := by
  unfold run; rw [sh_drop hW]; omega
theorem sh_skip (a : Nat) : skip (W ++ B) (a + n) = skip B a + n := sh_run hW _ _
theorem sh_peek (a : Nat) : peekM (W ++ B) (a + n) = (peekM B a).sh n := by
  unfold peekM; rw [sh_len hW, sh_byte hW]
  by_cases h : a < B.length
  · rw [if_pos h, if_pos (by omega)]; rfl
  · rw [if_neg h, if_neg (by omega)]; rfl
theorem sh_ahead (a : Nat) : aheadM (W ++ B) (a + n) = (aheadM B a).sh n := by
  unfold aheadM; rw [sh_skip hW, sh_peek hW]
theorem sh_want (c a : Nat) : wantM (W ++ B) c (a + n) = (wantM B c a).sh n := by
  unfold wantM; rw [sh_len hW, sh_byte hW]
  by_cases h : a < B.length
  · rw [if_pos h, if_pos (by omega)]
    split
    · simp only [Res.sh]; congr 1; omega
    · rfl
  · rw [if_neg h, if_neg (by omega)]; rfl
theorem sh_word : ∀ (l : List UInt8) (a : Nat), wordM (W ++ B) l (a + n) = (wordM B l a).sh n
  | [], a => rfl
  | c :: cs, a => by
    unfold wordM
    exact sh_bind (sh_want hW _ _) fun _ q _ => sh_word cs q
theorem sh_number (a : Nat) : numberM (W ++ B) (a + n) = (numberM B a).sh n := by
  have e1 : numEnd (W ++ B) (a + n) = numEnd B a + n := sh_run hW _ _
  have e2 : numTxt (W ++ B) (a + n) = numTxt B a := by unfold numTxt; rw [e1, sh_drop hW]; congr 1; omega
  unfold numberM; rw [e1, e2]
  split <;> rfl
theorem sh_hex (f : Nat) : ∀ (k l a : Nat), hexM (W ++ B) (f + n) k l (a + n) = (hexM B f k l a).sh n
  | 0, l, a => rfl
  | k + 1, l, a => by
    unfold hexM; rw [sh_len hW, sh_byte hW]
    by_cases h : a < B.length
    · rw [if_pos h, if_pos (by omega)]
      split
      · rfl
      · rw [show a + n + 1 = a + 1 + n by omega]; exact sh_hex f k _ _
    · rw [if_neg h, if_neg (by omega)]; rfl
theorem sh_escaped (a : Nat) : escapedB (W ++ B) (a + n) = escapedB B a := by
  unfold escapedB
  rw [sh_len hW, sh_byte hW, show a + n + 1 = a + 1 + n by omega, sh_byte hW]
  congr 2
  apply decide_eq_decide.2; omega
theorem sh_coded (f a : Nat) : codedM (W ++ B) (f + n) (a + n) = (codedM B f a).sh n := by
  unfold codedM
  refine sh_bind (sh_hex hW _ _ _ _) fun l q _ => ?_
  rw [sh_escaped hW]
  split
  · rfl
  split
  · rfl
  rw [show q + n + 2 = q + 2 + n by omega]
  refine sh_bind (sh_hex hW _ _ _ _) fun s p _ => ?_
  split <;> rfl
theorem sh_escape (a : Nat) : escapeM (W ++ B) (a + n) = (escapeM B a).sh n := by
  unfold escapeM
  rw [show a + n + 1 = a + 1 + n by omega]
  refine sh_bind (sh_peek hW _) fun c q _ => ?_
  rw [show a + n + 2 = a + 2 + n by omega, sh_coded hW]
  repeat' split
  all_goals rfl
theorem sh_dec (a : Nat) : decAt (W ++ B) (a + n) = decAt B a := by
  unfold decAt
  rw [sh_len hW, sh_byte hW, show a + n + 1 = a + 1 + n by omega, show a + n + 2 = a + 2 + n by omega, show a + n + 3 = a + 3 + n by omega, sh_byte hW, sh_byte hW, sh_byte hW, show B.length + n - (a + n) = B.length - a by omega]
theorem sh_letter (a : Nat) : letterM (W ++ B) (a + n) = (letterM B a).sh n := by
  unfold letterM
  refine sh_bind (sh_peek hW _) fun c q _ => ?_
  rw [sh_escape hW, sh_dec hW]
  split
  · rfl
  split
  · rfl
  split
  · rfl
  · simp only [Res.sh]; congr 1; omega
theorem sh_quotedL : ∀ (k a : Nat) (s : List UInt8), quotedL (W ++ B) k (a + n) s = (quotedL B k a s).sh n
  | 0, a, s => rfl
  | k + 1, a, s => by
    unfold quotedL
    refine sh_bind (sh_peek hW _) fun c q _ => ?_
    split
    · simp only [Res.sh]; congr 1; omega
    · exact sh_bind (sh_letter hW _) fun r p _ => sh_quotedL k p _
theorem sh_quoted (a : Nat) (h : a < B.length) : quotedM (W ++ B) (a + n) = (quotedM B a).sh n := by
  unfold quotedM
  rw [sh_len hW, show a + n + 1 = a + 1 + n by omega, sh_quotedL hW, show B.length + n + 1 = B.length + 1 + n by omega, quotedL_fuel n (by omega) (by omega)]
theorem sh_eachL {σ : Type} {close : Nat} {kid kid' : σ → Nat → Res σ} (hf : ∀ s a, a ≤ B.length → Fine B (a + 1) (kid s a)) (hk : ∀ s a, a ≤ B.length → kid' s (a + n) = (kid s a).sh n) :
    ∀ (k a : Nat) (s : σ), a ≤ B.length → eachL (W ++ B) close kid' k s (a + n) = (eachL B close kid k s a).sh n
  | 0, _, _, _ => rfl
  | k + 1, a, s, h => by
    unfold eachL
    refine sh_bind (hk _ _ h) fun s' q he => sh_bind (sh_ahead hW _) fun c p hp => ?_
    have h2 := pl_ahead hp
    split
    · simp only [Res.sh]; congr 1; omega
    · refine sh_bind (sh_want hW _ _) fun _ r hr => sh_eachL hf hk k r _ ?_
      have h3 : Fine B (p + 1) (wantM B 44 p) := want_fine (Nat.le_of_lt h2.2.1)
      rw [hr] at h3; exact h3.2
theorem sh_each {σ : Type} {close : Nat} {kid kid' : σ → Nat → Res σ} (hf : ∀ s a, a ≤ B.length → Fine B (a + 1) (kid s a)) (hk : ∀ s a, a ≤ B.length → kid' s (a + n) = (kid s a).sh n) (s : σ) (a : Nat) :
    eachM (W ++ B) close kid' s (a + n) = (eachM B close kid s a).sh n := by
  unfold eachM
  rw [show a + n + 1 = a + 1 + n by omega]
  refine sh_bind (sh_ahead hW _) fun c p hp => ?_
  have h2 := pl_ahead hp
  split
  · simp only [Res.sh]; congr 1; omega
  · rw [sh_len hW, sh_eachL hW hf hk _ _ _ (Nat.le_of_lt h2.2.1), show B.length + n + 1 = B.length + 1 + n by omega, eachL_fuel hf n (Nat.le_of_lt h2.2.1) (by omega)]
theorem sh_name (ns : List (List UInt8)) (a : Nat) : nameM (W ++ B) ns (a + n) = (nameM B ns a).sh n := by
  unfold nameM
  refine sh_bind (sh_ahead hW _) fun c p hp => ?_
  have h2 := pl_ahead hp
  split
  · refine sh_bind (sh_quoted hW _ h2.2.1) fun s q _ => ?_
    split <;> rfl
  · rfl
def SubSh (B : List UInt8) (n : Nat) (f f' : Sub) : Prop := ∀ T a, a ≤ B.length → f' T (a + n) = (f T a).sh n
omit hW in
theorem sh_listK {f f' : Sub} (hs : SubSh B n f f') (s : List Nat × List V) (a : Nat) (h : a ≤ B.length) : listK f' s (a + n) = (listK f s a).sh n := by
  unfold listK
  exact sh_bind (hs _ _ h) fun x q _ => rfl
theorem sh_objK {f f' : Sub} (hs : SubSh B n f f') (s : List (List UInt8) × List Nat × List V) (a : Nat) (h : a ≤ B.length) : objK (W ++ B) f' s (a + n) = (objK B f s a).sh n := by
  unfold objK
  refine sh_bind (sh_name hW _ _) fun m p hp => ?_
  have h1 : Fine B (a + 1) (nameM B s.1 a) := name_fine h
  rw [hp] at h1
  rw [sh_skip hW]
  refine sh_bind (sh_want hW _ _) fun _ q hq => ?_
  have h2 : Fine B (skip B p + 1) (wantM B 58 (skip B p)) := want_fine (pl_skip_le B p h1.2).2
  rw [hq] at h2
  exact sh_bind (hs _ _ h2.2) fun x q _ => rfl
theorem sh_begun {sub sub' : Option Sub} (hn : sub = none ↔ sub' = none) (hf : ∀ f, sub = some f → SubFine B f) (hs : ∀ f f', sub = some f → sub' = some f' → SubSh B n f f') (c : Nat) (T : List V) (a : Nat) (h : a < B.length) : begunM (W ++ B) sub' c T (a + n) = (begunM B sub c T a).sh n := by
  unfold begunM
  split
  · exact sh_bind (sh_word hW _ _) fun x q _ => rfl
  split
  · exact sh_bind (sh_word hW _ _) fun x q _ => rfl
  split
  · exact sh_bind (sh_word hW _ _) fun x q _ => rfl
  split
  · exact sh_bind (sh_quoted hW _ h) fun x q _ => rfl
  split
  · exact sh_bind (sh_number hW _) fun x q _ => rfl
  split
  · cases sub with
    | none => rw [hn.1 rfl]; rfl
    | some f =>
      cases sub' with
      | none => cases hn.2 rfl
      | some f' =>
        unfold listM
        exact sh_bind (sh_each hW (listK_fine (hf f rfl)) (sh_listK (hs f f' rfl rfl)) _ _) fun x q _ => rfl
  split
  · cases sub with
    | none => rw [hn.1 rfl]; rfl
    | some f =>
      cases sub' with
      | none => cases hn.2 rfl
      | some f' =>
        unfold objectM
        exact sh_bind (sh_each hW (objK_fine (hf f rfl)) (sh_objK hW (hs f f' rfl rfl)) _ _) fun x q _ => rfl
  · rfl
theorem sh_valueS {sub sub' : Option Sub} (hn : sub = none ↔ sub' = none) (hf : ∀ f, sub = some f → SubFine B f) (hs : ∀ f f', sub = some f → sub' = some f' → SubSh B n f f') : SubSh B n (valueS B sub) (valueS (W ++ B) sub') := by
  intro T a h
  unfold valueS
  refine sh_bind (sh_ahead hW _) fun c p hp => ?_
  refine sh_bind (sh_begun hW hn hf hs _ _ _ (pl_ahead hp).2.1) fun x q _ => ?_
  split <;> rfl
theorem sh_value : ∀ d, SubSh B n (valueM B d) (valueM (W ++ B) d)
  | 0 => sh_valueS hW (by simp) (fun f h => by cases h) (fun f f' h => by cases h)
  | d + 1 => sh_valueS hW (by simp) (fun f h => by cases h; exact value_fine d) (fun f f' h h' => by cases h; cases h'; exact sh_value d)
theorem sh_blanks (hb : ∀ c, c ∈ W → blankB c.toNat = true) : ∀ k i, i + k = n → skip (W ++ B) i = skip (W ++ B) n
  | 0, i, h => by rw [show i = n by omega]
  | k + 1, i, h => by
    have hi : i < W.length := by omega
    have : byteAt (W ++ B) i = (W[i]).toNat := by
      unfold byteAt
      rw [List.getD_eq_getElem?_getD, List.getElem?_append_left hi, List.getElem?_eq_getElem hi]; rfl
    unfold skip
    rw [run_yes _ _ _ (by rw [sh_len hW]; omega) (by rw [this]; exact hb _ (List.getElem_mem hi))]
    exact sh_blanks hb k (i + 1) (by omega)
theorem sh_read (hb : ∀ c, c ∈ W → blankB c.toNat = true) : readM (W ++ B) = match readM B with | .ok T _ => .ok T 0 | .bad p c => .bad (p + n) c := by
  have e0 : valueM (W ++ B) 16 [] 0 = (valueM B 16 [] 0).sh n := by
    have e1 : valueM (W ++ B) 16 [] 0 = valueM (W ++ B) 16 [] (0 + n) := by
      have : aheadM (W ++ B) 0 = aheadM (W ++ B) (0 + n) := by
        unfold aheadM; rw [sh_blanks hW hb n 0 (by omega), Nat.zero_add]
      show valueS _ _ _ _ = valueS _ _ _ _
      unfold valueS
      rw [this]
    rw [e1]
    exact sh_value hW 16 [] 0 (Nat.zero_le _)
  unfold readM
  rw [e0]
  cases valueM B 16 [] 0 with
  | bad p c => rfl
  | ok x q =>
    simp only [Res.sh, Res.andThen]
    rw [sh_skip hW, sh_len hW]
    by_cases h : skip B q < B.length
    · rw [if_pos h, if_pos (by omega)]
    · rw [if_neg h, if_neg (by omega)]
end
end Go.Proofs.YtedhglphnmheiaaDoor
