/-
  Plain: ways over edges, least weights, and the document's matrix of them, round by round.
-/
import Derived.Test.YtojkdmkeankcgaaGreatTabP
namespace Go.Proofs.YtojkdmkeankcgaaGreat

/-- A way over the edges of W among n places, with its weight. -/
inductive Way (n : Nat) (W : Nat → Nat → Option Int) (p : Nat) : Nat → Int → Prop where
  | here : Way n W p p 0
  | on {u v : Nat} {d x : Int} : Way n W p u d → u < n → v < n → W u v = some x → Way n W p v (d + x)
/-- D tells the least weights from p. -/
structure IsLeast (n : Nat) (W : Nat → Nat → Option Int) (p : Nat) (D : Nat → Option Int) : Prop where
  here : D p = some 0
  way : ∀ q d, q < n → D q = some d → Way n W p q d
  edge : ∀ u v d x, u < n → v < n → D u = some d → W u v = some x → ∃ d', D v = some d' ∧ d' ≤ d + x
theorem IsLeast.le {n : Nat} {W : Nat → Nat → Option Int} {p : Nat} {D : Nat → Option Int} (h : IsLeast n W p D) {q : Nat} {d : Int} (w : Way n W p q d) : ∃ d', D q = some d' ∧ d' ≤ d := by
  induction w with
  | here => exact ⟨0, h.here, Int.le_refl _⟩
  | on w hu hv hx ih =>
    obtain ⟨d', h1, h2⟩ := ih
    obtain ⟨d'', h3, h4⟩ := h.edge _ _ _ _ hu hv h1 hx
    exact ⟨d'', h3, by omega⟩
theorem IsLeast.eq {n : Nat} {W : Nat → Nat → Option Int} {p : Nat} {D E : Nat → Option Int} (h : IsLeast n W p D) (k : IsLeast n W p E) (q : Nat) (hq : q < n) : D q = E q := by
  cases hD : D q with
  | none =>
    cases hE : E q with
    | none => rfl
    | some e => obtain ⟨d, h1, _⟩ := h.le (k.way q e hq hE); rw [hD] at h1; cases h1
  | some d =>
    obtain ⟨e, h1, h2⟩ := k.le (h.way q d hq hD)
    obtain ⟨d', h3, h4⟩ := h.le (k.way q e hq h1)
    rw [hD] at h3
    cases h3
    rw [h1]
    congr 1
    omega
theorem Way.trans {n : Nat} {W : Nat → Nat → Option Int} {p q r : Nat} {d e : Int} (h : Way n W p q d) (k : Way n W q r e) : Way n W p r (d + e) := by
  induction k with
  | here => rw [Int.add_zero]; exact h
  | on k hu hv hx ih => rw [← Int.add_assoc]; exact ih.on hu hv hx

/-! ### numbers that may lack -/
def Ole (a b : Option Int) : Prop := ∀ y, b = some y → ∃ x, a = some x ∧ x ≤ y
def oadd : Option Int → Option Int → Option Int
  | some a, some b => some (a + b)
  | _, _ => none
def omin : Option Int → Option Int → Option Int
  | none, b => b
  | some a, none => some a
  | some a, some b => if b < a then some b else some a
theorem Ole.refl (a : Option Int) : Ole a a := fun y h => ⟨y, h, Int.le_refl _⟩
theorem Ole.trans {a b c : Option Int} (h : Ole a b) (k : Ole b c) : Ole a c := fun y hy => by
  obtain ⟨x, h1, h2⟩ := k y hy
  obtain ⟨z, h3, h4⟩ := h x h1
  exact ⟨z, h3, by omega⟩
theorem oadd_some {a b : Option Int} {y : Int} (h : oadd a b = some y) : ∃ u v, a = some u ∧ b = some v ∧ u + v = y := by
  cases a with
  | none => cases h
  | some u => cases b with
    | none => cases h
    | some v => exact ⟨u, v, rfl, rfl, by simpa [oadd] using h⟩
theorem Ole.add {a b c d : Option Int} (h : Ole a c) (k : Ole b d) : Ole (oadd a b) (oadd c d) := fun y hy => by
  obtain ⟨u, v, rfl, rfl, e⟩ := oadd_some hy
  obtain ⟨x, rfl, h2⟩ := h u rfl
  obtain ⟨z, rfl, h4⟩ := k v rfl
  exact ⟨x + z, rfl, by omega⟩
theorem omin_l (a b : Option Int) : Ole (omin a b) a := fun y hy => by
  subst hy
  cases b with
  | none => exact ⟨y, rfl, Int.le_refl _⟩
  | some b => unfold omin; dsimp only; split; exact ⟨b, rfl, by omega⟩; exact ⟨y, rfl, Int.le_refl _⟩
theorem omin_r (a b : Option Int) : Ole (omin a b) b := fun y hy => by
  subst hy
  cases a with
  | none => exact ⟨y, rfl, Int.le_refl _⟩
  | some a => unfold omin; dsimp only; split; exact ⟨y, rfl, Int.le_refl _⟩; exact ⟨a, rfl, by omega⟩
theorem omin_or (a b : Option Int) : omin a b = a ∨ omin a b = b := by
  cases a with
  | none => exact .inr rfl
  | some a => cases b with
    | none => exact .inl rfl
    | some b => unfold omin; dsimp only; split; exact .inr rfl; exact .inl rfl
theorem oadd_assoc (a b c : Option Int) : oadd (oadd a b) c = oadd a (oadd b c) := by
  cases a <;> cases b <;> cases c <;> simp [oadd, Int.add_assoc]

/-! ### the document's rounds -/
def rnd (k : Nat) (M : Nat → Nat → Option Int) : Nat → Nat → Option Int := fun a b => omin (M a b) (oadd (M a k) (M k b))
/-- W, and 0 from each of the first i places to itself. -/
def diagTo (i : Nat) (W : Nat → Nat → Option Int) : Nat → Nat → Option Int := fun a b => if a = b ∧ a < i then some 0 else W a b
def fw (n : Nat) (W : Nat → Nat → Option Int) : Nat → Nat → Nat → Option Int
  | 0 => diagTo n W
  | k + 1 => rnd k (fw n W k)
structure FwIs (n : Nat) (W : Nat → Nat → Option Int) (k : Nat) (M : Nat → Nat → Option Int) : Prop where
  diag : ∀ a, a < n → M a a = some 0
  pos : ∀ a b v, a < n → b < n → M a b = some v → 0 ≤ v ∧ v ≤ 1000000 * 2 ^ k
  way : ∀ a b v, a < n → b < n → M a b = some v → Way n W a b v
  edge : ∀ a b, a < n → b < n → Ole (M a b) (W a b)
  tri : ∀ a b c, a < n → b < n → c < k → Ole (M a b) (oadd (M a c) (M c b))
/-- Edges' weights are from 0 to a million. -/
def WOk (n : Nat) (W : Nat → Nat → Option Int) : Prop := ∀ a b v, a < n → b < n → W a b = some v → 0 ≤ v ∧ v ≤ 1000000
theorem fw_zero {n : Nat} {W : Nat → Nat → Option Int} (h : WOk n W) : FwIs n W 0 (diagTo n W) := by
  refine ⟨fun a ha => if_pos ⟨rfl, ha⟩, fun a b v ha hb e => ?_, fun a b v ha hb e => ?_, fun a b ha hb => ?_, fun a b c _ _ hc => by omega⟩
  · unfold diagTo at e
    split at e
    · cases e; omega
    · have := h a b v ha hb e; omega
  · unfold diagTo at e
    split at e
    · rename_i hh
      cases e
      rw [hh.1]
      exact .here
    · have := (Way.here (n := n) (W := W) (p := a)).on ha hb e
      rw [Int.zero_add] at this
      exact this
  · unfold diagTo
    split
    · rename_i hh
      intro y hy
      exact ⟨0, rfl, (h a b y ha hb hy).1⟩
    · exact Ole.refl _
theorem fw_step {n k : Nat} {W M : Nat → Nat → Option Int} (h : FwIs n W k M) (hk : k < n) : FwIs n W (k + 1) (rnd k M) := by
  have hp : (2 : Int) ^ (k + 1) = 2 ^ k * 2 := Int.pow_succ 2 k
  have hp0 : (0 : Int) < 2 ^ k := Int.pow_pos (by omega)
  have pos2 : ∀ a b v, a < n → b < n → rnd k M a b = some v → 0 ≤ v ∧ v ≤ 1000000 * 2 ^ (k + 1) := fun a b v ha hb e => by
    rcases omin_or (M a b) (oadd (M a k) (M k b)) with e2 | e2
    · have := h.pos a b v ha hb (by rw [← e2]; exact e)
      omega
    · obtain ⟨x, y, h1, h2, h3⟩ := oadd_some (show oadd (M a k) (M k b) = some v by rw [← e2]; exact e)
      have := h.pos a k x ha hk h1
      have := h.pos k b y hk hb h2
      omega
  refine ⟨fun a ha => ?_, pos2, fun a b v ha hb e => ?_, fun a b ha hb => (omin_l _ _).trans (h.edge a b ha hb), fun a b c ha hb hc => ?_⟩
  · obtain ⟨x, h1, h2⟩ := omin_l (M a a) (oadd (M a k) (M k a)) 0 (h.diag a ha)
    have := (pos2 a a x ha ha h1).1
    show rnd k M a a = some 0
    rw [show rnd k M a a = some x from h1]
    congr 1
    omega
  · rcases omin_or (M a b) (oadd (M a k) (M k b)) with e2 | e2
    · exact h.way a b v ha hb (by rw [← e2]; exact e)
    · obtain ⟨x, y, h1, h2, h3⟩ := oadd_some (show oadd (M a k) (M k b) = some v by rw [← e2]; exact e)
      rw [← h3]
      exact (h.way a k x ha hk h1).trans (h.way k b y hk hb h2)
  · have hck : c < k ∨ c = k := by omega
    have hcn : c < n := by omega
    rcases hck with hck | rfl
    · have T := fun a b ha hb => h.tri a b c ha hb hck
      show Ole (rnd k M a b) (oadd (rnd k M a c) (rnd k M c b))
      have e1 : rnd k M a c = omin (M a c) (oadd (M a k) (M k c)) := rfl
      have e3 : rnd k M c b = omin (M c b) (oadd (M c k) (M k b)) := rfl
      rcases omin_or (M a c) (oadd (M a k) (M k c)) with e2 | e2 <;> rcases omin_or (M c b) (oadd (M c k) (M k b)) with e4 | e4 <;> rw [e1, e3, e2, e4]
      · exact (omin_l _ _).trans (T a b ha hb)
      · rw [← oadd_assoc]
        exact (omin_r _ _).trans ((T a k ha hk).add (Ole.refl _))
      · rw [oadd_assoc]
        exact (omin_r _ _).trans ((Ole.refl _).add (T k b hk hb))
      · refine (omin_r _ _).trans ?_
        intro y hy
        obtain ⟨u, v, h1, h2, h3⟩ := oadd_some hy
        obtain ⟨u1, u2, h4, h5, h6⟩ := oadd_some h1
        obtain ⟨v1, v2, h7, h8, h9⟩ := oadd_some h2
        have := (h.pos k c u2 hk hcn h5).1
        have := (h.pos c k v1 hcn hk h7).1
        exact ⟨u1 + v2, by rw [h4, h8]; rfl, by omega⟩
    · show Ole (rnd c M a b) (oadd (rnd c M a c) (rnd c M c b))
      intro y hy
      obtain ⟨u, v, h1, h2, h3⟩ := oadd_some hy
      have hu : ∃ u', M a c = some u' ∧ u' ≤ u := by
        rcases omin_or (M a c) (oadd (M a c) (M c c)) with e | e
        · exact ⟨u, by rw [← e]; exact h1, Int.le_refl _⟩
        · obtain ⟨x, z, h4, h5, h6⟩ := oadd_some (show oadd (M a c) (M c c) = some u by rw [← e]; exact h1)
          rw [h.diag c hcn] at h5
          cases h5
          exact ⟨x, h4, by omega⟩
      have hv : ∃ v', M c b = some v' ∧ v' ≤ v := by
        rcases omin_or (M c b) (oadd (M c c) (M c b)) with e | e
        · exact ⟨v, by rw [← e]; exact h2, Int.le_refl _⟩
        · obtain ⟨x, z, h4, h5, h6⟩ := oadd_some (show oadd (M c c) (M c b) = some v by rw [← e]; exact h2)
          rw [h.diag c hcn] at h4
          cases h4
          exact ⟨z, h5, by omega⟩
      obtain ⟨u', hu1, hu2⟩ := hu
      obtain ⟨v', hv1, hv2⟩ := hv
      obtain ⟨x, hx1, hx2⟩ := omin_r (M a b) (oadd (M a c) (M c b)) (u' + v') (by rw [hu1, hv1]; rfl)
      exact ⟨x, hx1, by omega⟩
theorem fw_is {n : Nat} {W : Nat → Nat → Option Int} (h : WOk n W) : ∀ k, k ≤ n → FwIs n W k (fw n W k)
  | 0, _ => fw_zero h
  | k + 1, hk => fw_step (fw_is h k (by omega)) (by omega)
/-- The document's least weights. -/
def least (n : Nat) (W : Nat → Nat → Option Int) : Nat → Nat → Option Int := fw n W n
theorem least_is {n : Nat} {W : Nat → Nat → Option Int} (h : WOk n W) (p : Nat) (hp : p < n) : IsLeast n W p (least n W p) := by
  have F := fw_is h n (Nat.le_refl _)
  refine ⟨F.diag p hp, fun q d hq e => F.way p q d hp hq e, fun u v d x hu hv hd hx => ?_⟩
  have := F.tri p v u hp hv hu
  obtain ⟨y, hy1, hy2⟩ := F.edge u v hu hv x hx
  obtain ⟨z, hz1, hz2⟩ := this (d + y) (by show oadd (fw n W n p u) (fw n W n u v) = _; rw [show fw n W n p u = some d from hd, hy1]; rfl)
  exact ⟨z, hz1, by omega⟩
theorem least_pos {n : Nat} {W : Nat → Nat → Option Int} (h : WOk n W) {p q : Nat} (hp : p < n) (hq : q < n) {v : Int} (e : least n W p q = some v) : 0 ≤ v ∧ v ≤ 1000000 * 2 ^ n := (fw_is h n (Nat.le_refl _)).pos p q v hp hq e

/-! ### one round, cell by cell -/
def mix (k i j : Nat) (M : Nat → Nat → Option Int) : Nat → Nat → Option Int := fun a b => if a < i ∨ (a = i ∧ b < j) then rnd k M a b else M a b
section
variable {n k i j : Nat} {W M : Nat → Nat → Option Int}
theorem rnd_col (h : FwIs n W k M) (hk : k < n) {a : Nat} : rnd k M a k = M a k := by
  show omin (M a k) (oadd (M a k) (M k k)) = M a k
  rw [h.diag k hk]
  cases M a k with
  | none => rfl
  | some v => simp [oadd, omin]
theorem rnd_row (h : FwIs n W k M) (hk : k < n) {b : Nat} : rnd k M k b = M k b := by
  show omin (M k b) (oadd (M k k) (M k b)) = M k b
  rw [h.diag k hk]
  cases M k b with
  | none => rfl
  | some v => simp [oadd, omin]
theorem mix_col (h : FwIs n W k M) (hk : k < n) {a : Nat} : mix k i j M a k = M a k := by
  unfold mix; split; exact rnd_col h hk; rfl
theorem mix_row (h : FwIs n W k M) (hk : k < n) {b : Nat} : mix k i j M k b = M k b := by
  unfold mix; split; exact rnd_row h hk; rfl
theorem mix_here : mix k i j M i j = M i j := by unfold mix; rw [if_neg (by omega)]
theorem mix_next : mix k i (j + 1) M i j = rnd k M i j := by unfold mix; rw [if_pos (.inr ⟨rfl, by omega⟩)]
theorem mix_other {a b : Nat} (h : ¬ (a = i ∧ b = j)) : mix k i (j + 1) M a b = mix k i j M a b := by
  unfold mix
  by_cases h1 : a < i ∨ (a = i ∧ b < j)
  · rw [if_pos h1, if_pos (by omega)]
  · rw [if_neg h1, if_neg (by omega)]
theorem mix_line (a b : Nat) (hb : b < n) : mix k i n M a b = mix k (i + 1) 0 M a b := by
  unfold mix
  by_cases h1 : a < i ∨ (a = i ∧ b < n)
  · rw [if_pos h1, if_pos (by omega)]
  · rw [if_neg h1, if_neg (by omega)]
theorem mix_first (a b : Nat) : mix k 0 0 M a b = M a b := by unfold mix; rw [if_neg (by omega)]
theorem mix_last (a b : Nat) (ha : a < n) : mix k n 0 M a b = rnd k M a b := by unfold mix; rw [if_pos (by omega)]
end
end Go.Proofs.YtojkdmkeankcgaaGreat
