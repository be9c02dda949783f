/-
  Several texts in one.
-/
import Derived.Test.YtojkdmkeankcgaaGreatPlain
import Derived.Test.YtojkdmkeankcgaaGreatQModel
/-  Plain: the table of a road's edges, arc by arc. -/
namespace Go.Proofs.YtojkdmkeankcgaaGreat

theorem tab_snoc (L : List Leg) (l : Leg) (p q : Nat) : tab (L ++ [l]) p q = if l.1 = p ∧ l.2.1 = q then (match tab L p q with | none => some l.2.2 | some v => some (min v l.2.2)) else tab L p q := by
  by_cases h : l.1 = p ∧ l.2.1 = q
  · rw [if_pos h]
    cases hL : tab L p q with
    | none =>
      show _ = some l.2.2
      rw [tab_some]
      refine ⟨⟨l, by simp, h.1, h.2, rfl⟩, fun x hx h1 h2 => ?_⟩
      rcases List.mem_append.1 hx with hx | hx
      · exact absurd ⟨h1, h2⟩ (tab_none.1 hL x hx)
      · simp at hx; subst hx; exact Int.le_refl _
    | some v =>
      show _ = some (min v l.2.2)
      obtain ⟨⟨y, hy, y1, y2, y3⟩, hm⟩ := tab_some.1 hL
      rw [tab_some]
      refine ⟨?_, fun x hx h1 h2 => ?_⟩
      · by_cases hle : v ≤ l.2.2
        · exact ⟨y, by simp [hy], y1, y2, by omega⟩
        · exact ⟨l, by simp, h.1, h.2, by omega⟩
      · rcases List.mem_append.1 hx with hx | hx
        · have := hm x hx h1 h2; omega
        · simp at hx; subst hx; omega
  · rw [if_neg h]
    cases hL : tab L p q with
    | none =>
      rw [tab_none]
      intro x hx
      rcases List.mem_append.1 hx with hx | hx
      · exact tab_none.1 hL x hx
      · simp at hx; subst hx; exact h
    | some v =>
      obtain ⟨⟨y, hy, y1⟩, hm⟩ := tab_some.1 hL
      rw [tab_some]
      refine ⟨⟨y, by simp [hy], y1⟩, fun x hx h1 h2 => ?_⟩
      rcases List.mem_append.1 hx with hx | hx
      · exact hm x hx h1 h2
      · simp at hx; subst hx; exact absurd ⟨h1, h2⟩ h
/-- The table's cells, row by row. -/
def cellsM (n : Nat) (W : Nat → Nat → Option Int) : List Int := (List.range (n * n)).map fun i => (W (i / n) (i % n)).getD (-1)
theorem cellsM_len (n : Nat) (W : Nat → Nat → Option Int) : (cellsM n W).length = n * n := by simp [cellsM]
theorem cell_lt {n p q : Nat} (hp : p < n) (hq : q < n) : p * n + q < n * n := by
  have := Nat.mul_le_mul_right n (show p + 1 ≤ n from hp)
  rw [Nat.succ_mul] at this
  omega
theorem cell_div {n p q : Nat} (hq : q < n) : (p * n + q) / n = p ∧ (p * n + q) % n = q := by
  have h0 : 0 < n := by omega
  constructor
  · rw [Nat.mul_comm, Nat.mul_add_div h0, Nat.div_eq_of_lt hq, Nat.add_zero]
  · rw [Nat.mul_comm, Nat.mul_add_mod, Nat.mod_eq_of_lt hq]
theorem cellsM_at {n p q : Nat} (W : Nat → Nat → Option Int) (hp : p < n) (hq : q < n) : (cellsM n W)[p * n + q]! = (W p q).getD (-1) := by
  have hlt := cell_lt hp hq
  rw [getElem!_pos _ _ (by rw [cellsM_len]; exact hlt)]
  simp [cellsM, (cell_div (p := p) hq).1, (cell_div (p := p) hq).2]
theorem cellsM_set {n p q : Nat} (W W' : Nat → Nat → Option Int) (hq : q < n) (x : Int) (hx : W' p q = some x) (ho : ∀ a b, a < n → b < n → ¬ (a = p ∧ b = q) → W' a b = W a b) : cellsM n W' = (cellsM n W).set (p * n + q) x := by
  apply List.ext_getElem
  · simp [cellsM]
  · intro i h1 h2
    have hi : i < n * n := by rw [cellsM_len] at h1; exact h1
    have h0 : 0 < n := by omega
    have hd : i / n < n := (Nat.div_lt_iff_lt_mul h0).2 hi
    have hm : i % n < n := Nat.mod_lt _ h0
    rw [List.getElem_set]
    split
    · rename_i e
      subst e
      simp [cellsM, (cell_div (p := p) hq).1, (cell_div (p := p) hq).2, hx]
    · rename_i e
      simp only [cellsM, List.getElem_map, List.getElem_range]
      rw [ho (i / n) (i % n) hd hm (fun ⟨a, b⟩ => e (by have := Nat.div_add_mod i n; rw [a, b, Nat.mul_comm] at this; exact this))]
theorem cellsM_same {n : Nat} (W W' : Nat → Nat → Option Int) (ho : ∀ a b, a < n → b < n → W' a b = W a b) : cellsM n W' = cellsM n W := by
  apply List.ext_getElem
  · simp [cellsM]
  · intro i h1 h2
    have hi : i < n * n := by rw [cellsM_len] at h1; exact h1
    have h0 : 0 < n := by rcases Nat.eq_zero_or_pos n with e | e; subst e; simp at hi; exact e
    simp only [cellsM, List.getElem_map, List.getElem_range]
    rw [ho _ _ ((Nat.div_lt_iff_lt_mul h0).2 hi) (Nat.mod_lt _ h0)]
theorem cellsM_none (n : Nat) : cellsM n (tab []) = List.replicate (n * n) (-1) := by
  apply List.ext_getElem
  · simp [cellsM]
  · intro i h1 h2
    simp [cellsM, tab]
/-- One arc more: the cell is set, or all stays. -/
theorem cells_step (n : Nat) (L : List Leg) (p q : Nat) (x : Int) (hp : p < n) (hq : q < n) (hL : ∀ v, tab L p q = some v → 0 ≤ v) :
    cellsM n (tab (L ++ [((p : Int), (q : Int), x)])) = if (cellsM n (tab L))[p * n + q]! < 0 ∨ x < (cellsM n (tab L))[p * n + q]! then (cellsM n (tab L)).set (p * n + q) x else cellsM n (tab L) := by
  have hother : ∀ a b, ¬ (a = p ∧ b = q) → tab (L ++ [((p : Int), (q : Int), x)]) a b = tab L a b := fun a b h => by
    rw [tab_snoc, if_neg (fun e => h ⟨by have := e.1; simp only at this; omega, by have := e.2; simp only at this; omega⟩)]
  rw [cellsM_at _ hp hq]
  have hself : tab (L ++ [((p : Int), (q : Int), x)]) p q = (match tab L p q with | none => some x | some v => some (min v x)) := by rw [tab_snoc, if_pos ⟨rfl, rfl⟩]
  cases hv : tab L p q with
  | none =>
    rw [if_pos (.inl (by simp))]
    rw [hv] at hself
    exact cellsM_set _ _ hq x hself (fun a b _ _ h => hother a b h)
  | some v =>
    have h0 := hL v hv
    rw [hv] at hself
    by_cases h : x < v
    · rw [if_pos (.inr (by simpa using h))]
      exact cellsM_set _ _ hq x (by rw [hself]; show some (min v x) = some x; congr 1; omega) (fun a b _ _ h => hother a b h)
    · rw [if_neg (by simp; omega)]
      refine cellsM_same _ _ (fun a b _ _ => ?_)
      by_cases hab : a = p ∧ b = q
      · obtain ⟨rfl, rfl⟩ := hab
        rw [hself, hv]
        show some (min v x) = some v
        congr 1
        omega
      · exact hother a b hab
end Go.Proofs.YtojkdmkeankcgaaGreat
/-  Plain: ways over edges, least weights, and the document's matrix of them, round by round. -/
namespace Go.Proofs.YtojkdmkeankcgaaGreat

/-- A way over the edges of W among n places, with its weight. -/
inductive Way (n : Nat) (W : Nat → Nat → Option Int) (p : Nat) : Nat → Int → Prop where
  | here : Way n W p p 0
  | on {u v : Nat} {d x : Int} : Way n W p u d → u < n → v < n → W u v = some x → Way n W p v (d + x)
/-- D tells the least weights from p. -/
structure IsLeast (n : Nat) (W : Nat → Nat → Option Int) (p : Nat) (D : Nat → Option Int) : Prop where
  here : D p = some 0
  way : ∀ q d, q < n → D q = some d → Way n W p q d
  edge : ∀ u v d x, u < n → v < n → D u = some d → W u v = some x → ∃ d', D v = some d' ∧ d' ≤ d + x
theorem IsLeast.le {n : Nat} {W : Nat → Nat → Option Int} {p : Nat} {D : Nat → Option Int} (h : IsLeast n W p D) {q : Nat} {d : Int} (w : Way n W p q d) : ∃ d', D q = some d' ∧ d' ≤ d := by
  induction w with
  | here => exact ⟨0, h.here, Int.le_refl _⟩
  | on w hu hv hx ih =>
    obtain ⟨d', h1, h2⟩ := ih
    obtain ⟨d'', h3, h4⟩ := h.edge _ _ _ _ hu hv h1 hx
    exact ⟨d'', h3, by omega⟩
theorem IsLeast.eq {n : Nat} {W : Nat → Nat → Option Int} {p : Nat} {D E : Nat → Option Int} (h : IsLeast n W p D) (k : IsLeast n W p E) (q : Nat) (hq : q < n) : D q = E q := by
  cases hD : D q with
  | none =>
    cases hE : E q with
    | none => rfl
    | some e => obtain ⟨d, h1, _⟩ := h.le (k.way q e hq hE); rw [hD] at h1; cases h1
  | some d =>
    obtain ⟨e, h1, h2⟩ := k.le (h.way q d hq hD)
    obtain ⟨d', h3, h4⟩ := h.le (k.way q e hq h1)
    rw [hD] at h3
    cases h3
    rw [h1]
    congr 1
    omega
theorem Way.trans {n : Nat} {W : Nat → Nat → Option Int} {p q r : Nat} {d e : Int} (h : Way n W p q d) (k : Way n W q r e) : Way n W p r (d + e) := by
  induction k with
  | here => rw [Int.add_zero]; exact h
  | on k hu hv hx ih => rw [← Int.add_assoc]; exact ih.on hu hv hx

/-! ### numbers that may lack -/
def Ole (a b : Option Int) : Prop := ∀ y, b = some y → ∃ x, a = some x ∧ x ≤ y
def oadd : Option Int → Option Int → Option Int
  | some a, some b => some (a + b)
  | _, _ => none
def omin : Option Int → Option Int → Option Int
  | none, b => b
  | some a, none => some a
  | some a, some b => if b < a then some b else some a
theorem Ole.refl (a : Option Int) : Ole a a := fun y h => ⟨y, h, Int.le_refl _⟩
theorem Ole.trans {a b c : Option Int} (h : Ole a b) (k : Ole b c) : Ole a c := fun y hy => by
  obtain ⟨x, h1, h2⟩ := k y hy
  obtain ⟨z, h3, h4⟩ := h x h1
  exact ⟨z, h3, by omega⟩
theorem oadd_some {a b : Option Int} {y : Int} (h : oadd a b = some y) : ∃ u v, a = some u ∧ b = some v ∧ u + v = y := by
  cases a with
  | none => cases h
  | some u => cases b with
    | none => cases h
    | some v => exact ⟨u, v, rfl, rfl, by simpa [oadd] using h⟩
theorem Ole.add {a b c d : Option Int} (h : Ole a c) (k : Ole b d) : Ole (oadd a b) (oadd c d) := fun y hy => by
  obtain ⟨u, v, rfl, rfl, e⟩ := oadd_some hy
  obtain ⟨x, rfl, h2⟩ := h u rfl
  obtain ⟨z, rfl, h4⟩ := k v rfl
  exact ⟨x + z, rfl, by omega⟩
theorem omin_l (a b : Option Int) : Ole (omin a b) a := fun y hy => by
  subst hy
  cases b with
  | none => exact ⟨y, rfl, Int.le_refl _⟩
  | some b => unfold omin; dsimp only; split; exact ⟨b, rfl, by omega⟩; exact ⟨y, rfl, Int.le_refl _⟩
theorem omin_r (a b : Option Int) : Ole (omin a b) b := fun y hy => by
  subst hy
  cases a with
  | none => exact ⟨y, rfl, Int.le_refl _⟩
  | some a => unfold omin; dsimp only; split; exact ⟨y, rfl, Int.le_refl _⟩; exact ⟨a, rfl, by omega⟩
theorem omin_or (a b : Option Int) : omin a b = a ∨ omin a b = b := by
  cases a with
  | none => exact .inr rfl
  | some a => cases b with
    | none => exact .inl rfl
    | some b => unfold omin; dsimp only; split; exact .inr rfl; exact .inl rfl
theorem oadd_assoc (a b c : Option Int) : oadd (oadd a b) c = oadd a (oadd b c) := by
  cases a <;> cases b <;> cases c <;> simp [oadd, Int.add_assoc]

/-! ### the document's rounds -/
def rnd (k : Nat) (M : Nat → Nat → Option Int) : Nat → Nat → Option Int := fun a b => omin (M a b) (oadd (M a k) (M k b))
/-- W, and 0 from each of the first i places to itself. -/
def diagTo (i : Nat) (W : Nat → Nat → Option Int) : Nat → Nat → Option Int := fun a b => if a = b ∧ a < i then some 0 else W a b
def fw (n : Nat) (W : Nat → Nat → Option Int) : Nat → Nat → Nat → Option Int
  | 0 => diagTo n W
  | k + 1 => rnd k (fw n W k)
structure FwIs (n : Nat) (W : Nat → Nat → Option Int) (k : Nat) (M : Nat → Nat → Option Int) : Prop where
  diag : ∀ a, a < n → M a a = some 0
  pos : ∀ a b v, a < n → b < n → M a b = some v → 0 ≤ v ∧ v ≤ 1000000 * 2 ^ k
  way : ∀ a b v, a < n → b < n → M a b = some v → Way n W a b v
  edge : ∀ a b, a < n → b < n → Ole (M a b) (W a b)
  tri : ∀ a b c, a < n → b < n → c < k → Ole (M a b) (oadd (M a c) (M c b))
/-- Edges' weights are from 0 to a million. -/
def WOk (n : Nat) (W : Nat → Nat → Option Int) : Prop := ∀ a b v, a < n → b < n → W a b = some v → 0 ≤ v ∧ v ≤ 1000000
theorem fw_zero {n : Nat} {W : Nat → Nat → Option Int} (h : WOk n W) : FwIs n W 0 (diagTo n W) := by
  refine ⟨fun a ha => if_pos ⟨rfl, ha⟩, fun a b v ha hb e => ?_, fun a b v ha hb e => ?_, fun a b ha hb => ?_, fun a b c _ _ hc => by omega⟩
  · unfold diagTo at e
    split at e
    · cases e; omega
    · have := h a b v ha hb e; omega
  · unfold diagTo at e
    split at e
    · rename_i hh
      cases e
      rw [hh.1]
      exact .here
    · have := (Way.here (n := n) (W := W) (p := a)).on ha hb e
      rw [Int.zero_add] at this
      exact this
  · unfold diagTo
    split
    · rename_i hh
      intro y hy
      exact ⟨0, rfl, (h a b y ha hb hy).1⟩
    · exact Ole.refl _
theorem fw_step {n k : Nat} {W M : Nat → Nat → Option Int} (h : FwIs n W k M) (hk : k < n) : FwIs n W (k + 1) (rnd k M) := by
  have hp : (2 : Int) ^ (k + 1) = 2 ^ k * 2 := Int.pow_succ 2 k
  have hp0 : (0 : Int) < 2 ^ k := Int.pow_pos (by omega)
  have pos2 : ∀ a b v, a < n → b < n → rnd k M a b = some v → 0 ≤ v ∧ v ≤ 1000000 * 2 ^ (k + 1) := fun a b v ha hb e => by
    rcases omin_or (M a b) (oadd (M a k) (M k b)) with e2 | e2
    · have := h.pos a b v ha hb (by rw [← e2]; exact e)
      omega
    · obtain ⟨x, y, h1, h2, h3⟩ := oadd_some (show oadd (M a k) (M k b) = some v by rw [← e2]; exact e)
      have := h.pos a k x ha hk h1
      have := h.pos k b y hk hb h2
      omega
  refine ⟨fun a ha => ?_, pos2, fun a b v ha hb e => ?_, fun a b ha hb => (omin_l _ _).trans (h.edge a b ha hb), fun a b c ha hb hc => ?_⟩
  · obtain ⟨x, h1, h2⟩ := omin_l (M a a) (oadd (M a k) (M k a)) 0 (h.diag a ha)
    have := (pos2 a a x ha ha h1).1
    show rnd k M a a = some 0
    rw [show rnd k M a a = some x from h1]
    congr 1
    omega
  · rcases omin_or (M a b) (oadd (M a k) (M k b)) with e2 | e2
    · exact h.way a b v ha hb (by rw [← e2]; exact e)
    · obtain ⟨x, y, h1, h2, h3⟩ := oadd_some (show oadd (M a k) (M k b) = some v by rw [← e2]; exact e)
      rw [← h3]
      exact (h.way a k x ha hk h1).trans (h.way k b y hk hb h2)
  · have hck : c < k ∨ c = k := by omega
    have hcn : c < n := by omega
    rcases hck with hck | rfl
    · have T := fun a b ha hb => h.tri a b c ha hb hck
      show Ole (rnd k M a b) (oadd (rnd k M a c) (rnd k M c b))
      have e1 : rnd k M a c = omin (M a c) (oadd (M a k) (M k c)) := rfl
      have e3 : rnd k M c b = omin (M c b) (oadd (M c k) (M k b)) := rfl
      rcases omin_or (M a c) (oadd (M a k) (M k c)) with e2 | e2 <;> rcases omin_or (M c b) (oadd (M c k) (M k b)) with e4 | e4 <;> rw [e1, e3, e2, e4]
      · exact (omin_l _ _).trans (T a b ha hb)
      · rw [← oadd_assoc]
        exact (omin_r _ _).trans ((T a k ha hk).add (Ole.refl _))
      · rw [oadd_assoc]
        exact (omin_r _ _).trans ((Ole.refl _).add (T k b hk hb))
      · refine (omin_r _ _).trans ?_
        intro y hy
        obtain ⟨u, v, h1, h2, h3⟩ := oadd_some hy
        obtain ⟨u1, u2, h4, h5, h6⟩ := oadd_some h1
        obtain ⟨v1, v2, h7, h8, h9⟩ := oadd_some h2
        have := (h.pos k c u2 hk hcn h5).1
        have := (h.pos c k v1 hcn hk h7).1
        exact ⟨u1 + v2, by rw [h4, h8]; rfl, by omega⟩
    · show Ole (rnd c M a b) (oadd (rnd c M a c) (rnd c M c b))
      intro y hy
      obtain ⟨u, v, h1, h2, h3⟩ := oadd_some hy
      have hu : ∃ u', M a c = some u' ∧ u' ≤ u := by
        rcases omin_or (M a c) (oadd (M a c) (M c c)) with e | e
        · exact ⟨u, by rw [← e]; exact h1, Int.le_refl _⟩
        · obtain ⟨x, z, h4, h5, h6⟩ := oadd_some (show oadd (M a c) (M c c) = some u by rw [← e]; exact h1)
          rw [h.diag c hcn] at h5
          cases h5
          exact ⟨x, h4, by omega⟩
      have hv : ∃ v', M c b = some v' ∧ v' ≤ v := by
        rcases omin_or (M c b) (oadd (M c c) (M c b)) with e | e
        · exact ⟨v, by rw [← e]; exact h2, Int.le_refl _⟩
        · obtain ⟨x, z, h4, h5, h6⟩ := oadd_some (show oadd (M c c) (M c b) = some v by rw [← e]; exact h2)
          rw [h.diag c hcn] at h4
          cases h4
          exact ⟨z, h5, by omega⟩
      obtain ⟨u', hu1, hu2⟩ := hu
      obtain ⟨v', hv1, hv2⟩ := hv
      obtain ⟨x, hx1, hx2⟩ := omin_r (M a b) (oadd (M a c) (M c b)) (u' + v') (by rw [hu1, hv1]; rfl)
      exact ⟨x, hx1, by omega⟩
theorem fw_is {n : Nat} {W : Nat → Nat → Option Int} (h : WOk n W) : ∀ k, k ≤ n → FwIs n W k (fw n W k)
  | 0, _ => fw_zero h
  | k + 1, hk => fw_step (fw_is h k (by omega)) (by omega)
/-- The document's least weights. -/
def least (n : Nat) (W : Nat → Nat → Option Int) : Nat → Nat → Option Int := fw n W n
theorem least_is {n : Nat} {W : Nat → Nat → Option Int} (h : WOk n W) (p : Nat) (hp : p < n) : IsLeast n W p (least n W p) := by
  have F := fw_is h n (Nat.le_refl _)
  refine ⟨F.diag p hp, fun q d hq e => F.way p q d hp hq e, fun u v d x hu hv hd hx => ?_⟩
  have := F.tri p v u hp hv hu
  obtain ⟨y, hy1, hy2⟩ := F.edge u v hu hv x hx
  obtain ⟨z, hz1, hz2⟩ := this (d + y) (by show oadd (fw n W n p u) (fw n W n u v) = _; rw [show fw n W n p u = some d from hd, hy1]; rfl)
  exact ⟨z, hz1, by omega⟩
theorem least_pos {n : Nat} {W : Nat → Nat → Option Int} (h : WOk n W) {p q : Nat} (hp : p < n) (hq : q < n) {v : Int} (e : least n W p q = some v) : 0 ≤ v ∧ v ≤ 1000000 * 2 ^ n := (fw_is h n (Nat.le_refl _)).pos p q v hp hq e

/-! ### one round, cell by cell -/
def mix (k i j : Nat) (M : Nat → Nat → Option Int) : Nat → Nat → Option Int := fun a b => if a < i ∨ (a = i ∧ b < j) then rnd k M a b else M a b
section
variable {n k i j : Nat} {W M : Nat → Nat → Option Int}
theorem rnd_col (h : FwIs n W k M) (hk : k < n) {a : Nat} : rnd k M a k = M a k := by
  show omin (M a k) (oadd (M a k) (M k k)) = M a k
  rw [h.diag k hk]
  cases M a k with
  | none => rfl
  | some v => simp [oadd, omin]
theorem rnd_row (h : FwIs n W k M) (hk : k < n) {b : Nat} : rnd k M k b = M k b := by
  show omin (M k b) (oadd (M k k) (M k b)) = M k b
  rw [h.diag k hk]
  cases M k b with
  | none => rfl
  | some v => simp [oadd, omin]
theorem mix_col (h : FwIs n W k M) (hk : k < n) {a : Nat} : mix k i j M a k = M a k := by
  unfold mix; split; exact rnd_col h hk; rfl
theorem mix_row (h : FwIs n W k M) (hk : k < n) {b : Nat} : mix k i j M k b = M k b := by
  unfold mix; split; exact rnd_row h hk; rfl
theorem mix_here : mix k i j M i j = M i j := by unfold mix; rw [if_neg (by omega)]
theorem mix_next : mix k i (j + 1) M i j = rnd k M i j := by unfold mix; rw [if_pos (.inr ⟨rfl, by omega⟩)]
theorem mix_other {a b : Nat} (h : ¬ (a = i ∧ b = j)) : mix k i (j + 1) M a b = mix k i j M a b := by
  unfold mix
  by_cases h1 : a < i ∨ (a = i ∧ b < j)
  · rw [if_pos h1, if_pos (by omega)]
  · rw [if_neg h1, if_neg (by omega)]
theorem mix_line (a b : Nat) (hb : b < n) : mix k i n M a b = mix k (i + 1) 0 M a b := by
  unfold mix
  by_cases h1 : a < i ∨ (a = i ∧ b < n)
  · rw [if_pos h1, if_pos (by omega)]
  · rw [if_neg h1, if_neg (by omega)]
theorem mix_first (a b : Nat) : mix k 0 0 M a b = M a b := by unfold mix; rw [if_neg (by omega)]
theorem mix_last (a b : Nat) (ha : a < n) : mix k n 0 M a b = rnd k M a b := by unfold mix; rw [if_pos (by omega)]
end
end Go.Proofs.YtojkdmkeankcgaaGreat
/-  Plain: the search from one place: which places are closed, which open, and the places ahead. -/
namespace Go.Proofs.YtojkdmkeankcgaaGreat
open Qu (Pr lt items Dis repl dropM putM Least look_none look_some dis_put dis_drop)

def upd {α : Type} (f : Nat → α) (a : Nat) (x : α) : Nat → α := fun b => if b = a then x else f b
theorem upd_same {α : Type} (f : Nat → α) (a : Nat) (x : α) : upd f a x a = x := if_pos rfl
theorem upd_other {α : Type} (f : Nat → α) {a b : Nat} (x : α) (h : b ≠ a) : upd f a x b = f b := if_neg h
/-- So many of the first n places are closed. -/
def cnt (D : Nat → Option Int) : Nat → Nat
  | 0 => 0
  | n + 1 => cnt D n + (if (D n).isSome then 1 else 0)
theorem cnt_le (D : Nat → Option Int) : ∀ n, cnt D n ≤ n
  | 0 => Nat.le_refl _
  | n + 1 => by have := cnt_le D n; rw [cnt]; split <;> omega
theorem cnt_far (D : Nat → Option Int) (v : Nat) (k : Int) : ∀ n, n ≤ v → cnt (upd D v (some k)) n = cnt D n
  | 0, _ => rfl
  | n + 1, h => by rw [cnt, cnt, cnt_far D v k n (by omega), upd_other _ _ (by omega)]
theorem cnt_more (D : Nat → Option Int) (v : Nat) (k : Int) (hv : D v = none) : ∀ n, v < n → cnt (upd D v (some k)) n = cnt D n + 1
  | 0, h => by omega
  | n + 1, h => by
    rw [cnt, cnt]
    by_cases e : n = v
    · subst e
      rw [cnt_far D n k n (Nat.le_refl _), upd_same, hv]
      rfl
    · rw [cnt_more D v k hv n (by omega), upd_other _ _ e]
      omega
/-- Where an open place's key comes from. -/
def From1 (W : Nat → Nat → Option Int) (s : Nat) (D : Nat → Option Int) (A : Nat → Int) (v : Nat) (k : Int) : Prop :=
  (v = s ∧ A v = -1 ∧ k = 0) ∨ (v ≠ s ∧ ∃ u d x, D u = some d ∧ W u v = some x ∧ k = d + x ∧ A v = (u : Int))
/-- What is so of all closed and open places, whether or not edges lead on. -/
structure Core (n : Nat) (W : Nat → Nat → Option Int) (s : Nat) (D : Nat → Option Int) (X : List Pr) (A : Nat → Int) (rk : Nat → Nat) : Prop where
  dis : Dis X
  clo : ∀ v d, D v = some d → v < n ∧ 0 ≤ d ∧ d + 1000000 ≤ 1000000 * (cnt D n : Int) ∧ Way n W s v d ∧ rk v < cnt D n
  opn : ∀ y ∈ X, ∃ v : Nat, v < n ∧ y.1 = (v : Int) ∧ D v = none ∧ Way n W s v y.2 ∧ 0 ≤ y.2 ∧ y.2 ≤ 1000000 * (cnt D n : Int) ∧ (∀ u d, D u = some d → d ≤ y.2) ∧ From1 W s D A v y.2
  ahd : ∀ v d, D v = some d → (v = s ∧ A v = -1 ∧ d = 0) ∨ (v ≠ s ∧ ∃ u du x, D u = some du ∧ W u v = some x ∧ d = du + x ∧ A v = (u : Int) ∧ rk u < rk v)
  non : ∀ v, v < n → D v = none → (∀ y ∈ X, y.1 ≠ (v : Int)) → A v = -1
/-- The edge from u (closed at d) to v: v is closed, or open, and no farther than by it. -/
def Led (D : Nat → Option Int) (X : List Pr) (v : Nat) (k : Int) : Prop := (∃ d', D v = some d' ∧ d' ≤ k) ∨ ∃ y ∈ X, y.1 = (v : Int) ∧ y.2 ≤ k
/-- Between two rounds. -/
structure Dj (n : Nat) (W : Nat → Nat → Option Int) (s : Nat) (D : Nat → Option Int) (X : List Pr) (A : Nat → Int) (rk : Nat → Nat) : Prop where
  core : Core n W s D X A rk
  led : ∀ u v d x, u < n → v < n → D u = some d → W u v = some x → Led D X v (d + x)
  start : D s = some 0 ∨ (X = [((s : Int), (0 : Int))] ∧ ∀ v, D v = none)
/-- p is closed at k, and its first c edges have led on. -/
structure Mid (n : Nat) (W : Nat → Nat → Option Int) (s : Nat) (D : Nat → Option Int) (X : List Pr) (A : Nat → Int) (rk : Nat → Nat) (p : Nat) (k : Int) (c : Nat) : Prop where
  core : Core n W s D X A rk
  hp : D p = some k
  top : ∀ u d, D u = some d → d ≤ k
  low : ∀ y ∈ X, k ≤ y.2
  led : ∀ u v d x, u < n → v < n → u ≠ p → D u = some d → W u v = some x → Led D X v (d + x)
  mine : ∀ e ∈ (rowM n W p).take c, Led D X e.1.toNat (k + e.2)
  start : D s = some 0
theorem dj_zero {n s : Nat} (W : Nat → Nat → Option Int) (hs : s < n) : Dj n W s (fun _ => none) [((s : Int), (0 : Int))] (fun _ => -1) (fun _ => 0) := by
  refine ⟨⟨by simp [Dis, items], fun v d h => (by cases h), fun y hy => ?_, fun v d h => (by cases h), fun _ _ _ _ => rfl⟩, fun u v d x _ _ h => (by cases h), .inr ⟨rfl, fun _ => rfl⟩⟩
  simp at hy
  subst hy
  exact ⟨s, hs, rfl, rfl, .here, by simp, by simp; omega, fun u d h => (by cases h), .inl ⟨rfl, rfl, rfl⟩⟩
section
variable {n s : Nat} {W : Nat → Nat → Option Int} {D : Nat → Option Int} {X : List Pr} {A : Nat → Int} {rk : Nat → Nat}
theorem mem_drop {y : Pr} {x : Int} : y ∈ dropM X x ↔ y ∈ X ∧ y.1 ≠ x := by unfold dropM; rw [List.mem_filter]; simp
/-- The least open place is closed. -/
theorem dj_take (h : Dj n W s D X A rk) {q : Pr} (hq : Least X q) : ∃ p : Nat, p < n ∧ q.1 = (p : Int) ∧ D p = none ∧ Mid n W s (upd D p (some q.2)) (dropM X q.1) A (upd rk p (cnt D n)) p q.2 0 ∧ cnt (upd D p (some q.2)) n = cnt D n + 1 := by
  obtain ⟨p, hp, h1, h2, h3, h4, h5, h6, h7⟩ := h.core.opn q hq.1
  have hc := cnt_more D p q.2 h2 n hp
  have hne : ∀ v d, D v = some d → v ≠ p := fun v d hv e => by subst e; rw [h2] at hv; cases hv
  have up : ∀ v d, D v = some d → upd D p (some q.2) v = some d := fun v d hv => by rw [upd_other _ _ (hne v d hv)]; exact hv
  have low : ∀ y ∈ X, q.2 ≤ y.2 := fun y hy => by have := of_decide_eq_false (hq.2 y hy); omega
  refine ⟨p, hp, h1, h2, ⟨⟨dis_drop h.core.dis _, fun v d hv => ?_, fun y hy => ?_, fun v d hv => ?_, fun v hv hn hy => ?_⟩, upd_same _ _ _, fun u d hu => ?_, fun y hy => low y (mem_drop.1 hy).1, fun u v d x hu hv hup hd hx => ?_, fun e he => by simp at he, ?_⟩, hc⟩
  · by_cases e : v = p
    · subst e
      rw [upd_same] at hv ⊢
      cases hv
      exact ⟨hp, h4, by rw [hc]; push_cast; omega, h3, by omega⟩
    · rw [upd_other _ _ e] at hv ⊢
      obtain ⟨a, b, c, d1, f⟩ := h.core.clo v d hv
      exact ⟨a, b, by rw [hc]; push_cast; omega, d1, by omega⟩
  · obtain ⟨hy1, hy2⟩ := mem_drop.1 hy
    obtain ⟨v, a, b, c, d1, e, f, g, k⟩ := h.core.opn y hy1
    have hvp : v ≠ p := fun e => hy2 (by rw [b, h1, e])
    refine ⟨v, a, b, by rw [upd_other _ _ hvp]; exact c, d1, e, by rw [hc]; push_cast; omega, fun u d hu => ?_, ?_⟩
    · by_cases e2 : u = p
      · subst e2; rw [upd_same] at hu; cases hu; exact low y hy1
      · rw [upd_other _ _ e2] at hu; exact g u d hu
    · rcases k with k | ⟨k0, u, d, x, k1, k2, k3, k4⟩
      · exact .inl k
      · exact .inr ⟨k0, u, d, x, up u d k1, k2, k3, k4⟩
  · by_cases e : v = p
    · subst e
      rw [upd_same] at hv
      cases hv
      rcases h7 with k | ⟨k0, u, d, x, k1, k2, k3, k4⟩
      · exact .inl k
      · refine .inr ⟨k0, u, d, x, up u d k1, k2, k3, k4, ?_⟩
        rw [upd_same, upd_other _ _ (hne u d k1)]
        exact (h.core.clo u d k1).2.2.2.2
    · rw [upd_other _ _ e] at hv
      rcases h.core.ahd v d hv with k | ⟨k0, u, du, x, k1, k2, k3, k4, k5⟩
      · exact .inl k
      · refine .inr ⟨k0, u, du, x, up u du k1, k2, k3, k4, ?_⟩
        rw [upd_other _ _ e, upd_other _ _ (hne u du k1)]
        exact k5
  · have e : v ≠ p := fun e => by subst e; rw [upd_same] at hn; cases hn
    rw [upd_other _ _ e] at hn
    exact h.core.non v hv hn (fun y hy2 e2 => hy y (mem_drop.2 ⟨hy2, by rw [e2, h1]; omega⟩) e2)
  · by_cases e2 : u = p
    · subst e2; rw [upd_same] at hu; cases hu; exact Int.le_refl _
    · rw [upd_other _ _ e2] at hu; exact h6 u d hu
  · rw [upd_other _ _ hup] at hd
    rcases h.led u v d x hu hv hd hx with ⟨d', k1, k2⟩ | ⟨y, k1, k2, k3⟩
    · exact .inl ⟨d', up v d' k1, k2⟩
    · by_cases e : y.1 = q.1
      · have := h.core.dis.inj k1 hq.1 e
        subst this
        have hv2 : v = p := by omega
        subst hv2
        exact .inl ⟨y.2, upd_same _ _ _, k3⟩
      · exact .inr ⟨y, mem_drop.2 ⟨k1, e⟩, k2, k3⟩
  · rcases h.start with k | ⟨k1, k2⟩
    · exact up s 0 k
    · have hq1 := hq.1
      rw [k1] at hq1
      simp at hq1
      subst hq1
      have : s = p := by simp at h1; omega
      subst this
      exact upd_same _ _ _
theorem mem_put {v k : Int} {y : Pr} (hl : X.length < 4096) (hy : y ∈ (putM X v k).1) : (y ∈ X ∧ (y.1 = v → (putM X v k).2 = false)) ∨ (y = (v, k) ∧ (putM X v k).2 = true) := by
  unfold putM at hy ⊢
  cases hk : Qu.look X v with
  | none =>
    rw [hk] at hy
    dsimp only at hy ⊢
    rw [if_pos hl] at hy ⊢
    rcases List.mem_append.1 hy with h | h
    · exact .inl ⟨h, fun e => absurd e (look_none.1 hk y h)⟩
    · exact .inr ⟨by simpa using h, rfl⟩
  | some q =>
    rw [hk] at hy
    dsimp only at hy ⊢
    by_cases hlt : k < q.2
    · rw [if_pos hlt] at hy ⊢
      obtain ⟨z, hz, e⟩ := List.mem_map.1 hy
      unfold repl at e
      by_cases hz1 : z.1 = v
      · rw [if_pos hz1] at e
        exact .inr ⟨e.symm, rfl⟩
      · rw [if_neg hz1] at e
        subst e
        exact .inl ⟨hz, fun e => absurd e hz1⟩
    · rw [if_neg hlt] at hy ⊢
      exact .inl ⟨hy, fun e => rfl⟩
theorem put_has {v k : Int} (hd : Dis X) (hl : X.length < 4096) : ∃ y ∈ (putM X v k).1, y.1 = v ∧ y.2 ≤ k := by
  unfold putM
  cases hk : Qu.look X v with
  | none => dsimp only; rw [if_pos hl]; exact ⟨(v, k), by simp, rfl, Int.le_refl _⟩
  | some q =>
    dsimp only
    have hq := (look_some hd).1 hk
    by_cases hlt : k < q.2
    · rw [if_pos hlt]
      exact ⟨(v, k), List.mem_map.2 ⟨q, hq.1, by unfold repl; rw [if_pos hq.2]⟩, rfl, Int.le_refl _⟩
    · rw [if_neg hlt]
      exact ⟨q, hq.1, hq.2, by omega⟩
theorem put_keeps {v k : Int} (hd : Dis X) (hl : X.length < 4096) {y : Pr} (hy : y ∈ X) : ∃ z ∈ (putM X v k).1, z.1 = y.1 ∧ z.2 ≤ y.2 := by
  unfold putM
  cases hk : Qu.look X v with
  | none => dsimp only; rw [if_pos hl]; exact ⟨y, by simp [hy], rfl, Int.le_refl _⟩
  | some q =>
    dsimp only
    by_cases hlt : k < q.2
    · rw [if_pos hlt]
      by_cases hz1 : y.1 = v
      · refine ⟨(v, k), List.mem_map.2 ⟨y, hy, by unfold repl; rw [if_pos hz1]⟩, hz1.symm, ?_⟩
        have hq := (look_some hd).1 hk
        have := hd.inj hy hq.1 (hz1.trans hq.2.symm)
        subst this
        show k ≤ y.2
        omega
      · exact ⟨y, List.mem_map.2 ⟨y, hy, by unfold repl; rw [if_neg hz1]⟩, rfl, Int.le_refl _⟩
    · rw [if_neg hlt]
      exact ⟨y, hy, rfl, Int.le_refl _⟩
theorem nodup_len : ∀ (n : Nat) (l : List Int), l.Nodup → (∀ x ∈ l, 0 ≤ x ∧ x < (n : Int)) → l.length ≤ n
  | 0, l, _, h => by
    cases l with
    | nil => simp
    | cons a r => have := h a (by simp); omega
  | n + 1, l, hd, h => by
    have h1 := nodup_len n (l.erase (n : Int)) (hd.erase _) (fun x hx => by
      obtain ⟨a, b⟩ := hd.mem_erase_iff.1 hx
      have := h x b
      omega)
    have h2 := List.length_erase (a := (n : Int)) (l := l)
    split at h2 <;> omega
theorem Core.len (h : Core n W s D X A rk) : X.length ≤ n := by
  have := nodup_len n (items X) h.dis (fun x hx => by
    obtain ⟨y, hy, rfl⟩ := List.mem_map.1 hx
    obtain ⟨v, a, b, _⟩ := h.opn y hy
    omega)
  simpa [items] using this
theorem Led.put {v k : Int} {c : Nat} {e : Int} (hd : Dis X) (hl : X.length < 4096) (h : Led D X c e) : Led D (putM X v k).1 c e := by
  rcases h with h | ⟨y, h1, h2, h3⟩
  · exact .inl h
  · obtain ⟨z, z1, z2, z3⟩ := put_keeps (v := v) (k := k) hd hl h1
    exact .inr ⟨z, z1, by omega, by omega⟩
theorem take_mem {R : List (Int × Int)} {c : Nat} {e : Int × Int} (hc : c < R.length) (h : e ∈ R.take (c + 1)) : e ∈ R.take c ∨ e = R[c]! := by
  rw [List.take_succ_eq_append_getElem hc] at h
  rcases List.mem_append.1 h with h | h
  · exact .inl h
  · right; rw [getElem!_pos R c hc]; simpa using h
variable {p c : Nat} {k : Int}
/-- An edge to a closed place. -/
theorem mid_skip (h : Mid n W s D X A rk p k c) (hW : WOk n W) (hp : p < n) (hc : c < (rowM n W p).length) {d : Int} (hd : D (rowM n W p)[c]!.1.toNat = some d) : Mid n W s D X A rk p k (c + 1) := by
  refine ⟨h.core, h.hp, h.top, h.low, h.led, fun e he => ?_, h.start⟩
  rcases take_mem hc he with he | rfl
  · exact h.mine e he
  · have hm : (rowM n W p)[c]! ∈ rowM n W p := by rw [getElem!_pos _ c hc]; exact List.getElem_mem _
    obtain ⟨q, x, hq, hx, e⟩ := mem_rowM.1 hm
    have := (hW p q x hp hq hx).1
    have h2 := h.top _ _ hd
    rw [e] at hd ⊢
    exact .inl ⟨d, hd, by simp; omega⟩
/-- An edge to a place that isn't closed. -/
theorem mid_put (h : Mid n W s D X A rk p k c) (hn : n ≤ 32) (hW : WOk n W) (hp : p < n) (hc : c < (rowM n W p).length) {v : Nat} {x : Int} (hr : (rowM n W p)[c]! = ((v : Int), x)) (hd : D v = none) :
    Mid n W s D (putM X v (k + x)).1 (if (putM X v (k + x)).2 then upd A v (p : Int) else A) rk p k (c + 1) := by
  have hm : (rowM n W p)[c]! ∈ rowM n W p := by rw [getElem!_pos _ c hc]; exact List.getElem_mem _
  rw [hr] at hm
  obtain ⟨q, x', hq, hx, e⟩ := mem_rowM.1 hm
  obtain ⟨rfl, rfl⟩ : v = q ∧ x = x' := by simp at e; omega
  have hl : X.length < 4096 := by have := h.core.len; omega
  have hx0 := hW p v x hp hq hx
  have hcp := h.core.clo p k h.hp
  have hvs : v ≠ s := fun e => by subst e; rw [h.start] at hd; cases hd
  have hA : ∀ u, u ≠ v → (if (putM X v (k + x)).2 then upd A v (p : Int) else A) u = A u := fun u hu => by
    split
    · exact upd_other _ _ hu
    · rfl
  have hAc : ∀ u d, D u = some d → (if (putM X v (k + x)).2 then upd A v (p : Int) else A) u = A u := fun u d hu => hA u (fun e => by subst e; rw [hd] at hu; cases hu)
  refine ⟨⟨dis_put h.core.dis _ _, h.core.clo, fun y hy => ?_, fun u d hu => by rw [hAc u d hu]; exact h.core.ahd u d hu, fun u hu hn2 hy => ?_⟩, h.hp, h.top, fun y hy => ?_, fun u w d z hu hw hup h1 h2 => (h.led u w d z hu hw hup h1 h2).put h.core.dis hl, fun e he => ?_, h.start⟩
  · rcases mem_put hl hy with ⟨h1, h2⟩ | ⟨rfl, h2⟩
    · obtain ⟨u, a, b, c1, d1, e1, f, g, k1⟩ := h.core.opn y h1
      refine ⟨u, a, b, c1, d1, e1, f, g, ?_⟩
      by_cases huv : u = v
      · subst huv
        rw [h2 b]
        exact k1
      · unfold From1 at k1 ⊢
        rw [hA u huv]
        exact k1
    · refine ⟨v, hq, rfl, hd, hcp.2.2.2.1.on hp hq hx, by show 0 ≤ k + x; omega, by show k + x ≤ _; omega, fun u d hu => by have := h.top u d hu; show d ≤ k + x; omega, ?_⟩
      rw [h2]
      exact .inr ⟨hvs, p, k, x, h.hp, hx, rfl, upd_same _ _ _⟩
  · have huv : u ≠ v := fun e => by
      subst e
      obtain ⟨y, h1, h2, _⟩ := put_has (X := X) (v := (u : Int)) (k := k + x) h.core.dis hl
      exact hy y h1 h2
    rw [hA u huv]
    refine h.core.non u hu hn2 (fun y h1 h2 => ?_)
    obtain ⟨z, z1, z2, _⟩ := put_keeps (v := (v : Int)) (k := k + x) h.core.dis hl h1
    exact hy z z1 (by omega)
  · rcases mem_put hl hy with ⟨h1, _⟩ | ⟨rfl, _⟩
    · exact h.low y h1
    · show k ≤ k + x; omega
  · rcases take_mem hc he with he | rfl
    · exact (h.mine e he).put h.core.dis hl
    · rw [hr]
      obtain ⟨y, h1, h2, h3⟩ := put_has (X := X) (v := (v : Int)) (k := k + x) h.core.dis hl
      exact .inr ⟨y, h1, by simpa using h2, h3⟩
theorem mid_end (h : Mid n W s D X A rk p k (rowM n W p).length) : Dj n W s D X A rk := by
  refine ⟨h.core, fun u v d x hu hv hd hx => ?_, .inl h.start⟩
  by_cases e : u = p
  · subst e
    rw [h.hp] at hd
    cases hd
    have := h.mine ((v : Int), x) (by rw [List.take_length]; exact mem_rowM.2 ⟨v, x, hv, hx, rfl⟩)
    simpa using this
  · exact h.led u v d x hu hv e hd hx
/-- The places ahead lead back to s. -/
structure Back (n : Nat) (W : Nat → Nat → Option Int) (s : Nat) (D : Nat → Option Int) (A : Nat → Int) (rk : Nat → Nat) : Prop where
  none : ∀ v, v < n → D v = none → A v = -1
  first : A s = -1
  ahead : ∀ v d, v < n → D v = some d → v ≠ s → ∃ u du x, u < n ∧ D u = some du ∧ W u v = some x ∧ d = du + x ∧ A v = (u : Int) ∧ rk u < rk v
  rank : ∀ v d, v < n → D v = some d → rk v < n
  pos : ∀ v d, D v = some d → 0 ≤ d ∧ d ≤ 32000000
theorem dj_end (h : Dj n W s D [] A rk) (hn : n ≤ 32) : IsLeast n W s D ∧ Back n W s D A rk := by
  have hs : D s = some 0 := by
    rcases h.start with k | ⟨k, _⟩
    · exact k
    · cases k
  have hc := cnt_le D n
  refine ⟨⟨hs, fun q d _ hd => (h.core.clo q d hd).2.2.2.1, fun u v d x hu hv hd hx => ?_⟩, fun v hv hn => h.core.non v hv hn (fun y hy => by simp at hy), ?_, fun v d hv hd hvs => ?_, fun v d _ hd => ?_, fun v d hd => ?_⟩
  · rcases h.led u v d x hu hv hd hx with k | ⟨y, hy, _⟩
    · exact k
    · simp at hy
  · rcases h.core.ahd s 0 hs with k | ⟨k, _⟩
    · exact k.2.1
    · exact absurd rfl k
  · rcases h.core.ahd v d hd with k | ⟨_, u, du, x, k1, k2, k3, k4, k5⟩
    · exact absurd k.1 hvs
    · exact ⟨u, du, x, (h.core.clo u du k1).1, k1, k2, k3, k4, k5⟩
  · have := (h.core.clo v d hd).2.2.2.2; omega
  · have := h.core.clo v d hd; omega
end
end Go.Proofs.YtojkdmkeankcgaaGreat
