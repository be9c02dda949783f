/-
  Plain: the table of a road's edges, arc by arc.
-/
import Derived.Test.YtojkdmkeankcgaaGreatPlain
namespace Go.Proofs.YtojkdmkeankcgaaGreat

theorem tab_snoc (L : List Leg) (l : Leg) (p q : Nat) : tab (L ++ [l]) p q = if l.1 = p ∧ l.2.1 = q then (match tab L p q with | none => some l.2.2 | some v => some (min v l.2.2)) else tab L p q := by
  by_cases h : l.1 = p ∧ l.2.1 = q
  · rw [if_pos h]
    cases hL : tab L p q with
    | none =>
      show _ = some l.2.2
      rw [tab_some]
      refine ⟨⟨l, by simp, h.1, h.2, rfl⟩, fun x hx h1 h2 => ?_⟩
      rcases List.mem_append.1 hx with hx | hx
      · exact absurd ⟨h1, h2⟩ (tab_none.1 hL x hx)
      · simp at hx; subst hx; exact Int.le_refl _
    | some v =>
      show _ = some (min v l.2.2)
      obtain ⟨⟨y, hy, y1, y2, y3⟩, hm⟩ := tab_some.1 hL
      rw [tab_some]
      refine ⟨?_, fun x hx h1 h2 => ?_⟩
      · by_cases hle : v ≤ l.2.2
        · exact ⟨y, by simp [hy], y1, y2, by omega⟩
        · exact ⟨l, by simp, h.1, h.2, by omega⟩
      · rcases List.mem_append.1 hx with hx | hx
        · have := hm x hx h1 h2; omega
        · simp at hx; subst hx; omega
  · rw [if_neg h]
    cases hL : tab L p q with
    | none =>
      rw [tab_none]
      intro x hx
      rcases List.mem_append.1 hx with hx | hx
      · exact tab_none.1 hL x hx
      · simp at hx; subst hx; exact h
    | some v =>
      obtain ⟨⟨y, hy, y1⟩, hm⟩ := tab_some.1 hL
      rw [tab_some]
      refine ⟨⟨y, by simp [hy], y1⟩, fun x hx h1 h2 => ?_⟩
      rcases List.mem_append.1 hx with hx | hx
      · exact hm x hx h1 h2
      · simp at hx; subst hx; exact absurd ⟨h1, h2⟩ h
/-- The table's cells, row by row. -/
def cellsM (n : Nat) (W : Nat → Nat → Option Int) : List Int := (List.range (n * n)).map fun i => (W (i / n) (i % n)).getD (-1)
theorem cellsM_len (n : Nat) (W : Nat → Nat → Option Int) : (cellsM n W).length = n * n := by simp [cellsM]
theorem cell_lt {n p q : Nat} (hp : p < n) (hq : q < n) : p * n + q < n * n := by
  have := Nat.mul_le_mul_right n (show p + 1 ≤ n from hp)
  rw [Nat.succ_mul] at this
  omega
theorem cell_div {n p q : Nat} (hq : q < n) : (p * n + q) / n = p ∧ (p * n + q) % n = q := by
  have h0 : 0 < n := by omega
  constructor
  · rw [Nat.mul_comm, Nat.mul_add_div h0, Nat.div_eq_of_lt hq, Nat.add_zero]
  · rw [Nat.mul_comm, Nat.mul_add_mod, Nat.mod_eq_of_lt hq]
theorem cellsM_at {n p q : Nat} (W : Nat → Nat → Option Int) (hp : p < n) (hq : q < n) : (cellsM n W)[p * n + q]! = (W p q).getD (-1) := by
  have hlt := cell_lt hp hq
  rw [getElem!_pos _ _ (by rw [cellsM_len]; exact hlt)]
  simp [cellsM, (cell_div (p := p) hq).1, (cell_div (p := p) hq).2]
theorem cellsM_set {n p q : Nat} (W W' : Nat → Nat → Option Int) (hq : q < n) (x : Int) (hx : W' p q = some x) (ho : ∀ a b, a < n → b < n → ¬ (a = p ∧ b = q) → W' a b = W a b) : cellsM n W' = (cellsM n W).set (p * n + q) x := by
  apply List.ext_getElem
  · simp [cellsM]
  · intro i h1 h2
    have hi : i < n * n := by rw [cellsM_len] at h1; exact h1
    have h0 : 0 < n := by omega
    have hd : i / n < n := (Nat.div_lt_iff_lt_mul h0).2 hi
    have hm : i % n < n := Nat.mod_lt _ h0
    rw [List.getElem_set]
    split
    · rename_i e
      subst e
      simp [cellsM, (cell_div (p := p) hq).1, (cell_div (p := p) hq).2, hx]
    · rename_i e
      simp only [cellsM, List.getElem_map, List.getElem_range]
      rw [ho (i / n) (i % n) hd hm (fun ⟨a, b⟩ => e (by have := Nat.div_add_mod i n; rw [a, b, Nat.mul_comm] at this; exact this))]
theorem cellsM_same {n : Nat} (W W' : Nat → Nat → Option Int) (ho : ∀ a b, a < n → b < n → W' a b = W a b) : cellsM n W' = cellsM n W := by
  apply List.ext_getElem
  · simp [cellsM]
  · intro i h1 h2
    have hi : i < n * n := by rw [cellsM_len] at h1; exact h1
    have h0 : 0 < n := by rcases Nat.eq_zero_or_pos n with e | e; subst e; simp at hi; exact e
    simp only [cellsM, List.getElem_map, List.getElem_range]
    rw [ho _ _ ((Nat.div_lt_iff_lt_mul h0).2 hi) (Nat.mod_lt _ h0)]
theorem cellsM_none (n : Nat) : cellsM n (tab []) = List.replicate (n * n) (-1) := by
  apply List.ext_getElem
  · simp [cellsM]
  · intro i h1 h2
    simp [cellsM, tab]
/-- One arc more: the cell is set, or all stays. -/
theorem cells_step (n : Nat) (L : List Leg) (p q : Nat) (x : Int) (hp : p < n) (hq : q < n) (hL : ∀ v, tab L p q = some v → 0 ≤ v) :
    cellsM n (tab (L ++ [((p : Int), (q : Int), x)])) = if (cellsM n (tab L))[p * n + q]! < 0 ∨ x < (cellsM n (tab L))[p * n + q]! then (cellsM n (tab L)).set (p * n + q) x else cellsM n (tab L) := by
  have hother : ∀ a b, ¬ (a = p ∧ b = q) → tab (L ++ [((p : Int), (q : Int), x)]) a b = tab L a b := fun a b h => by
    rw [tab_snoc, if_neg (fun e => h ⟨by have := e.1; simp only at this; omega, by have := e.2; simp only at this; omega⟩)]
  rw [cellsM_at _ hp hq]
  have hself : tab (L ++ [((p : Int), (q : Int), x)]) p q = (match tab L p q with | none => some x | some v => some (min v x)) := by rw [tab_snoc, if_pos ⟨rfl, rfl⟩]
  cases hv : tab L p q with
  | none =>
    rw [if_pos (.inl (by simp))]
    rw [hv] at hself
    exact cellsM_set _ _ hq x hself (fun a b _ _ h => hother a b h)
  | some v =>
    have h0 := hL v hv
    rw [hv] at hself
    by_cases h : x < v
    · rw [if_pos (.inr (by simpa using h))]
      exact cellsM_set _ _ hq x (by rw [hself]; show some (min v x) = some x; congr 1; omega) (fun a b _ _ h => hother a b h)
    · rw [if_neg (by simp; omega)]
      refine cellsM_same _ _ (fun a b _ _ => ?_)
      by_cases hab : a = p ∧ b = q
      · obtain ⟨rfl, rfl⟩ := hab
        rw [hself, hv]
        show some (min v x) = some v
        congr 1
        omega
      · exact hother a b hab
end Go.Proofs.YtojkdmkeankcgaaGreat
