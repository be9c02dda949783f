/-
  Plain counts: how many edges a graph has, and the turned one.
-/
import Derived.Test.YtojkdmkeankcgaaGreatReads
namespace Go.Proofs.YtojkdmkeankcgaaGreat.Cn

def one (b : Bool) : Nat := if b then 1 else 0
def cnt (f : Nat → Bool) : Nat → Nat
  | 0 => 0
  | q + 1 => cnt f q + one (f q)
def dbl (f : Nat → Nat → Bool) : Nat → Nat → Nat
  | 0, _ => 0
  | p + 1, b => dbl f p b + cnt (f p) b
theorem cnt_congr {f g : Nat → Bool} : ∀ b, (∀ q, q < b → f q = g q) → cnt f b = cnt g b
  | 0, _ => rfl
  | b + 1, h => by rw [cnt, cnt, cnt_congr b (fun q hq => h q (by omega)), h b (by omega)]
theorem dbl_congr {f g : Nat → Nat → Bool} (b : Nat) : ∀ a, (∀ p q, p < a → q < b → f p q = g p q) → dbl f a b = dbl g a b
  | 0, _ => rfl
  | a + 1, h => by rw [dbl, dbl, dbl_congr b a (fun p q hp hq => h p q (by omega) hq), cnt_congr b (fun q hq => h a q (by omega) hq)]
theorem dbl_zero (f : Nat → Nat → Bool) : ∀ a, dbl f a 0 = 0
  | 0 => rfl
  | a + 1 => by rw [dbl, dbl_zero f a]; rfl
theorem dbl_col (f : Nat → Nat → Bool) (a : Nat) : ∀ b, dbl f b (a + 1) = dbl f b a + cnt (fun q => f q a) b
  | 0 => rfl
  | b + 1 => by
    rw [dbl, dbl, dbl_col f a b, cnt, cnt]
    omega
theorem dbl_swap (f : Nat → Nat → Bool) (b : Nat) : ∀ a, dbl f a b = dbl (fun q p => f p q) b a
  | 0 => by rw [dbl_zero]; rfl
  | a + 1 => by rw [dbl, dbl_swap f b a, dbl_col (fun q p => f p q) a b]
theorem row_cnt (W : Nat → Nat → Option Int) (p : Nat) : ∀ k, ((List.range k).filterMap fun q => (W p q).map fun v => ((q : Int), v)).length = cnt (fun q => (W p q).isSome) k
  | 0 => rfl
  | k + 1 => by
    rw [List.range_succ, List.filterMap_append, List.length_append, row_cnt W p k, cnt]
    cases h : W p k <;> simp [h, one]
theorem sum_dbl (n : Nat) (W : Nat → Nat → Option Int) : ∀ k, sumLen n W k = dbl (fun p q => (W p q).isSome) k n
  | 0 => rfl
  | k + 1 => by
    rw [sumLen, dbl, sum_dbl n W k]
    congr 1
    exact row_cnt W k n
/-- The turned graph has as many edges. -/
theorem sum_turn (n : Nat) (W W' : Nat → Nat → Option Int) (h : ∀ p q, p < n → q < n → W' q p = W p q) : sumLen n W' n = sumLen n W n := by
  rw [sum_dbl, sum_dbl, dbl_swap (fun p q => (W p q).isSome) n n]
  exact dbl_congr n n (fun q p hq hp => by rw [h p q hp hq])
theorem cnt_at (x : Int) : ∀ b, cnt (fun q => decide (x = (q : Int))) b = one (decide (0 ≤ x ∧ x < b))
  | 0 => by unfold one; rw [if_neg (by simp <;> omega)]; rfl
  | b + 1 => by
    rw [cnt, cnt_at x b]
    unfold one
    by_cases h1 : 0 ≤ x ∧ x < b
    · rw [if_pos (by simpa using h1), if_neg (by simp; omega), if_pos (by simp; omega)]
    · rw [if_neg (by simpa using h1)]
      by_cases h2 : x = (b : Int)
      · rw [if_pos (by simpa using h2), if_pos (by simp; omega)]
      · rw [if_neg (by simpa using h2), if_neg (by simp; omega)]
theorem cnt_add {f g h : Nat → Bool} (hh : ∀ q, one (f q) ≤ one (g q) + one (h q)) : ∀ b, cnt f b ≤ cnt g b + cnt h b
  | 0 => Nat.le_refl _
  | b + 1 => by
    have := cnt_add hh b
    have := hh b
    rw [cnt, cnt, cnt]
    omega
theorem one_le (b : Bool) : one b ≤ 1 := by cases b <;> simp [one]
theorem dbl_add (l : Leg) (r : List Leg) (b : Nat) : ∀ a, dbl (fun p q => (tab (l :: r) p q).isSome) a b ≤ dbl (fun p q => (tab r p q).isSome) a b + cnt (fun p => decide (l.1 = (p : Int))) a
  | 0 => Nat.le_refl _
  | a + 1 => by
    have ih := dbl_add l r b a
    rw [dbl, dbl, cnt]
    by_cases h : l.1 = (a : Int)
    · have h2 : cnt (fun q => (tab (l :: r) a q).isSome) b ≤ cnt (fun q => (tab r a q).isSome) b + cnt (fun q => decide (l.2.1 = (q : Int))) b := by
        refine cnt_add (fun q => ?_) b
        simp only [tab]
        by_cases hq : l.2.1 = (q : Int)
        · rw [if_pos ⟨h, hq⟩]
          have e : one (decide (l.2.1 = (q : Int))) = 1 := by simp [one, hq]
          refine Nat.le_trans (one_le _) ?_
          rw [e]
          omega
        · rw [if_neg (fun e => hq e.2)]
          omega
      have h3 := cnt_at l.2.1 b
      have h4 := one_le (decide (0 ≤ l.2.1 ∧ l.2.1 < b))
      have e : one (decide (l.1 = (a : Int))) = 1 := by simp [one, h]
      omega
    · have h2 : cnt (fun q => (tab (l :: r) a q).isSome) b = cnt (fun q => (tab r a q).isSome) b := cnt_congr b (fun q _ => by simp only [tab]; rw [if_neg (fun e => h e.1)])
      omega
theorem sum_tab (n : Nat) : ∀ L : List Leg, sumLen n (tab L) n ≤ L.length
  | [] => by
    rw [sum_dbl]
    have : ∀ a b, dbl (fun p q => (tab [] p q).isSome) a b = 0 := fun a b => by
      have e : dbl (fun p q => (tab [] p q).isSome) a b = dbl (fun _ _ => false) a b := dbl_congr b a (fun _ _ _ _ => rfl)
      have z : ∀ b, cnt (fun _ => false) b = 0 := fun b => by induction b with | zero => rfl | succ b ih => rw [cnt, ih]; rfl
      rw [e]
      clear e
      induction a with
      | zero => rfl
      | succ a ih => rw [dbl, ih, z]
    rw [this]
    exact Nat.le_refl _
  | l :: r => by
    have ih := sum_tab n r
    rw [sum_dbl] at ih ⊢
    have h := dbl_add l r n n
    have h2 := cnt_at l.1 n
    have h3 := one_le (decide (0 ≤ l.1 ∧ l.1 < n))
    simp only [List.length_cons]
    omega
end Go.Proofs.YtojkdmkeankcgaaGreat.Cn
