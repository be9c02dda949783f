/-
  Plain mathematics for the laws of layer 1 (num): the sum of a list from the left, up to the first that doesn't fit; no program in it.
-/
import Derived.Test.YtafhahgfodlohaaDoorPlain
namespace Go.Proofs.YtafhahgfodlohaaDoor

/-- One number more, unless there was a fault. -/
def sumStep (p : Int × Int) (a : Int) : Int × Int := bif p.2 == 0 then (addV p.1 a, addE p.1 a) else p
/-- The sum so far and its error. -/
def sumL (zs : List Int) : Int × Int := zs.foldl sumStep (0, 0)
theorem sumL_nil : sumL [] = (0, 0) := rfl
theorem sumL_snoc (zs : List Int) (a : Int) : sumL (zs ++ [a]) = sumStep (sumL zs) a := by
  unfold sumL; rw [List.foldl_append]; rfl
theorem foldl_stuck (t : List Int) (p : Int × Int) (h : ¬ p.2 = 0) : t.foldl sumStep p = p := by
  induction t with
  | nil => rfl
  | cons a t ih =>
    have hb : (p.2 == 0) = false := by rw [beq_eq_false_iff_ne]; exact h
    have : sumStep p a = p := by rw [sumStep, hb]; rfl
    rw [List.foldl_cons, this, ih]
theorem sumL_stuck (zs : List Int) (k : Nat) (h : ¬ (sumL (zs.take k)).2 = 0) : sumL zs = sumL (zs.take k) := by
  have e : sumL zs = (zs.drop k).foldl sumStep (sumL (zs.take k)) := by
    conv => lhs; rw [← List.take_append_drop k zs]
    unfold sumL; rw [List.foldl_append]
  rw [e, foldl_stuck _ _ h]
theorem sumL_succ (zs : List Int) (k : Nat) (h : k < zs.length) (h0 : (sumL (zs.take k)).2 = 0) :
    sumL (zs.take (k + 1)) = (addV (sumL (zs.take k)).1 (zs.getD k 0), addE (sumL (zs.take k)).1 (zs.getD k 0)) := by
  rw [List.take_succ_eq_append_getElem h, sumL_snoc]
  have hb : ((sumL (zs.take k)).2 == 0) = true := by rw [beq_iff_eq]; exact h0
  rw [sumStep, hb]
  simp [List.getD, h]
theorem addE_cases (a b : Int) : addE a b = 0 ∨ addE a b = 10 ∧ addV a b = 0 := by
  unfold addE addV
  cases addOk a b <;> simp

end Go.Proofs.YtafhahgfodlohaaDoor
