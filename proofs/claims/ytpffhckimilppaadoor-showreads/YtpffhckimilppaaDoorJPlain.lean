/-
  Plain mathematics for the laws of layer 1 (num): numbers within the limit, sums and products that fit, as functions of integers; no program in it.
-/
namespace Go.Proofs.YtpffhckimilppaaDoor.Js
/-- Is the number within the limit? -/
def fitsB (a : Int) : Bool := decide (-4611686018427387903 ≤ a ∧ a ≤ 4611686018427387903)
/-- The sum and its error. -/
def addOk (a b : Int) : Bool := fitsB a && fitsB b && fitsB (a + b)
def addV (a b : Int) : Int := bif addOk a b then a + b else 0
def addE (a b : Int) : Int := bif addOk a b then 0 else 10
/-- The product and its error. -/
def mulOk (a b : Int) : Bool := fitsB a && fitsB b && fitsB (a * b)
def mulV (a b : Int) : Int := bif mulOk a b then a * b else 0
def mulE (a b : Int) : Int := bif mulOk a b then 0 else 10

theorem fitsB_iff (a : Int) : fitsB a = true ↔ -4611686018427387903 ≤ a ∧ a ≤ 4611686018427387903 := by simp [fitsB]
theorem fitsB_false (a : Int) : fitsB a = false ↔ a < -4611686018427387903 ∨ 4611686018427387903 < a := by
  simp [fitsB]; omega

/-- A number without its sign. -/
def absI (a : Int) : Int := bif decide (a < 0) then -a else a
theorem absI_neg {a : Int} (h : a < 0) : absI a = -a := by simp [absI, h]
theorem absI_pos {a : Int} (h : ¬ a < 0) : absI a = a := by simp [absI, h]
theorem absI_nat (a : Int) : absI a = (a.natAbs : Int) := by
  by_cases h : a < 0
  · rw [absI_neg h]; omega
  · rw [absI_pos h]; omega

/-- The limit, divided: the product fits just if the second is no greater than that. -/
theorem mul_fits (a b : Int) (h0 : a ≠ 0) : fitsB (a * b) = !decide (4611686018427387903 / absI a < absI b) := by
  rw [absI_nat, absI_nat]
  have hp : 0 < (a.natAbs : Int) := by omega
  have hab : ((a * b).natAbs : Int) = (b.natAbs : Int) * (a.natAbs : Int) := by
    rw [Int.natAbs_mul, Int.natCast_mul, Int.mul_comm]
  have hq := Int.le_ediv_iff_mul_le (a := (b.natAbs : Int)) (b := 4611686018427387903) hp
  rw [← hab] at hq
  generalize a * b = c at *
  generalize (4611686018427387903 : Int) / (a.natAbs : Int) = q at *
  rw [Bool.eq_iff_iff, fitsB_iff]
  simp only [Bool.not_eq_true', decide_eq_false_iff_not]
  omega

theorem div_bd (a : Int) (h : 0 < a) : 0 ≤ 4611686018427387903 / a ∧ 4611686018427387903 / a ≤ 4611686018427387903 :=
  ⟨Int.ediv_nonneg (by omega) (by omega), Int.ediv_le_self _ (by omega)⟩

end Go.Proofs.YtpffhckimilppaaDoor.Js