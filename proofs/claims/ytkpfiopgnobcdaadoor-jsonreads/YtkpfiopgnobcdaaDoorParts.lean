/-
  Plain mathematics for the laws of layer 1 (num): what reading a text answers, by the ways of the document's answer; no program in it.
-/
import Derived.Test.YtkpfiopgnobcdaaDoorText
namespace Go.Proofs.YtkpfiopgnobcdaaDoor

theorem par_empty (l : List UInt8) (h : digitsL l = []) : parV l = 0 ∧ parE l = 11 := by
  have : parOk l = false := by simp [parOk, h, plainB]
  simp [parV, parE, this]
theorem par_nodigit (l : List UInt8) (h : (digitsL l).all digB = false) : parV l = 0 ∧ parE l = 11 := by
  have : parOk l = false := by simp [parOk, h, plainB]
  simp [parV, parE, this]
theorem par_zero (l : List UInt8) (h : (digitsL l).head? = some 48) (hn : l ≠ [48]) : parV l = 0 ∧ parE l = 11 := by
  have : parOk l = false := by
    by_cases hl : 1 < (digitsL l).length
    · simp [parOk, plainB, h, hl]
    · have hd : digitsL l = [48] := by
        cases hD : digitsL l with
        | nil => rw [hD] at h; simp at h
        | cons c t =>
          rw [hD] at h hl
          simp only [List.head?_cons, Option.some.injEq] at h
          simp only [List.length_cons] at hl
          rw [h, List.length_eq_zero_iff.1 (show t.length = 0 by omega)]
      have hb : belowB l = true := by
        cases hb : belowB l
        · rw [digitsL, hb] at hd; exact absurd hd hn
        · rfl
      simp [parOk, hd, hb]
  simp [parV, parE, this]
theorem par_ok (l : List UInt8) (h0 : digitsL l ≠ []) (ha : (digitsL l).all digB = true) (hz : (digitsL l).head? = some 48 → l = [48]) : parOk l = true := by
  by_cases h : (digitsL l).head? = some 48
  · obtain rfl := hz h
    decide
  · have he : (digitsL l).isEmpty = false := by simpa using h0
    have hn : (digitsL l == [48]) = false := by
      rw [beq_eq_false_iff_ne]; intro e; rw [e] at h; exact h rfl
    have hh : ((digitsL l).head? == some 48) = false := by rw [beq_eq_false_iff_ne]; exact h
    simp [parOk, plainB, he, ha, hn, hh]
theorem par_big (l : List UInt8) (hk : parOk l = true) (hv : ¬ valN (digitsL l) ≤ 4611686018427387903) : parV l = 0 ∧ parE l = 10 := by
  have h1 : cntV (digitsL l) = 0 := by simp [cntV, hv]
  have h2 : cntE (digitsL l) = 10 := by simp [cntE, hv]
  simp [parV, parE, hk, h1, h2]
theorem par_fit (l : List UInt8) (hk : parOk l = true) (hv : valN (digitsL l) ≤ 4611686018427387903) : parV l = (bif belowB l then -(valN (digitsL l) : Int) else (valN (digitsL l) : Int)) ∧ parE l = 0 := by
  have h1 : cntV (digitsL l) = (valN (digitsL l) : Int) := by simp [cntV, hv]
  have h2 : cntE (digitsL l) = 0 := by simp [cntE, hv]
  simp [parV, parE, hk, h1, h2]
theorem par_long (l : List UInt8) (h0 : digitsL l ≠ []) (ha : (digitsL l).all digB = true) (hz : (digitsL l).head? = some 48 → l = [48]) (hl : 19 < (digitsL l).length) : parV l = 0 ∧ parE l = 10 := by
  refine par_big l (par_ok l h0 ha hz) ?_
  have hh : (digitsL l).head? ≠ some 48 := by
    intro e
    have := hz e
    rw [this] at hl
    exact absurd hl (by decide)
  cases hD : digitsL l with
  | nil => exact absurd hD h0
  | cons c t =>
    rw [hD] at hl ha hh
    simp only [List.all_cons, Bool.and_eq_true] at ha
    simp only [List.head?_cons, ne_eq, Option.some.injEq] at hh
    have hle := valN_lead c t ha.1 hh
    have h19 : 10 ^ 19 ≤ 10 ^ t.length := Nat.pow_le_pow_right (by omega) (by simp only [List.length_cons] at hl; omega)
    have : (10 : Nat) ^ 19 = 10000000000000000000 := by decide
    omega

theorem seg_snoc (s : ByteArray) (F k : Nat) (h1 : F ≤ k) (h : k < s.size) : (s.data.toList.take (k + 1)).drop F = (s.data.toList.take k).drop F ++ [s[k]] := by
  have hl : s.data.toList.length = s.size := rfl
  rw [take_snoc s k h, List.drop_append_of_le_length (by rw [List.length_take]; omega)]
theorem seg_full (s : ByteArray) (F k : Nat) (h : s.size ≤ k) : (s.data.toList.take k).drop F = s.data.toList.drop F := by
  rw [List.take_of_length_le (by simpa using h)]
theorem seg_no (s : ByteArray) (F k : Nat) (h1 : F ≤ k) (h : k < s.size) (hd : digB s[k] = false) : (s.data.toList.drop F).all digB = false := by
  rw [List.all_eq_false]
  refine ⟨s[k], ?_, by simp [hd]⟩
  have hl : s.data.toList.length = s.size := rfl
  have e : s[k] = (s.data.toList.drop F)[k - F]'(by rw [List.length_drop]; omega) := by
    rw [List.getElem_drop]
    have : F + (k - F) = k := by omega
    simp only [this]; rfl
  rw [e]; exact List.getElem_mem _
theorem seg_at (s : ByteArray) (F k : Nat) (h1 : F ≤ k) (h : k < s.size) (ha : (s.data.toList.drop F).all digB = true) : 48 ≤ (s[k].toNat : Int) ∧ (s[k].toNat : Int) ≤ 57 := by
  cases hd : digB s[k]
  · rw [seg_no s F k h1 h hd] at ha; simp at ha
  · simpa [digB] using hd
theorem seg_lt (s : ByteArray) (F k : Nat) (ha : (s.data.toList.drop F).all digB = true) : valN ((s.data.toList.take k).drop F) < 10 ^ ((s.data.toList.take k).drop F).length := by
  refine valN_lt _ ?_
  rw [List.drop_take]
  rw [List.all_eq_true] at ha ⊢
  intro x hx
  exact ha x (List.mem_of_mem_take hx)

end Go.Proofs.YtkpfiopgnobcdaaDoor
