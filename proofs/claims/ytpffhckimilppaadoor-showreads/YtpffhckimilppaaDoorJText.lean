/-
  Plain mathematics for the laws of layer 1 (num): the texts of numbers as lists of bytes, and what reading them answers; no program in it.
-/
import Derived.Test.YtpffhckimilppaaDoorJPlain
namespace Go.Proofs.YtpffhckimilppaaDoor.Js
/-- Is the byte a digit? -/
def digB (c : UInt8) : Bool := decide (48 ≤ (c.toNat : Int) ∧ (c.toNat : Int) ≤ 57)
/-- The number that digits tell. -/
def valN (l : List UInt8) : Nat := l.foldl (fun n c => 10 * n + (c.toNat - 48)) 0
/-- Digits alone, one at least, no zero ahead of another one. -/
def plainB (l : List UInt8) : Bool := !l.isEmpty && !(decide (1 < l.length) && l.head? == some 48) && l.all digB
def cntV (l : List UInt8) : Int := bif decide (valN l ≤ 4611686018427387903) then (valN l : Int) else 0
def cntE (l : List UInt8) : Int := bif decide (valN l ≤ 4611686018427387903) then 0 else 10
/-- Does a sign stand ahead? -/
def belowB (l : List UInt8) : Bool := l.head? == some 45
def digitsL (l : List UInt8) : List UInt8 := bif belowB l then l.drop 1 else l
def parOk (l : List UInt8) : Bool := plainB (digitsL l) && !(belowB l && digitsL l == [48])
def parV (l : List UInt8) : Int := bif parOk l then (bif belowB l then -cntV (digitsL l) else cntV (digitsL l)) else 0
def parE (l : List UInt8) : Int := bif parOk l then cntE (digitsL l) else 11

theorem foldl_ge (t : List UInt8) : ∀ n : Nat, n ≤ t.foldl (fun n c => 10 * n + (c.toNat - 48)) n := by
  induction t with
  | nil => intro n; simp
  | cons c t ih => intro n; have := ih (10 * n + (c.toNat - 48)); simp only [List.foldl_cons]; omega
theorem valN_append (a b : List UInt8) : valN (a ++ b) = b.foldl (fun n c => 10 * n + (c.toNat - 48)) (valN a) := by
  unfold valN; rw [List.foldl_append]
theorem valN_snoc (l : List UInt8) (c : UInt8) : valN (l ++ [c]) = 10 * valN l + (c.toNat - 48) := by
  rw [valN_append]; rfl
theorem valN_take_le (l : List UInt8) (k : Nat) : valN (l.take k) ≤ valN l := by
  have h := foldl_ge (l.drop k) (valN (l.take k))
  rw [← valN_append, List.take_append_drop] at h
  exact h
theorem foldl_lead (t : List UInt8) : ∀ n : Nat, n * 10 ^ t.length ≤ t.foldl (fun n c => 10 * n + (c.toNat - 48)) n := by
  induction t with
  | nil => intro n; simp
  | cons c t ih =>
    intro n
    have := ih (10 * n + (c.toNat - 48))
    simp only [List.foldl_cons, List.length_cons]
    refine Nat.le_trans ?_ this
    rw [Nat.pow_succ, ← Nat.mul_assoc, Nat.mul_right_comm]
    exact Nat.mul_le_mul_right _ (by omega)
theorem foldl_lt (t : List UInt8) (h : t.all digB = true) : ∀ n : Nat, t.foldl (fun n c => 10 * n + (c.toNat - 48)) n < (n + 1) * 10 ^ t.length := by
  induction t with
  | nil => intro n; simp
  | cons c t ih =>
    intro n
    simp only [List.all_cons, Bool.and_eq_true] at h
    have := ih h.2 (10 * n + (c.toNat - 48))
    simp only [List.foldl_cons, List.length_cons]
    refine Nat.lt_of_lt_of_le this ?_
    rw [Nat.pow_succ, ← Nat.mul_assoc, Nat.mul_right_comm]
    refine Nat.mul_le_mul_right _ ?_
    have hd := h.1
    simp only [digB, decide_eq_true_eq] at hd
    omega
theorem valN_lt (t : List UInt8) (h : t.all digB = true) : valN t < 10 ^ t.length := by
  have := foldl_lt t h 0
  simpa [valN] using this
theorem valN_lead (c : UInt8) (t : List UInt8) (h : digB c = true) (hc : c ≠ 48) : 10 ^ t.length ≤ valN (c :: t) := by
  have := foldl_lead t (10 * 0 + (c.toNat - 48))
  simp only [digB, decide_eq_true_eq] at h
  have hn : c.toNat ≠ 48 := fun e => hc (UInt8.toNat_inj.1 e)
  have h1 : 1 ≤ 10 * 0 + (c.toNat - 48) := by omega
  refine Nat.le_trans ?_ this
  calc 10 ^ t.length = 1 * 10 ^ t.length := by simp
    _ ≤ _ := Nat.mul_le_mul_right _ h1

theorem take_snoc (s : ByteArray) (k : Nat) (h : k < s.size) : s.data.toList.take (k + 1) = s.data.toList.take k ++ [s[k]] := by
  rw [List.take_succ_eq_append_getElem (by simpa using h)]; rfl
theorem all_snoc (s : ByteArray) (k : Nat) (h : k < s.size) : (s.data.toList.take (k + 1)).all digB = ((s.data.toList.take k).all digB && digB s[k]) := by
  rw [take_snoc s k h]; simp
theorem all_no (s : ByteArray) (k : Nat) (h : k < s.size) (hd : digB s[k] = false) : s.data.toList.all digB = false := by
  rw [List.all_eq_false]
  refine ⟨s[k], ?_, by simp [hd]⟩
  have : s[k] = s.data.toList[k]'(by simpa using h) := rfl
  rw [this]; exact List.getElem_mem _
theorem all_full (s : ByteArray) (k : Nat) (h : s.size ≤ k) (ha : (s.data.toList.take k).all digB = true) : s.data.toList.all digB = true := by
  rwa [List.take_of_length_le (by simpa using h)] at ha
theorem all_at (s : ByteArray) (k : Nat) (h : k < s.size) (ha : s.data.toList.all digB = true) : 48 ≤ (s[k].toNat : Int) ∧ (s[k].toNat : Int) ≤ 57 := by
  have hm : s[k] ∈ s.data.toList := by
    have : s[k] = s.data.toList[k]'(by simpa using h) := rfl
    rw [this]; exact List.getElem_mem _
  have := List.all_eq_true.1 ha _ hm
  simpa [digB] using this

end Go.Proofs.YtpffhckimilppaaDoor.Js