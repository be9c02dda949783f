/-
  The contracts again, with letters for the lists that are answered.
-/
import Derived.Test.YtehbdnnehhknmaaAwake
namespace Go.Proofs.Ytehbdnnehhknmaa
open Go.RowKit

section
variable {w : World} {a b : Option Addr} {ca cb n m k : Nat} {xs ys ms : List Int} {me : Int}
theorem add_is (hv : Hid (eachM addF xs ys = (ms, me))) (hk : Hid (ms.length = k)) (ha : IntsAt w a xs) (hb : IntsAt w b ys) (hn : xs.length = n) (hm : ys.length = m) (hl : n ≤ 1000) (hl2 : m ≤ 9223372036854775807) :
    Calls Try.prog 8 #[.slice a n ca, .slice b m cb] w fun e w' => ∃ a' c', e = .returned (.tuple #[.slice a' k c', .int .i64 me]) ∧ IRow w' w.heap.size (.slice a' k c') ms ∧ Below w.heap.size w w' := by
  have := add_any (ca := ca) (cb := cb) ha hb hn hm hl hl2
  rw [hv.out] at this
  simp only [hk.out] at this
  exact this
theorem sub_is (hv : Hid (eachM subF xs ys = (ms, me))) (hk : Hid (ms.length = k)) (ha : IntsAt w a xs) (hb : IntsAt w b ys) (hn : xs.length = n) (hm : ys.length = m) (hl : n ≤ 1000) (hl2 : m ≤ 9223372036854775807) (hf : Fit ys) :
    Calls Try.prog 12 #[.slice a n ca, .slice b m cb] w fun e w' => ∃ a' c', e = .returned (.tuple #[.slice a' k c', .int .i64 me]) ∧ IRow w' w.heap.size (.slice a' k c') ms ∧ Below w.heap.size w w' := by
  have := sub_any (ca := ca) (cb := cb) ha hb hn hm hl hl2 hf
  rw [hv.out] at this
  simp only [hk.out] at this
  exact this
theorem most_is (hv : Hid (eachM mostF xs ys = (ms, me))) (hk : Hid (ms.length = k)) (ha : IntsAt w a xs) (hb : IntsAt w b ys) (hn : xs.length = n) (hm : ys.length = m) (hl : n ≤ 1000) (hl2 : m ≤ 9223372036854775807) :
    Calls Try.prog 13 #[.slice a n ca, .slice b m cb] w fun e w' => ∃ a' c', e = .returned (.tuple #[.slice a' k c', .int .i64 me]) ∧ IRow w' w.heap.size (.slice a' k c') ms ∧ Below w.heap.size w w' := by
  have := most_any (ca := ca) (cb := cb) ha hb hn hm hl hl2
  rw [hv.out] at this
  simp only [hk.out] at this
  exact this
theorem raddL_is (hv : Hid (eachM addF xs ys = (ms, me))) (hk : Hid (ms.length = k)) (ha : IntsAt w a xs) (hb : IntsAt w b ys) (hn : xs.length = n) (hm : ys.length = m) (hl : n ≤ 1000) (hl2 : m ≤ 9223372036854775807) :
    Calls Try.prog 9 #[.slice a n ca, .slice b m cb, .bool false] w fun e w' => ∃ a' c', e = .returned (.tuple #[.slice a' k c', .int .i64 me]) ∧ IRow w' w.heap.size (.slice a' k c') ms ∧ Below w.heap.size w w' := by
  have := raddL_any (ca := ca) (cb := cb) ha hb hn hm hl hl2
  rw [hv.out] at this
  simp only [hk.out] at this
  exact this
theorem rsubL_is (hv : Hid (eachM subF xs ys = (ms, me))) (hk : Hid (ms.length = k)) (ha : IntsAt w a xs) (hb : IntsAt w b ys) (hn : xs.length = n) (hm : ys.length = m) (hl : n ≤ 1000) (hl2 : m ≤ 9223372036854775807) :
    Calls Try.prog 9 #[.slice a n ca, .slice b m cb, .bool true] w fun e w' => ∃ a' c', e = .returned (.tuple #[.slice a' k c', .int .i64 me]) ∧ IRow w' w.heap.size (.slice a' k c') ms ∧ Below w.heap.size w w' := by
  have := rsubL_any (ca := ca) (cb := cb) ha hb hn hm hl hl2
  rw [hv.out] at this
  simp only [hk.out] at this
  exact this
theorem rmostL_is (hv : Hid (eachM mostF xs ys = (ms, me))) (hk : Hid (ms.length = k)) (ha : IntsAt w a xs) (hb : IntsAt w b ys) (hn : xs.length = n) (hm : ys.length = m) (hl : n ≤ 1000) (hl2 : m ≤ 9223372036854775807) :
    Calls Try.prog 14 #[.slice a n ca, .slice b m cb] w fun e w' => ∃ a' c', e = .returned (.tuple #[.slice a' k c', .int .i64 me]) ∧ IRow w' w.heap.size (.slice a' k c') ms ∧ Below w.heap.size w w' := by
  have := rmostL_any (ca := ca) (cb := cb) ha hb hn hm hl hl2
  rw [hv.out] at this
  simp only [hk.out] at this
  exact this
theorem sumError_is (hv : Hid (eachM addF xs ys = (ms, me))) (ha : IntsAt w a xs) (hb : IntsAt w b ys) (hn : xs.length = n) (hm : ys.length = m) (hl : n ≤ 1000) (hl2 : m ≤ 9223372036854775807) :
    Calls Try.prog 10 #[.slice a n ca, .slice b m cb] w fun e w' => e = .returned (.int .i64 me) ∧ Below w.heap.size w w' := by
  have := sumError_any (ca := ca) (cb := cb) ha hb hn hm hl hl2
  rw [hv.out] at this
  exact this
end
/-- A slice that came in, or a row: its numbers in this world. -/
theorem below_on {w0 w w' : World} (h : Below w0.heap.size w0 w) (k : Below w.heap.size w w') : Below w0.heap.size w0 w' := h.trans (k.mono h.size)
/-! The plain facts of the laws. -/
theorem under_self (xs : List Int) : underB xs xs = true := underB_ok rfl fun _ _ => Int.le_refl _
theorem under_trans {xs ys zs : List Int} (h : underB xs ys = true) (k : underB ys zs = true) : underB xs zs = true := by
  rw [underB_iff] at h k ⊢
  exact ⟨h.1.trans k.1, fun i hi => Int.le_trans (h.2 i hi) (k.2 i (by rw [← h.1]; exact hi))⟩
theorem mostM_cases (xs ys : List Int) : (xs.length ≠ ys.length ∧ eachM mostF xs ys = ([], 43)) ∨ (xs.length = ys.length ∧ eachM mostF xs ys = ((List.range xs.length).map (fun i => (mostF xs[i]! ys[i]!).1), 0)) := by
  by_cases h : xs.length = ys.length
  · exact .inr ⟨h, eachM_ok h fun _ _ => rfl⟩
  · exact .inl ⟨h, eachM_ne h⟩
theorem range_get (f : Nat → Int) (n i : Nat) (h : i < n) : ((List.range n).map f)[i]! = f i := by
  rw [getElem!_pos _ i (by simpa using h)]; simp
theorem most_above {xs ys ms : List Int} (h : eachM mostF xs ys = (ms, 0)) : underB xs ms = true ∧ underB ys ms = true := by
  rcases mostM_cases xs ys with ⟨_, e⟩ | ⟨hl, e⟩
  · rw [e] at h; cases h
  · rw [e] at h
    cases h
    have key : ∀ i, i < xs.length → xs[i]! ≤ (mostF xs[i]! ys[i]!).1 ∧ ys[i]! ≤ (mostF xs[i]! ys[i]!).1 := fun i _ => by
      unfold mostF
      split <;> dsimp only <;> omega
    refine ⟨underB_ok (by simp) fun i hi => ?_, underB_ok (by simpa using hl.symm) fun i hi => ?_⟩
    · rw [range_get _ _ _ hi]; exact (key i hi).1
    · rw [range_get _ _ _ (by omega)]; exact (key i (by omega)).2
end Go.Proofs.Ytehbdnnehhknmaa
