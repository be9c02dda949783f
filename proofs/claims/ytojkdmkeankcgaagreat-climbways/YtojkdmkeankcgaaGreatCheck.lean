/-
  What the calls of Check, of the program and of the document, do.
-/
import Derived.Test.YtojkdmkeankcgaaGreatGraph
namespace Go.Proofs.YtojkdmkeankcgaaGreat
open Go.RowKit Go.Sort

/-- An arc: from, to, time, dist. -/
abbrev Arc := Int × Int × Int × Int
def placeOk (n : Int) (a : Arc) : Bool := decide (0 ≤ a.1 ∧ a.1 ≤ n - 1 ∧ 0 ≤ a.2.1 ∧ a.2.1 ≤ n - 1)
def numOk (a : Arc) : Bool := decide (0 ≤ a.2.2.1 ∧ a.2.2.1 ≤ 1000000 ∧ 0 ≤ a.2.2.2 ∧ a.2.2.2 ≤ 1000000)
/-- From arc i on. -/
def checkFrom (n : Int) : Nat → List Arc → Int × Int
  | _, [] => (-1, 0)
  | i, a :: r => if placeOk n a = false then ((i : Int), 44) else if numOk a = false then ((i : Int), 2) else checkFrom n (i + 1) r
def checkM (n : Int) (A : List Arc) : Int × Int := if n < 1 ∨ 32 < n ∨ 256 < A.length then (-1, 2) else checkFrom n 0 A
/-- Arcs in memory. -/
structure ArcsAt (w : World) (a : Option Addr) (m : Nat) (A : List Arc) : Prop where
  len : A.length = m
  max : m ≤ 9223372036854775807
  cell : ∀ k, k < m → ∃ b off, a = some ⟨b, off, none⟩ ∧ w.cell? ⟨b, off + k * 4, none⟩ = some (.int .i64 (A[k]!).1) ∧ w.cell? ⟨b, off + k * 4 + 1, none⟩ = some (.int .i64 (A[k]!).2.1) ∧ w.cell? ⟨b, off + k * 4 + 2, none⟩ = some (.int .i64 (A[k]!).2.2.1) ∧ w.cell? ⟨b, off + k * 4 + 3, none⟩ = some (.int .i64 (A[k]!).2.2.2)
theorem ArcsAt.later {w w' : World} {a : Option Addr} {m B : Nat} {A : List Arc} (h : ArcsAt w a m A) (hB : w.heap.size ≤ B) (f : Below B w w') : ArcsAt w' a m A :=
  ⟨h.len, h.max, fun k hk => by
    obtain ⟨b, off, e, h0, h1, h2, h3⟩ := h.cell k hk
    have hb : b < B := Nat.lt_of_lt_of_le (block_lt_of_cell h0) hB
    exact ⟨b, off, e, (f.cell (p := ⟨b, _, none⟩) hb).trans h0, (f.cell (p := ⟨b, _, none⟩) hb).trans h1, (f.cell (p := ⟨b, _, none⟩) hb).trans h2, (f.cell (p := ⟨b, _, none⟩) hb).trans h3⟩⟩
theorem checkFrom_drop (n : Int) (A : List Arc) (i : Nat) (h : i < A.length) : checkFrom n i (A.drop i) = if placeOk n A[i]! = false then ((i : Int), 44) else if numOk A[i]! = false then ((i : Int), 2) else checkFrom n (i + 1) (A.drop (i + 1)) := by
  rw [List.drop_eq_getElem_cons h, getElem!_pos A i h]
  rfl

theorem place_bad {n x1 x2 x3 x4 : Int} (h : ¬ (0 ≤ x1 ∧ x1 ≤ n - 1 ∧ 0 ≤ x2 ∧ x2 ≤ n - 1)) : placeOk n (x1, x2, x3, x4) = false := decide_eq_false h
theorem place_ok {n x1 x2 x3 x4 : Int} (h : 0 ≤ x1 ∧ x1 ≤ n - 1 ∧ 0 ≤ x2 ∧ x2 ≤ n - 1) : placeOk n (x1, x2, x3, x4) = true := decide_eq_true h
theorem num_bad {x1 x2 x3 x4 : Int} (h : ¬ (0 ≤ x3 ∧ x3 ≤ 1000000 ∧ 0 ≤ x4 ∧ x4 ≤ 1000000)) : numOk (x1, x2, x3, x4) = false := decide_eq_false h
theorem num_ok {x1 x2 x3 x4 : Int} (h : 0 ≤ x3 ∧ x3 ≤ 1000000 ∧ 0 ≤ x4 ∧ x4 ≤ 1000000) : numOk (x1, x2, x3, x4) = true := decide_eq_true h
theorem within_any (a b : Int) (w : World) : Calls Tryz.prog 81 #[.int .i64 a, .int .i64 b] w fun e w' => e = .returned (.func (.func 97) #[] #[.pointer (some ⟨w.heap.size, 0, none⟩), .pointer (some ⟨w.heap.size + 1, 0, none⟩)]) ∧ w' = (w.alloc (.cells #[.int .i64 a] 3)).alloc (.cells #[.int .i64 b] 3) := by
  go_enter Tryz.func81, Tryz.ntmps81
  go_wp2
  go_ret
  exact ⟨rfl, rfl⟩
theorem in_any (a b x : Int) (p q : Nat) (w : World) (h1 : w.cell? ⟨p, 0, none⟩ = some (.int .i64 a)) (h2 : w.cell? ⟨q, 0, none⟩ = some (.int .i64 b)) :
    Calls Tryz.prog 97 #[.int .i64 x, .pointer (some ⟨p, 0, none⟩), .pointer (some ⟨q, 0, none⟩)] w fun e w' => e = .returned (.bool (decide (a ≤ x ∧ x ≤ b))) ∧ w' = w := by
  by_cases h : a ≤ x
  · by_cases k : x ≤ b
    · rw [decide_eq_true (⟨h, k⟩ : a ≤ x ∧ x ≤ b)]
      go_enter Tryz.func97, Tryz.ntmps97
      go_wp2
      go_ret
      exact ⟨rfl, rfl⟩
    · rw [decide_eq_false (fun e : a ≤ x ∧ x ≤ b => k e.2)]
      go_enter Tryz.func97, Tryz.ntmps97
      go_wp2
      go_ret
      exact ⟨rfl, rfl⟩
  · rw [decide_eq_false (fun e : a ≤ x ∧ x ≤ b => h e.1)]
    go_enter Tryz.func97, Tryz.ntmps97
    go_wp2
    go_ret
    exact ⟨rfl, rfl⟩

end Go.Proofs.YtojkdmkeankcgaaGreat
