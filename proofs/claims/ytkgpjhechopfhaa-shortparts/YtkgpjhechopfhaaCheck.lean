/-
  What the calls of Check, of the program and of the document, do.
-/
import Derived.Test.YtkgpjhechopfhaaGraph
namespace Go.Proofs.Ytkgpjhechopfhaa
open Go.RowKit Go.Sort

/-- An arc: from, to, time, dist. -/
abbrev Arc := Int × Int × Int × Int
def placeOk (n : Int) (a : Arc) : Bool := decide (0 ≤ a.1 ∧ a.1 ≤ n - 1 ∧ 0 ≤ a.2.1 ∧ a.2.1 ≤ n - 1)
def numOk (a : Arc) : Bool := decide (0 ≤ a.2.2.1 ∧ a.2.2.1 ≤ 1000000 ∧ 0 ≤ a.2.2.2 ∧ a.2.2.2 ≤ 1000000)
/-- From arc i on. -/
def checkFrom (n : Int) : Nat → List Arc → Int × Int
  | _, [] => (-1, 0)
  | i, a :: r => if placeOk n a = false then ((i : Int), 44) else if numOk a = false then ((i : Int), 2) else checkFrom n (i + 1) r
def checkM (n : Int) (A : List Arc) : Int × Int := if n < 1 ∨ 32 < n ∨ 256 < A.length then (-1, 2) else checkFrom n 0 A
/-- Arcs in memory. -/
structure ArcsAt (w : World) (a : Option Addr) (m : Nat) (A : List Arc) : Prop where
  len : A.length = m
  max : m ≤ 9223372036854775807
  cell : ∀ k, k < m → ∃ b off, a = some ⟨b, off, none⟩ ∧ w.cell? ⟨b, off + k * 4, none⟩ = some (.int .i64 (A[k]!).1) ∧ w.cell? ⟨b, off + k * 4 + 1, none⟩ = some (.int .i64 (A[k]!).2.1) ∧ w.cell? ⟨b, off + k * 4 + 2, none⟩ = some (.int .i64 (A[k]!).2.2.1) ∧ w.cell? ⟨b, off + k * 4 + 3, none⟩ = some (.int .i64 (A[k]!).2.2.2)
theorem ArcsAt.later {w w' : World} {a : Option Addr} {m B : Nat} {A : List Arc} (h : ArcsAt w a m A) (hB : w.heap.size ≤ B) (f : Below B w w') : ArcsAt w' a m A :=
  ⟨h.len, h.max, fun k hk => by
    obtain ⟨b, off, e, h0, h1, h2, h3⟩ := h.cell k hk
    have hb : b < B := Nat.lt_of_lt_of_le (block_lt_of_cell h0) hB
    exact ⟨b, off, e, (f.cell (p := ⟨b, _, none⟩) hb).trans h0, (f.cell (p := ⟨b, _, none⟩) hb).trans h1, (f.cell (p := ⟨b, _, none⟩) hb).trans h2, (f.cell (p := ⟨b, _, none⟩) hb).trans h3⟩⟩
theorem checkFrom_drop (n : Int) (A : List Arc) (i : Nat) (h : i < A.length) : checkFrom n i (A.drop i) = if placeOk n A[i]! = false then ((i : Int), 44) else if numOk A[i]! = false then ((i : Int), 2) else checkFrom n (i + 1) (A.drop (i + 1)) := by
  rw [List.drop_eq_getElem_cons h, getElem!_pos A i h]
  rfl

theorem place_bad {n x1 x2 x3 x4 : Int} (h : ¬ (0 ≤ x1 ∧ x1 ≤ n - 1 ∧ 0 ≤ x2 ∧ x2 ≤ n - 1)) : placeOk n (x1, x2, x3, x4) = false := decide_eq_false h
theorem place_ok {n x1 x2 x3 x4 : Int} (h : 0 ≤ x1 ∧ x1 ≤ n - 1 ∧ 0 ≤ x2 ∧ x2 ≤ n - 1) : placeOk n (x1, x2, x3, x4) = true := decide_eq_true h
theorem num_bad {x1 x2 x3 x4 : Int} (h : ¬ (0 ≤ x3 ∧ x3 ≤ 1000000 ∧ 0 ≤ x4 ∧ x4 ≤ 1000000)) : numOk (x1, x2, x3, x4) = false := decide_eq_false h
theorem num_ok {x1 x2 x3 x4 : Int} (h : 0 ≤ x3 ∧ x3 ≤ 1000000 ∧ 0 ≤ x4 ∧ x4 ≤ 1000000) : numOk (x1, x2, x3, x4) = true := decide_eq_true h
theorem within_any (a b : Int) (w : World) : Calls Try.prog 39 #[.int .i64 a, .int .i64 b] w fun e w' => e = .returned (.func (.func 52) #[] #[.pointer (some ⟨w.heap.size, 0, none⟩), .pointer (some ⟨w.heap.size + 1, 0, none⟩)]) ∧ w' = (w.alloc (.cells #[.int .i64 a] 3)).alloc (.cells #[.int .i64 b] 3) := by
  go_enter Try.func39, Try.ntmps39
  go_wp2
  go_ret
  exact ⟨rfl, rfl⟩
theorem in_any (a b x : Int) (p q : Nat) (w : World) (h1 : w.cell? ⟨p, 0, none⟩ = some (.int .i64 a)) (h2 : w.cell? ⟨q, 0, none⟩ = some (.int .i64 b)) :
    Calls Try.prog 52 #[.int .i64 x, .pointer (some ⟨p, 0, none⟩), .pointer (some ⟨q, 0, none⟩)] w fun e w' => e = .returned (.bool (decide (a ≤ x ∧ x ≤ b))) ∧ w' = w := by
  by_cases h : a ≤ x
  · by_cases k : x ≤ b
    · rw [decide_eq_true (⟨h, k⟩ : a ≤ x ∧ x ≤ b)]
      go_enter Try.func52, Try.ntmps52
      go_wp2
      go_ret
      exact ⟨rfl, rfl⟩
    · rw [decide_eq_false (fun e : a ≤ x ∧ x ≤ b => k e.2)]
      go_enter Try.func52, Try.ntmps52
      go_wp2
      go_ret
      exact ⟨rfl, rfl⟩
  · rw [decide_eq_false (fun e : a ≤ x ∧ x ≤ b => h e.1)]
    go_enter Try.func52, Try.ntmps52
    go_wp2
    go_ret
    exact ⟨rfl, rfl⟩

set_option maxRecDepth 100000 in
set_option maxHeartbeats 3200000 in
/-- The document's Check. -/
theorem rcheck_any (n : Int) (a : Option Addr) (m c : Nat) (A : List Arc) (w : World) (h : ArcsAt w a m A) :
    Calls Try.prog 18 #[.agg #[.int .i64 n, .slice a m c]] w fun e w' => e = .returned (.tuple #[.int .i64 (checkM n A).1, .int .i64 (checkM n A).2]) ∧ Below w.heap.size w w' := by
  have HA := hide h
  have hlm := h.len
  have hmm := h.max
  clear h
  unfold checkM
  by_cases h1 : n < 1
  · rw [if_pos (.inl h1)]
    go_enter Try.func18, Try.ntmps18
    go_wp2
    go_ret2
    exact ⟨rfl, (Below.refl _ _).alloc (Nat.le_refl _) _⟩
  · by_cases h2 : 32 < n
    · rw [if_pos (.inr (.inl h2))]
      go_enter Try.func18, Try.ntmps18
      go_wp2
      go_ret2
      exact ⟨rfl, (Below.refl _ _).alloc (Nat.le_refl _) _⟩
    · by_cases h3 : 256 < A.length
      · rw [if_pos (.inr (.inr h3))]
        have h3' : (256 : Int) < (m : Int) := by omega
        go_enter Try.func18, Try.ntmps18
        go_wp2
        go_ret2
        exact ⟨rfl, (Below.refl _ _).alloc (Nat.le_refl _) _⟩
      · rw [if_neg (by omega)]
        have h3' : ¬ (256 : Int) < (m : Int) := by omega
        obtain ⟨B, hB⟩ : ∃ B, w.heap.size = B := ⟨_, rfl⟩
        have HB := hide hB
        rw [hB]
        clear hB
        go_enter Try.func18, Try.ntmps18
        go_wp2
        have hB := HB.out
        have HW0 : Hid (Below B w (w.alloc (.cells #[.int .i64 n, .slice a m c] 24))) := by have := (Below.refl w.heap.size w).alloc (Nat.le_refl _) (.cells #[.int .i64 n, .slice a m c] 24); rw [hB] at this; exact this
        have HA0 : Hid (ArcsAt (w.alloc (.cells #[.int .i64 n, .slice a m c] 24)) a m A) := HA.out.later (by rw [hB]; exact Nat.le_refl _) HW0.out
        have HN0 : Hid ((w.alloc (.cells #[.int .i64 n, .slice a m c] 24)).heap[B]? = some (.cells #[.int .i64 n, .slice a m c] 24 (0, 0))) := by have := heap_alloc_new w (.cells #[.int .i64 n, .slice a m c] 24); rw [hB] at this; exact this
        have HS0 : Hid ((w.alloc (.cells #[.int .i64 n, .slice a m c] 24)).heap.size = B + 1) := by show _ = _; rw [← hB]; simp
        try rw [hB]
        clear hB HA
        generalize w.alloc (.cells #[.int .i64 n, .slice a m c] 24) = W0 at HW0 HA0 HN0 HS0 ⊢
        go_loopw [4] (fun vi wr => ∃ k : Nat, vi = .int .i64 k ∧ k ≤ m ∧ Hid (Below (B + 1) W0 wr ∧ checkFrom n 0 A = checkFrom n k (A.drop k))) (fun vi _ => m - (intOf vi).toNat)
        case atStart => exact ⟨0, rfl, Nat.zero_le _, Below.refl _ _, by rw [List.drop_zero]⟩
        case round =>
          obtain ⟨k, rfl, hk, HR⟩ := hrel
          have hN : wr.heap[B]? = some (.cells #[.int .i64 n, .slice a m c] 24 (0, 0)) := (HR.out.1.block B (by omega)).trans HN0.out
          have r0 := cell_of_row wr B 0 _ _ _ hN
          have r1 := cell_of_row wr B 1 _ _ _ hN
          simp only [List.getElem?_toArray, List.getElem?_cons_succ, List.getElem?_cons_zero] at r0 r1
          have hBr : B + 1 ≤ wr.heap.size := by rw [← HS0.out]; exact HR.out.1.size
          have HE : Hid (∀ o, Below B w (wr.alloc o)) := fun o => (HW0.out.trans (HR.out.1.mono (by omega))).alloc (by omega) o
          have HE0 : Hid (Below B w wr) := HW0.out.trans (HR.out.1.mono (by omega))
          clear hN
          by_cases hlt : k < m
          · obtain ⟨b, off, rfl, c0, c1, c2, c3⟩ := (HA0.out.later (by rw [HS0.out]; exact Nat.le_refl _) HR.out.1).cell k hlt
            have HC := hide (HR.out.2.trans (checkFrom_drop n A k (by omega)))
            obtain ⟨x, hx⟩ : ∃ x, A[k]! = x := ⟨_, rfl⟩
            rw [hx] at c0 c1 c2 c3 HC
            obtain ⟨x1, x2, x3, x4⟩ := x
            simp only at c0 c1 c2 c3
            have hoff : ∀ j, wr.cell? ⟨b, off + k * 4 + j, none⟩ = wr.cell? ⟨b, off + k * 4 + j, none⟩ := fun _ => rfl
            clear hx hoff
            have i1 : (k : Int) < (m : Int) := by omega
            have r0a : (wr.alloc (.cells #[.int .i64 x1, .int .i64 x2, .int .i64 x3, .int .i64 x4] 48)).cell? ⟨B, 0, none⟩ = some (.int .i64 n) := by rw [World.cell?_alloc_lt _ _ _ (by show B < _; omega)]; exact r0
            by_cases p1 : x1 < 0
            · have e : checkFrom n 0 A = ((k : Int), 44) := by rw [HC.out, if_pos (place_bad (by omega))]
              replace e := hide e
              go_wp2
              go_ret2
              exact ⟨by rw [e.out]; rfl, HE.out _⟩
            · by_cases p2 : x2 < 0
              · have e : checkFrom n 0 A = ((k : Int), 44) := by rw [HC.out, if_pos (place_bad (by omega))]
                replace e := hide e
                go_wp2
                go_ret2
                exact ⟨by rw [e.out]; rfl, HE.out _⟩
              · by_cases p3 : n ≤ x1
                · have e : checkFrom n 0 A = ((k : Int), 44) := by rw [HC.out, if_pos (place_bad (by omega))]
                  replace e := hide e
                  go_wp2
                  go_ret2
                  exact ⟨by rw [e.out]; rfl, HE.out _⟩
                · by_cases p4 : n ≤ x2
                  · have e : checkFrom n 0 A = ((k : Int), 44) := by rw [HC.out, if_pos (place_bad (by omega))]
                    replace e := hide e
                    go_wp2
                    go_ret2
                    exact ⟨by rw [e.out]; rfl, HE.out _⟩
                  · have hP : placeOk n (x1, x2, x3, x4) = true := place_ok (by omega)
                    have HC2 := HC.out
                    rw [if_neg (by rw [hP]; simp)] at HC2
                    replace HC2 := hide HC2
                    clear HC
                    replace hP := hide hP
                    by_cases p5 : x3 < 0
                    · have e : checkFrom n 0 A = ((k : Int), 2) := by rw [HC2.out, if_pos (num_bad (by omega))]
                      replace e := hide e
                      go_wp2
                      go_ret2
                      exact ⟨by rw [e.out]; rfl, HE.out _⟩
                    · by_cases p6 : x4 < 0
                      · have e : checkFrom n 0 A = ((k : Int), 2) := by rw [HC2.out, if_pos (num_bad (by omega))]
                        replace e := hide e
                        go_wp2
                        go_ret2
                        exact ⟨by rw [e.out]; rfl, HE.out _⟩
                      · by_cases p7 : 1000000 < x3
                        · have e : checkFrom n 0 A = ((k : Int), 2) := by rw [HC2.out, if_pos (num_bad (by omega))]
                          replace e := hide e
                          go_wp2
                          go_ret2
                          exact ⟨by rw [e.out]; rfl, HE.out _⟩
                        · by_cases p8 : 1000000 < x4
                          · have e : checkFrom n 0 A = ((k : Int), 2) := by rw [HC2.out, if_pos (num_bad (by omega))]
                            replace e := hide e
                            go_wp2
                            go_ret2
                            exact ⟨by rw [e.out]; rfl, HE.out _⟩
                          · have e : Hid (checkFrom n 0 A = checkFrom n (k + 1) (A.drop (k + 1))) := by
                              show _ = _
                              rw [HC2.out, if_neg (by rw [show numOk (x1, x2, x3, x4) = true from num_ok (by omega)]; simp)]
                            go_wp2
                            go_roundw
                            case rel => exact ⟨k + 1, by go_num, by omega, HR.out.1.alloc (by omega) _, e.out⟩
                            case measure => simp [intOf]; omega
          · have : k = m := by omega
            subst this
            have e : checkFrom n 0 A = (-1, 0) := by rw [HR.out.2, List.drop_eq_nil_of_le (by omega)]; rfl
            replace e := hide e
            go_wp2
            go_ret2
            exact ⟨by rw [e.out]; rfl, HE0.out⟩
end Go.Proofs.Ytkgpjhechopfhaa
