/-
  What show.Same and the law ShowSame do.
-/
import Derived.Test.YtpffhckimilppaaDoorPrintsL
namespace Go.Proofs.YtpffhckimilppaaDoor
open Go.RowKit
set_option maxRecDepth 100000
def sameB (A B : List VI) : Bool := decide (checkE A = 0) && decide (checkE B = 0) && decide (textM A = textM B)
theorem str_ne {l m : List UInt8} (h : l ≠ m) : ((⟨l.toArray⟩ : ByteArray) == ⟨m.toArray⟩) = false := by
  show (l.toArray == m.toArray) = false
  rw [beq_eq_false_iff_ne]
  intro e
  exact h (by simpa using e)
set_option maxHeartbeats 400000 in
theorem equal_any {w : World} {x y : Value} {b1 b2 : Nat} {l m : List UInt8} (hx : BRow w b1 x l) (hy : BRow w b2 y m) :
    Calls Tryd.prog 32 #[x, y] w fun e w' => e = .returned (.bool (decide (l = m))) ∧ w' = w := by
  have g1 := conv_own hx
  have g2 := conv_own hy
  clear hx hy
  by_cases h : l = m
  · subst h
    go_enter Tryd.func32, Tryd.ntmps32
    go_wp2
    go_ret
    exact ⟨by simp, rfl⟩
  · have z1 := str_ne h
    go_enter Tryd.func32, Tryd.ntmps32
    go_wp2
    go_ret
    exact ⟨by simp [h], rfl⟩
set_option maxHeartbeats 1600000 in
theorem same_any {A B : List VI} {x y : Value} {w : World} (hA : TreeAt w x A) (hB : TreeAt w y B) (ia : ∀ z ∈ A, InB z) (ib : ∀ z ∈ B, InB z) (hU : TabU w) (hP : Tab w) :
    Calls Tryd.prog 20 #[x, y] w fun e w' => e = .returned (.bool (sameB A B)) ∧ Below w.heap.size w w' := by
  have HPA := hide (print_any hA (smlB ia) hU hP (lenB ia))
  have HPB := hide (fun (w' : World) (h : Below w.heap.size w w') => print_any (hB.later h) (smlB ib) (hU.later h) (hP.later h) (lenB ib))
  unfold sameB
  generalize checkE A = ca at HPA ⊢
  generalize checkE B = cb at HPB ⊢
  generalize textM A = la at HPA ⊢
  generalize textM B = lb at HPB ⊢
  clear hA hB ia ib hU hP
  by_cases h1 : ca = 0
  · subst h1
    by_cases h2 : cb = 0
    · subst h2
      go_enter Tryd.func20, Tryd.ntmps20
      go_wp2_with (first
        | (go_at_call 32; refine (equal_any (HRA.out) (HRB.out)).mono ?_; rintro e w3 ⟨rfl, hw⟩; rw [hw]; clear hw)
        | (go_at_call 14; refine (HPB.out _ H1.out).mono ?_; rintro e w2 ⟨v2, rfl, r2, k2⟩; have H2 := hide (below_on H1.out k2); have HRB := hide r2; have HRA := hide (HR1.out.later (Nat.le_refl _) k2); clear r2 k2)
        | (go_at_call 14; refine HPA.out.mono ?_; rintro e w1 ⟨v1, rfl, r1, k2⟩; have H1 := hide k2; have HR1 := hide r1; clear r1 k2))
      go_ret
      exact ⟨by simp, H2.out⟩
    · have z1 : (cb == 0) = false := by simpa using h2
      go_enter Tryd.func20, Tryd.ntmps20
      go_wp2_with (first
        | (go_at_call 14; refine (HPB.out _ H1.out).mono ?_; rintro e w2 ⟨v2, rfl, r2, k2⟩; have H2 := hide (below_on H1.out k2); clear r2 k2)
        | (go_at_call 14; refine HPA.out.mono ?_; rintro e w1 ⟨v1, rfl, r1, k2⟩; have H1 := hide k2; clear r1 k2))
      go_ret
      exact ⟨by simp [h2], H2.out⟩
  · have z1 : (ca != 0) = true := by simpa using h1
    go_enter Tryd.func20, Tryd.ntmps20
    go_wp2_with (first
      | (go_at_call 14; refine HPA.out.mono ?_; rintro e w1 ⟨v1, rfl, r1, k2⟩; have H1 := hide k2; clear r1 k2))
    go_ret
    exact ⟨by simp [h1], H1.out⟩
set_option maxHeartbeats 3200000 in
theorem showsame_any {A B : List VI} {x y : Value} {w : World} (hA : TreeAt w x A) (hB : TreeAt w y B) (ia : ∀ z ∈ A, InB z) (ib : ∀ z ∈ B, InB z) (hU : TabU w) (hP : Tab w) :
    Calls Tryd.prog 8 #[x, y] w fun e w' => e = .returned (.bool true) ∧ Below w.heap.size w w' := by
  have hla : A.length ≤ 9223372036854775807 := by obtain ⟨_, _, _, h, _⟩ := hA; exact h
  have hlb : B.length ≤ 9223372036854775807 := by obtain ⟨_, _, _, h, _⟩ := hB; exact h
  obtain ⟨a1, c1, rfl⟩ := tree_len hA
  obtain ⟨a2, c2, rfl⟩ := tree_len hB
  have HAW := hide (awake_any w hU hP)
  by_cases h1 : 300 < A.length
  · have z1 : (300 : Int) < (A.length : Int) := by omega
    clear hA hB ia ib hU hP
    go_enter Tryd.func8, Tryd.ntmps8
    go_wp2_with (first
      | (go_at_call 10; refine HAW.out.mono ?_; rintro e w1 ⟨rfl, k2⟩; have H1 := hide k2; clear k2))
    go_ret
    exact ⟨rfl, H1.out⟩
  · have z1 : ¬ (300 : Int) < (A.length : Int) := by omega
    by_cases h2 : 300 < B.length
    · have z2 : (300 : Int) < (B.length : Int) := by omega
      clear hA hB ia ib hU hP
      go_enter Tryd.func8, Tryd.ntmps8
      go_wp2_with (first
        | (go_at_call 10; refine HAW.out.mono ?_; rintro e w1 ⟨rfl, k2⟩; have H1 := hide k2; clear k2))
      go_ret
      exact ⟨rfl, H1.out⟩
    · have z2 : ¬ (300 : Int) < (B.length : Int) := by omega
      have HPA := hide (fun (w' : World) (h : Below w.heap.size w w') => rprint_any (hA.later h) (smlB ia) (kidB ia) (lenB ia))
      have HPB := hide (fun (w' : World) (h : Below w.heap.size w w') => rprint_any (hB.later h) (smlB ib) (kidB ib) (lenB ib))
      have HCA := hide (fun (w' : World) (h : Below w.heap.size w w') => copied_any (hA.later h) (by omega) (szKB ia))
      have HCB := hide (fun (w' : World) (h : Below w.heap.size w w') => copied_any (hB.later h) (by omega) (szKB ib))
      have HSA := hide (fun (w' : World) (x y : Value) (h : Below w.heap.size w w') (hx : TreeAt w' x A) (hy : TreeAt w' y B) => same_any hx hy ia ib (hU.later h) (hP.later h))
      have HSB := hide (fun (w' : World) (x y : Value) (h : Below w.heap.size w w') (hx : TreeAt w' x A) (hy : TreeAt w' y A) => same_any hx hy ia ia (hU.later h) (hP.later h))
      unfold sameB at HSA HSB
      generalize checkE A = ca at HPA HSA HSB
      generalize checkE B = cb at HPB HSA
      generalize textM A = la at HPA HSA HSB
      generalize textM B = lb at HPB HSA
      clear hA hB ia ib hU hP
      by_cases e1 : ca = 0
      · subst e1
        by_cases e2 : cb = 0
        · subst e2
          by_cases e3 : la = lb
          · subst e3
            simp only [decide_true, Bool.and_true] at HSA HSB
            go_enter Tryd.func8, Tryd.ntmps8
            go_wp2_with (first
              | (go_at_call 10; refine HAW.out.mono ?_; rintro e w1 ⟨rfl, k2⟩; have H1 := hide k2; clear k2)
              | (go_at_call 20; refine (HSB.out _ _ _ H8.out HT7.out HT8.out).mono ?_; rintro e w9 ⟨rfl, k2⟩; have H9 := hide (below_on H8.out k2); clear k2)
              | (go_at_call 20; refine (HSA.out _ _ _ H5.out HT4.out HT5.out).mono ?_; rintro e w6 ⟨rfl, k2⟩; have H6 := hide (below_on H5.out k2); clear k2)
              | (go_at_call 12; refine (HCA.out _ H7.out).mono ?_; rintro e w8 ⟨v8, rfl, t2, k2⟩; have H8 := hide (below_on H7.out k2); have HT8 := hide t2; have HT7 := hide (HT70.out.later k2); clear t2 k2)
              | (go_at_call 12; refine (HCA.out _ H6.out).mono ?_; rintro e w7 ⟨v7, rfl, t2, k2⟩; have H7 := hide (below_on H6.out k2); have HT70 := hide t2; clear t2 k2)
              | (go_at_call 12; refine (HCB.out _ H4.out).mono ?_; rintro e w5 ⟨v5, rfl, t2, k2⟩; have H5 := hide (below_on H4.out k2); have HT5 := hide t2; have HT4 := hide (HT40.out.later k2); clear t2 k2)
              | (go_at_call 12; refine (HCA.out _ H3.out).mono ?_; rintro e w4 ⟨v4, rfl, t2, k2⟩; have H4 := hide (below_on H3.out k2); have HT40 := hide t2; clear t2 k2)
              | (go_at_call 15; refine (HPB.out _ H2.out).mono ?_; rintro e w3 ⟨v3, rfl, r3, k2⟩; have H3 := hide (below_on H2.out k2); have g3 := conv_own r3; have g2 := conv_own (HR2.out.later (Nat.le_refl _) k2); clear r3 k2)
              | (go_at_call 15; refine (HPA.out _ H1.out).mono ?_; rintro e w2 ⟨v2, rfl, r2, k2⟩; have H2 := hide (below_on H1.out k2); have HR2 := hide r2; clear r2 k2))
            go_ret
            exact ⟨rfl, H9.out⟩
          · have z4 := str_ne e3
            have z5 : (la == lb) = false := by simpa using e3
            simp only [e3, decide_true, decide_false, Bool.and_true, Bool.and_false] at HSA HSB
            go_enter Tryd.func8, Tryd.ntmps8
            go_wp2_with (first
              | (go_at_call 10; refine HAW.out.mono ?_; rintro e w1 ⟨rfl, k2⟩; have H1 := hide k2; clear k2)
              | (go_at_call 20; refine (HSB.out _ _ _ H8.out HT7.out HT8.out).mono ?_; rintro e w9 ⟨rfl, k2⟩; have H9 := hide (below_on H8.out k2); clear k2)
              | (go_at_call 20; refine (HSA.out _ _ _ H5.out HT4.out HT5.out).mono ?_; rintro e w6 ⟨rfl, k2⟩; have H6 := hide (below_on H5.out k2); clear k2)
              | (go_at_call 12; refine (HCA.out _ H7.out).mono ?_; rintro e w8 ⟨v8, rfl, t2, k2⟩; have H8 := hide (below_on H7.out k2); have HT8 := hide t2; have HT7 := hide (HT70.out.later k2); clear t2 k2)
              | (go_at_call 12; refine (HCA.out _ H6.out).mono ?_; rintro e w7 ⟨v7, rfl, t2, k2⟩; have H7 := hide (below_on H6.out k2); have HT70 := hide t2; clear t2 k2)
              | (go_at_call 12; refine (HCB.out _ H4.out).mono ?_; rintro e w5 ⟨v5, rfl, t2, k2⟩; have H5 := hide (below_on H4.out k2); have HT5 := hide t2; have HT4 := hide (HT40.out.later k2); clear t2 k2)
              | (go_at_call 12; refine (HCA.out _ H3.out).mono ?_; rintro e w4 ⟨v4, rfl, t2, k2⟩; have H4 := hide (below_on H3.out k2); have HT40 := hide t2; clear t2 k2)
              | (go_at_call 15; refine (HPB.out _ H2.out).mono ?_; rintro e w3 ⟨v3, rfl, r3, k2⟩; have H3 := hide (below_on H2.out k2); have g3 := conv_own r3; have g2 := conv_own (HR2.out.later (Nat.le_refl _) k2); clear r3 k2)
              | (go_at_call 15; refine (HPA.out _ H1.out).mono ?_; rintro e w2 ⟨v2, rfl, r2, k2⟩; have H2 := hide (below_on H1.out k2); have HR2 := hide r2; clear r2 k2))
            go_ret
            exact ⟨rfl, H9.out⟩
        · have z4 : (cb == 0) = false := by simpa using e2
          simp only [e2, decide_true, decide_false, Bool.and_true, Bool.and_false, Bool.false_and] at HSA HSB
          go_enter Tryd.func8, Tryd.ntmps8
          go_wp2_with (first
            | (go_at_call 10; refine HAW.out.mono ?_; rintro e w1 ⟨rfl, k2⟩; have H1 := hide k2; clear k2)
            | (go_at_call 20; refine (HSB.out _ _ _ H8.out HT7.out HT8.out).mono ?_; rintro e w9 ⟨rfl, k2⟩; have H9 := hide (below_on H8.out k2); clear k2)
            | (go_at_call 20; refine (HSA.out _ _ _ H5.out HT4.out HT5.out).mono ?_; rintro e w6 ⟨rfl, k2⟩; have H6 := hide (below_on H5.out k2); clear k2)
            | (go_at_call 12; refine (HCA.out _ H7.out).mono ?_; rintro e w8 ⟨v8, rfl, t2, k2⟩; have H8 := hide (below_on H7.out k2); have HT8 := hide t2; have HT7 := hide (HT70.out.later k2); clear t2 k2)
            | (go_at_call 12; refine (HCA.out _ H6.out).mono ?_; rintro e w7 ⟨v7, rfl, t2, k2⟩; have H7 := hide (below_on H6.out k2); have HT70 := hide t2; clear t2 k2)
            | (go_at_call 12; refine (HCB.out _ H4.out).mono ?_; rintro e w5 ⟨v5, rfl, t2, k2⟩; have H5 := hide (below_on H4.out k2); have HT5 := hide t2; have HT4 := hide (HT40.out.later k2); clear t2 k2)
            | (go_at_call 12; refine (HCA.out _ H3.out).mono ?_; rintro e w4 ⟨v4, rfl, t2, k2⟩; have H4 := hide (below_on H3.out k2); have HT40 := hide t2; clear t2 k2)
            | (go_at_call 15; refine (HPB.out _ H2.out).mono ?_; rintro e w3 ⟨v3, rfl, r3, k2⟩; have H3 := hide (below_on H2.out k2); have g3 := conv_own r3; have g2 := conv_own (HR2.out.later (Nat.le_refl _) k2); clear r3 k2)
            | (go_at_call 15; refine (HPA.out _ H1.out).mono ?_; rintro e w2 ⟨v2, rfl, r2, k2⟩; have H2 := hide (below_on H1.out k2); have HR2 := hide r2; clear r2 k2))
          go_ret
          exact ⟨rfl, H9.out⟩
      · have z4 : (ca == 0) = false := by simpa using e1
        simp only [e1, decide_true, decide_false, Bool.and_true, Bool.and_false, Bool.false_and] at HSA HSB
        go_enter Tryd.func8, Tryd.ntmps8
        go_wp2_with (first
          | (go_at_call 10; refine HAW.out.mono ?_; rintro e w1 ⟨rfl, k2⟩; have H1 := hide k2; clear k2)
          | (go_at_call 20; refine (HSB.out _ _ _ H8.out HT7.out HT8.out).mono ?_; rintro e w9 ⟨rfl, k2⟩; have H9 := hide (below_on H8.out k2); clear k2)
          | (go_at_call 20; refine (HSA.out _ _ _ H5.out HT4.out HT5.out).mono ?_; rintro e w6 ⟨rfl, k2⟩; have H6 := hide (below_on H5.out k2); clear k2)
          | (go_at_call 12; refine (HCA.out _ H7.out).mono ?_; rintro e w8 ⟨v8, rfl, t2, k2⟩; have H8 := hide (below_on H7.out k2); have HT8 := hide t2; have HT7 := hide (HT70.out.later k2); clear t2 k2)
          | (go_at_call 12; refine (HCA.out _ H6.out).mono ?_; rintro e w7 ⟨v7, rfl, t2, k2⟩; have H7 := hide (below_on H6.out k2); have HT70 := hide t2; clear t2 k2)
          | (go_at_call 12; refine (HCB.out _ H4.out).mono ?_; rintro e w5 ⟨v5, rfl, t2, k2⟩; have H5 := hide (below_on H4.out k2); have HT5 := hide t2; have HT4 := hide (HT40.out.later k2); clear t2 k2)
          | (go_at_call 12; refine (HCA.out _ H3.out).mono ?_; rintro e w4 ⟨v4, rfl, t2, k2⟩; have H4 := hide (below_on H3.out k2); have HT40 := hide t2; clear t2 k2)
          | (go_at_call 15; refine (HPB.out _ H2.out).mono ?_; rintro e w3 ⟨v3, rfl, r3, k2⟩; have H3 := hide (below_on H2.out k2); have g3 := conv_own r3; have g2 := conv_own (HR2.out.later (Nat.le_refl _) k2); clear r3 k2)
          | (go_at_call 15; refine (HPA.out _ H1.out).mono ?_; rintro e w2 ⟨v2, rfl, r2, k2⟩; have H2 := hide (below_on H1.out k2); have HR2 := hide r2; clear r2 k2))
        go_ret
        exact ⟨rfl, H9.out⟩
end Go.Proofs.YtpffhckimilppaaDoor
