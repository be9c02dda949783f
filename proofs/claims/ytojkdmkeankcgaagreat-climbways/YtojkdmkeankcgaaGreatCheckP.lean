/-
  What the call of the program's Check does.
-/
import Derived.Test.YtojkdmkeankcgaaGreatCheck
namespace Go.Proofs.YtojkdmkeankcgaaGreat
open Go.RowKit Go.Sort
attribute [local go_sem ↓] Go.wp_at_zero Go.wp_at_succ

def inR (a b x : Int) : Bool := decide (a ≤ x ∧ x ≤ b)
theorem inr_any (a b x : Int) (p q : Nat) (w : World) (h1 : w.cell? ⟨p, 0, none⟩ = some (.int .i64 a)) (h2 : w.cell? ⟨q, 0, none⟩ = some (.int .i64 b)) :
    Calls Tryz.prog 97 #[.int .i64 x, .pointer (some ⟨p, 0, none⟩), .pointer (some ⟨q, 0, none⟩)] w fun e w' => e = .returned (.bool (inR a b x)) ∧ w' = w := in_any a b x p q w h1 h2
theorem in_box (n : Int) (W : World) (r : Bool) (hr : inR 1 32 n = r) : Calls Tryz.prog 97 #[.int .i64 n, .pointer (some ⟨W.heap.size, 0, none⟩), .pointer (some ⟨W.heap.size + 1, 0, none⟩)] ((W.alloc (.cells #[.int .i64 1] 3)).alloc (.cells #[.int .i64 32] 3)).drew fun e w' => e = .returned (.bool r) ∧ w' = ((W.alloc (.cells #[.int .i64 1] 3)).alloc (.cells #[.int .i64 32] 3)).drew := by
  rw [← hr]
  exact inr_any 1 32 n _ _ _ (by show ((W.alloc _).alloc _).cell? _ = _; simp) (by show ((W.alloc _).alloc _).cell? _ = _; simp)
theorem below_two {B : Nat} {w W : World} (h : Below B w W) (hB : B ≤ W.heap.size) (o p : Obj) : Below B w ((W.alloc o).alloc p) := (h.alloc hB o).alloc (by simp; omega) p

theorem four_new (W : World) (o1 o2 o3 o4 : Obj) : ((((W.alloc o1).alloc o2).alloc o3).alloc o4).heap[W.heap.size]? = some o1 ∧ ((((W.alloc o1).alloc o2).alloc o3).alloc o4).heap[W.heap.size + 1]? = some o2 ∧ ((((W.alloc o1).alloc o2).alloc o3).alloc o4).heap[W.heap.size + 1 + 1]? = some o3 ∧ ((((W.alloc o1).alloc o2).alloc o3).alloc o4).heap[W.heap.size + 1 + 1 + 1]? = some o4 := by
  have s1 : (W.alloc o1).heap.size = W.heap.size + 1 := by simp
  have s2 : ((W.alloc o1).alloc o2).heap.size = W.heap.size + 1 + 1 := by simp
  have s3 : (((W.alloc o1).alloc o2).alloc o3).heap.size = W.heap.size + 1 + 1 + 1 := by simp
  refine ⟨?_, ?_, ?_, ?_⟩
  · rw [Below.heap_alloc _ _ _ (by omega), Below.heap_alloc _ _ _ (by omega), Below.heap_alloc _ _ _ (by omega)]; exact heap_alloc_new _ _
  · rw [Below.heap_alloc _ _ _ (by omega), Below.heap_alloc _ _ _ (by omega), ← s1]; exact heap_alloc_new _ _
  · rw [Below.heap_alloc _ _ _ (by omega), ← s2]; exact heap_alloc_new _ _
  · rw [← s3]; exact heap_alloc_new _ _
theorem cell0 {w : World} {b : Nat} {v : Value} {t : TypeId} (h : w.heap[b]? = some (.cells #[v] t (0, 0))) : w.cell? ⟨b, 0, none⟩ = some v := by rw [cell_of_row w b 0 _ _ _ h]; rfl
set_option maxRecDepth 100000 in
set_option maxHeartbeats 3200000 in
theorem check_any (n : Int) (a : Option Addr) (m c : Nat) (A : List Arc) (w : World) (h : ArcsAt w a m A) :
    Calls Tryz.prog 56 #[.agg #[.int .i64 n, .slice a m c]] w fun e w' => e = .returned (.tuple #[.int .i64 (checkM n A).1, .int .i64 (checkM n A).2]) ∧ Below w.heap.size w w' := by
  have HA := hide h
  have hlm := h.len
  have hmm := h.max
  clear h
  obtain ⟨B, hB⟩ : ∃ B, w.heap.size = B := ⟨_, rfl⟩
  have HB := hide hB
  have HW0 : Hid (Below B w (w.alloc (.cells #[.int .i64 n, .slice a m c] 24))) := by have := (Below.refl w.heap.size w).alloc (Nat.le_refl _) (.cells #[.int .i64 n, .slice a m c] 24); rw [hB] at this; exact this
  have HA0 : Hid (ArcsAt (w.alloc (.cells #[.int .i64 n, .slice a m c] 24)) a m A) := HA.out.later (by rw [hB]; exact Nat.le_refl _) HW0.out
  have HN0 : Hid ((w.alloc (.cells #[.int .i64 n, .slice a m c] 24)).heap[B]? = some (.cells #[.int .i64 n, .slice a m c] 24 (0, 0))) := by have := heap_alloc_new w (.cells #[.int .i64 n, .slice a m c] 24); rw [hB] at this; exact this
  have HS0 : Hid ((w.alloc (.cells #[.int .i64 n, .slice a m c] 24)).heap.size = B + 1) := by show _ = _; rw [← hB]; simp
  rw [hB]
  clear hB HA
  cases hn : inR 1 32 n
  · have hM : checkM n A = (-1, 2) := by
      have := of_decide_eq_false hn
      unfold checkM
      rw [if_pos (by omega)]
    rw [hM]
    have HIN := hide (fun W => in_box n W false hn)
    clear hM hn
    go_enter Tryz.func56, Tryz.ntmps56
    go_wp2
    rw [HB.out]
    generalize w.alloc (.cells #[.int .i64 n, .slice a m c] 24) = W0 at HW0 HA0 HN0 HS0 ⊢
    have r0 := cell_of_row W0 B 0 _ _ _ HN0.out
    have r1 := cell_of_row W0 B 1 _ _ _ HN0.out
    simp only [List.getElem?_toArray, List.getElem?_cons_succ, List.getElem?_cons_zero] at r0 r1
    have r0a : ((W0.alloc (.cells #[.int .i64 1] 3)).alloc (.cells #[.int .i64 32] 3)).cell? ⟨B, 0, none⟩ = some (.int .i64 n) := by have := HS0.out; rw [World.cell?_alloc_lt _ _ _ (by show B < _; simp; omega), World.cell?_alloc_lt _ _ _ (by show B < _; omega)]; exact r0
    first | (go_region_with (first | (go_at_call 81; refine (within_any _ _ _).mono ?_; rintro e w' ⟨rfl, rfl⟩) | (go_at_call 97; refine (HIN.out _).mono ?_; rintro e w' ⟨rfl, rfl⟩))) | fail
    all_goals
      go_wp2
      go_ret2
      exact ⟨rfl, (below_two HW0.out (by have := HS0.out; omega) _ _).drew⟩
  · have hn2 : 1 ≤ n ∧ n ≤ 32 := of_decide_eq_true hn
    have HIN := hide (fun W => in_box n W true hn)
    clear hn
    by_cases hm : 256 < m
    · have hM : checkM n A = (-1, 2) := by
        unfold checkM
        rw [if_pos (by omega)]
      rw [hM]
      have hm2 : (256 : Int) < (m : Int) := by omega
      clear hM
      go_enter Tryz.func56, Tryz.ntmps56
      go_wp2
      rw [HB.out]
      generalize w.alloc (.cells #[.int .i64 n, .slice a m c] 24) = W0 at HW0 HA0 HN0 HS0 ⊢
      have r0 := cell_of_row W0 B 0 _ _ _ HN0.out
      have r1 := cell_of_row W0 B 1 _ _ _ HN0.out
      simp only [List.getElem?_toArray, List.getElem?_cons_succ, List.getElem?_cons_zero] at r0 r1
      go_region_held3 (fun w' => w'.cell? ⟨B, 0, none⟩ = some (.int .i64 n) ∧ w'.cell? ⟨B, 1, none⟩ = some (.slice a m c)) (go_keep) (first | (go_at_call 81; refine (within_any _ _ _).mono ?_; rintro e w' ⟨rfl, rfl⟩) | (go_at_call 97; refine (HIN.out _).mono ?_; rintro e w' ⟨rfl, rfl⟩))
      all_goals
        go_wp2
        go_ret2
        exact ⟨rfl, (below_two HW0.out (by have := HS0.out; omega) _ _).drew⟩
    · have hM : checkM n A = checkFrom n 0 A := by
        unfold checkM
        rw [if_neg (by omega)]
      rw [hM]
      have hm2 : ¬ (256 : Int) < (m : Int) := by omega
      have hw1 : IntKind.i64.wrap (n - 1) = n - 1 := by rw [IntKind.wrap_i64]; omega
      clear hM
      go_enter Tryz.func56, Tryz.ntmps56
      go_wp2
      rw [HB.out]
      generalize w.alloc (.cells #[.int .i64 n, .slice a m c] 24) = W0 at HW0 HA0 HN0 HS0 ⊢
      have r0 := cell_of_row W0 B 0 _ _ _ HN0.out
      have r1 := cell_of_row W0 B 1 _ _ _ HN0.out
      simp only [List.getElem?_toArray, List.getElem?_cons_succ, List.getElem?_cons_zero] at r0 r1
      go_region_held3 (fun w' => w'.cell? ⟨B, 0, none⟩ = some (.int .i64 n) ∧ w'.cell? ⟨B, 1, none⟩ = some (.slice a m c)) (go_keep) (first | (go_at_call 81; refine (within_any _ _ _).mono ?_; rintro e w' ⟨rfl, rfl⟩) | (go_at_call 97; refine (HIN.out _).mono ?_; rintro e w' ⟨rfl, rfl⟩))
      have HW1 : Hid (Below (B + 1) W0 ((W0.alloc (.cells #[.int .i64 1] 3)).alloc (.cells #[.int .i64 32] 3)).drew) := (below_two (Below.refl _ _) (by have := HS0.out; omega) _ _).drew
      generalize ((W0.alloc (.cells #[.int .i64 1] 3)).alloc (.cells #[.int .i64 32] 3)).drew = W1 at HW1 ⊢
      have hN1 := (HW1.out.block B (by omega)).trans HN0.out
      have s0 := cell_of_row W1 B 0 _ _ _ hN1
      have s1 := cell_of_row W1 B 1 _ _ _ hN1
      simp only [List.getElem?_toArray, List.getElem?_cons_succ, List.getElem?_cons_zero] at s0 s1
      have hz1 : B + 1 ≤ W1.heap.size := by have := HW1.out.size; have := HS0.out; omega
      have s1a : ((W1.alloc (.cells #[.int .i64 0] 3)).alloc (.cells #[.int .i64 (n - 1)] 3)).cell? ⟨B, 1, none⟩ = some (.slice a m c) := by rw [World.cell?_alloc_lt _ _ _ (by show B < _; simp; omega), World.cell?_alloc_lt _ _ _ (by show B < _; omega)]; exact s1
      have s1b : ((((W1.alloc (.cells #[.int .i64 0] 3)).alloc (.cells #[.int .i64 (n - 1)] 3)).alloc (.cells #[.int .i64 0] 3)).alloc (.cells #[.int .i64 1000000] 3)).cell? ⟨B, 1, none⟩ = some (.slice a m c) := by rw [World.cell?_alloc_lt _ _ _ (by show B < _; simp; omega), World.cell?_alloc_lt _ _ _ (by show B < _; simp; omega)]; exact s1a
      clear r0 r1
      go_wp2_with (go_at_call 81; refine (within_any _ _ _).mono ?_; rintro e w' ⟨rfl, rfl⟩)
      have HW2 : Hid (Below (B + 1) W1 ((((W1.alloc (.cells #[.int .i64 0] 3)).alloc (.cells #[.int .i64 (n - 1)] 3)).alloc (.cells #[.int .i64 0] 3)).alloc (.cells #[.int .i64 1000000] 3))) := below_two (below_two (Below.refl _ _) hz1 _ _) (by simp; omega) _ _
      have HZ2 : Hid (((((W1.alloc (.cells #[.int .i64 0] 3)).alloc (.cells #[.int .i64 (n - 1)] 3)).alloc (.cells #[.int .i64 0] 3)).alloc (.cells #[.int .i64 1000000] 3)).heap.size = W1.heap.size + 4) := by show _ = _; simp
      have u0 : ((((W1.alloc (.cells #[.int .i64 0] 3)).alloc (.cells #[.int .i64 (n - 1)] 3)).alloc (.cells #[.int .i64 0] 3)).alloc (.cells #[.int .i64 1000000] 3)).cell? ⟨W1.heap.size, 0, none⟩ = some (.int .i64 0) := cell0 (four_new W1 _ _ _ _).1
      have u1 : ((((W1.alloc (.cells #[.int .i64 0] 3)).alloc (.cells #[.int .i64 (n - 1)] 3)).alloc (.cells #[.int .i64 0] 3)).alloc (.cells #[.int .i64 1000000] 3)).cell? ⟨W1.heap.size + 1, 0, none⟩ = some (.int .i64 (n - 1)) := cell0 (four_new W1 _ _ _ _).2.1
      have u2 : ((((W1.alloc (.cells #[.int .i64 0] 3)).alloc (.cells #[.int .i64 (n - 1)] 3)).alloc (.cells #[.int .i64 0] 3)).alloc (.cells #[.int .i64 1000000] 3)).cell? ⟨W1.heap.size + 1 + 1, 0, none⟩ = some (.int .i64 0) := cell0 (four_new W1 _ _ _ _).2.2.1
      have u3 : ((((W1.alloc (.cells #[.int .i64 0] 3)).alloc (.cells #[.int .i64 (n - 1)] 3)).alloc (.cells #[.int .i64 0] 3)).alloc (.cells #[.int .i64 1000000] 3)).cell? ⟨W1.heap.size + 1 + 1 + 1, 0, none⟩ = some (.int .i64 1000000) := cell0 (four_new W1 _ _ _ _).2.2.2
      generalize ((((W1.alloc (.cells #[.int .i64 0] 3)).alloc (.cells #[.int .i64 (n - 1)] 3)).alloc (.cells #[.int .i64 0] 3)).alloc (.cells #[.int .i64 1000000] 3)) = W2 at HW2 HZ2 u0 u1 u2 u3 ⊢
      have HU := hide (And.intro u0 (And.intro u1 (And.intro u2 u3)))
      clear u0 u1 u2 u3 s0 s1 s1a s1b hN1
      have HA2 : Hid (ArcsAt W2 a m A) := HA0.out.later (by have := HS0.out; omega) (HW1.out.trans HW2.out)
      obtain ⟨Z, hZ⟩ : ∃ Z, W1.heap.size = Z := ⟨_, rfl⟩
      rw [hZ] at HU HZ2 hz1 ⊢
      clear hZ
      have HB2 : Hid (Below B w W2) := HW0.out.trans ((HW1.out.trans HW2.out).mono (by omega))
      clear HW1 HW2 HA0 HN0 HW0
      go_loopw [27] (fun vi wr => ∃ k : Nat, vi = .int .i64 k ∧ k ≤ m ∧ Hid (Below (Z + 4) W2 wr ∧ checkFrom n 0 A = checkFrom n k (A.drop k))) (fun vi _ => m - (intOf vi).toNat)
      case atStart => exact ⟨0, rfl, Nat.zero_le _, Below.refl _ _, by rw [List.drop_zero]⟩
      case round =>
        obtain ⟨k, rfl, hk, HR⟩ := hrel
        have hZr : Z + 4 ≤ wr.heap.size := by rw [← HZ2.out]; exact HR.out.1.size
        have HE : Hid (∀ o, Below B w (wr.alloc o)) := fun o => (HB2.out.trans (HR.out.1.mono (by omega))).alloc (by omega) o
        have HE0 : Hid (Below B w wr) := HB2.out.trans (HR.out.1.mono (by omega))
        by_cases hlt : k < m
        · obtain ⟨b, off, rfl, c0, c1, c2, c3⟩ := (HA2.out.later (by rw [HZ2.out]; exact Nat.le_refl _) HR.out.1).cell k hlt
          have HC := hide (HR.out.2.trans (checkFrom_drop n A k (by omega)))
          obtain ⟨x, hx⟩ : ∃ x, A[k]! = x := ⟨_, rfl⟩
          rw [hx] at c0 c1 c2 c3 HC
          obtain ⟨x1, x2, x3, x4⟩ := x
          simp only at c0 c1 c2 c3
          clear hx
          have i1 : (k : Int) < (m : Int) := by omega
          have v0 : (wr.alloc (.cells #[.int .i64 x1, .int .i64 x2, .int .i64 x3, .int .i64 x4] 54)).cell? ⟨Z, 0, none⟩ = some (.int .i64 0) := by rw [World.cell?_alloc_lt _ _ _ (by show Z < _; omega)]; exact (HR.out.1.cell (p := ⟨Z, 0, none⟩) (by show Z < _; omega)).trans HU.out.1
          have v1 : (wr.alloc (.cells #[.int .i64 x1, .int .i64 x2, .int .i64 x3, .int .i64 x4] 54)).cell? ⟨Z + 1, 0, none⟩ = some (.int .i64 (n - 1)) := by rw [World.cell?_alloc_lt _ _ _ (by show Z + 1 < _; omega)]; exact (HR.out.1.cell (p := ⟨Z + 1, 0, none⟩) (by show Z + 1 < _; omega)).trans HU.out.2.1
          have v2 : (wr.alloc (.cells #[.int .i64 x1, .int .i64 x2, .int .i64 x3, .int .i64 x4] 54)).cell? ⟨Z + 1 + 1, 0, none⟩ = some (.int .i64 0) := by rw [World.cell?_alloc_lt _ _ _ (by show Z + 1 + 1 < _; omega)]; exact (HR.out.1.cell (p := ⟨Z + 1 + 1, 0, none⟩) (by show Z + 1 + 1 < _; omega)).trans HU.out.2.2.1
          have v3 : (wr.alloc (.cells #[.int .i64 x1, .int .i64 x2, .int .i64 x3, .int .i64 x4] 54)).cell? ⟨Z + 1 + 1 + 1, 0, none⟩ = some (.int .i64 1000000) := by rw [World.cell?_alloc_lt _ _ _ (by show Z + 1 + 1 + 1 < _; omega)]; exact (HR.out.1.cell (p := ⟨Z + 1 + 1 + 1, 0, none⟩) (by show Z + 1 + 1 + 1 < _; omega)).trans HU.out.2.2.2
          cases p1 : inR 0 (n - 1) x1
          · have e : Hid (checkFrom n 0 A = ((k : Int), 44)) := by show _ = _; rw [HC.out, if_pos (place_bad (by have := of_decide_eq_false p1; omega))]
            go_wp2_with (first | (go_at_call 97; refine (inr_any _ _ _ _ _ _ (by assumption) (by assumption)).mono ?_; rintro e w' ⟨rfl, rfl⟩))
            go_ret2
            exact ⟨by rw [e.out]; rfl, HE.out _⟩
          · cases p2 : inR 0 (n - 1) x2
            · have e : Hid (checkFrom n 0 A = ((k : Int), 44)) := by show _ = _; rw [HC.out, if_pos (place_bad (by have := of_decide_eq_false p2; omega))]
              go_wp2_with (first | (go_at_call 97; refine (inr_any _ _ _ _ _ _ (by assumption) (by assumption)).mono ?_; rintro e w' ⟨rfl, rfl⟩))
              go_ret2
              exact ⟨by rw [e.out]; rfl, HE.out _⟩
            · have HC2 := HC.out
              rw [if_neg (by rw [show placeOk n (x1, x2, x3, x4) = true from place_ok (by have := of_decide_eq_true p1; have := of_decide_eq_true p2; omega)]; simp)] at HC2
              replace HC2 := hide HC2
              clear HC
              cases p3 : inR 0 1000000 x3
              · have e : Hid (checkFrom n 0 A = ((k : Int), 2)) := by show _ = _; rw [HC2.out, if_pos (num_bad (by have := of_decide_eq_false p3; omega))]
                go_wp2_with (first | (go_at_call 97; refine (inr_any _ _ _ _ _ _ (by assumption) (by assumption)).mono ?_; rintro e w' ⟨rfl, rfl⟩))
                go_ret2
                exact ⟨by rw [e.out]; rfl, HE.out _⟩
              · cases p4 : inR 0 1000000 x4
                · have e : Hid (checkFrom n 0 A = ((k : Int), 2)) := by show _ = _; rw [HC2.out, if_pos (num_bad (by have := of_decide_eq_false p4; omega))]
                  go_wp2_with (first | (go_at_call 97; refine (inr_any _ _ _ _ _ _ (by assumption) (by assumption)).mono ?_; rintro e w' ⟨rfl, rfl⟩))
                  go_ret2
                  exact ⟨by rw [e.out]; rfl, HE.out _⟩
                · have e : Hid (checkFrom n 0 A = checkFrom n (k + 1) (A.drop (k + 1))) := by
                    show _ = _
                    rw [HC2.out, if_neg (by rw [show numOk (x1, x2, x3, x4) = true from num_ok (by have := of_decide_eq_true p3; have := of_decide_eq_true p4; omega)]; simp)]
                  go_wp2_with (first | (go_at_call 97; refine (inr_any _ _ _ _ _ _ (by assumption) (by assumption)).mono ?_; rintro e w' ⟨rfl, rfl⟩))
                  go_roundw
                  case rel => exact ⟨k + 1, by go_num, by omega, HR.out.1.alloc (by omega) _, e.out⟩
                  case measure => simp [intOf]; omega
        · have : k = m := by omega
          subst this
          have e : Hid (checkFrom n 0 A = (-1, 0)) := by show _ = _; rw [HR.out.2, List.drop_eq_nil_of_le (by omega)]; rfl
          go_wp2
          go_ret2
          exact ⟨by rw [e.out]; rfl, HE0.out⟩
end Go.Proofs.YtojkdmkeankcgaaGreat
