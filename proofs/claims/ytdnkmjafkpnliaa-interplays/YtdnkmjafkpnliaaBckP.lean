/-
  Changes that undo themselves, plain.
-/
import Derived.Test.YtdnkmjafkpnliaaRev
namespace Go.Proofs.Ytdnkmjafkpnliaa
open Go.RowKit

theorem take_app {A B : List Vst} {n : Nat} (h : A.length = n) : (A ++ B).take n = A := by subst h; simp
theorem drop_app {A B : List Vst} {n : Nat} (h : A.length = n) : (A ++ B).drop n = B := by subst h; simp
theorem drop_app2 {A B : List Vst} {n k : Nat} (h : A.length = n) : (A ++ B).drop (n + k) = B.drop k := by subst h; rw [List.drop_append]; simp
/-- Five parts, the second and the fourth of which change places. -/
theorem swap_parts (A B C D E : List Vst) : swapM (A ++ (B ++ (C ++ (D ++ E)))) A.length (A.length + B.length) (A.length + (B.length + C.length)) (A.length + (B.length + (C.length + D.length))) = A ++ (D ++ (C ++ (B ++ E))) := by
  have d0 : (A ++ (B ++ (C ++ (D ++ E)))).drop A.length = B ++ (C ++ (D ++ E)) := drop_app rfl
  have d1 : (A ++ (B ++ (C ++ (D ++ E)))).drop (A.length + B.length) = C ++ (D ++ E) := by rw [drop_app2 rfl, drop_app rfl]
  have d2 : (A ++ (B ++ (C ++ (D ++ E)))).drop (A.length + (B.length + C.length)) = D ++ E := by rw [drop_app2 rfl, drop_app2 rfl, drop_app rfl]
  have d3 : (A ++ (B ++ (C ++ (D ++ E)))).drop (A.length + (B.length + (C.length + D.length))) = E := by rw [drop_app2 rfl, drop_app2 rfl, drop_app2 rfl, drop_app rfl]
  unfold swapM
  rw [d0, d1, d2, d3, take_app rfl]
  rw [show A.length + (B.length + (C.length + D.length)) - (A.length + (B.length + C.length)) = D.length by omega, show A.length + (B.length + C.length) - (A.length + B.length) = C.length by omega, show A.length + B.length - A.length = B.length by omega, take_app rfl, take_app rfl, take_app rfl]
theorem parts {V : List Vst} {a b x y : Nat} (h1 : a ≤ b) (h2 : b ≤ x) (h3 : x ≤ y) (h4 : y ≤ V.length) : ∃ A B C D E : List Vst, V = A ++ (B ++ (C ++ (D ++ E))) ∧ A.length = a ∧ A.length + B.length = b ∧ A.length + (B.length + C.length) = x ∧ A.length + (B.length + (C.length + D.length)) = y := by
  refine ⟨V.take a, (V.drop a).take (b - a), (V.drop b).take (x - b), (V.drop x).take (y - x), V.drop y, ?_, ?_, ?_, ?_, ?_⟩
  · have e1 : (V.drop x).take (y - x) ++ V.drop y = V.drop x := by
      have := List.take_append_drop (y - x) (V.drop x)
      rw [List.drop_drop, show x + (y - x) = y by omega] at this
      exact this
    have e2 : (V.drop b).take (x - b) ++ V.drop x = V.drop b := by
      have := List.take_append_drop (x - b) (V.drop b)
      rw [List.drop_drop, show b + (x - b) = x by omega] at this
      exact this
    have e3 : (V.drop a).take (b - a) ++ V.drop b = V.drop a := by
      have := List.take_append_drop (b - a) (V.drop a)
      rw [List.drop_drop, show a + (b - a) = b by omega] at this
      exact this
    rw [e1, e2, e3, List.take_append_drop]
  all_goals
    simp only [List.length_take, List.length_drop]
    omega
theorem swap_back {V : List Vst} {a b x y b' x' : Nat} (h1 : a ≤ b) (h2 : b ≤ x) (h3 : x ≤ y) (h4 : y ≤ V.length) (hb : b' = a + (y - x)) (hx : x' = a + (y - b)) : swapM (swapM V a b x y) a b' x' y = V := by
  obtain ⟨A, B, C, D, E, rfl, e1, e2, e3, e4⟩ := parts h1 h2 h3 h4
  have h5 := swap_parts A B C D E
  rw [e1] at h5
  rw [e1] at e2 e3 e4
  rw [e2, e3, e4] at h5
  rw [h5]
  have h6 := swap_parts A D C B E
  rw [e1] at h6
  rw [show a + D.length = b' by omega, show a + (D.length + C.length) = x' by omega, show a + (D.length + (C.length + B.length)) = y by omega] at h6
  exact h6
theorem rev_back {V : List Vst} {a n : Nat} (h : a + n ≤ V.length) : revM (revM V a n) a n = V := by
  have hl : (V.take a).length = a := by rw [List.length_take]; omega
  have hm : (((V.drop a).take n).reverse).length = n := by rw [List.length_reverse, List.length_take, List.length_drop]; omega
  have e0 : revM V a n = V.take a ++ (((V.drop a).take n).reverse ++ V.drop (a + n)) := rfl
  unfold revM
  rw [← e0, show revM V a n = V.take a ++ (((V.drop a).take n).reverse ++ V.drop (a + n)) from rfl, take_app hl, drop_app hl, take_app hm, drop_app2 hl, drop_app hm, List.reverse_reverse, ← List.drop_drop, List.take_append_drop, List.take_append_drop]
theorem tw_len (V : List Vst) (i j : Int) : (twM V i j).1.length = V.length := by
  unfold twM
  cases hr : riseB V.length i j with
  | false => rfl
  | true =>
    obtain ⟨a, b, rfl, rfl, hab, hbn⟩ := rise_ok hr
    exact revM_len (by simp only [Int.toNat_natCast]; omega)
theorem ex_len (V : List Vst) (i j : Int) : (exM V i j).1.length = V.length := by
  unfold exM
  cases hr : riseB V.length i j with
  | false => rfl
  | true =>
    obtain ⟨a, b, rfl, rfl, hab, hbn⟩ := rise_ok hr
    refine swapM_len ?_ ?_ ?_ ?_ <;> simp only [Int.toNat_natCast] <;> omega
theorem or_len (V : List Vst) (i j m : Int) : (orM V i j m).1.length = V.length := by
  unfold orM
  by_cases hc : 1 ≤ m ∧ m ≤ 3 ∧ 0 ≤ i ∧ i ≤ (V.length : Int) - m ∧ 0 ≤ j ∧ j ≤ (V.length : Int) - m ∧ i ≠ j
  · rw [if_pos hc]
    by_cases hlt : i < j
    · rw [if_pos hlt]; refine swapM_len ?_ ?_ ?_ ?_ <;> omega
    · rw [if_neg hlt]; refine swapM_len ?_ ?_ ?_ ?_ <;> omega
  · rw [if_neg hc]
theorem tw_back (V : List Vst) (i j : Int) : twM (twM V i j).1 i j = (V, (twM V i j).2) := by
  unfold twM
  cases hr : riseB V.length i j with
  | false => simp [hr]
  | true =>
    obtain ⟨a, b, rfl, rfl, hab, hbn⟩ := rise_ok hr
    have hl : (revM V a (b + 1 - a)).length = V.length := revM_len (by omega)
    simp only [if_true, Int.toNat_natCast, hl, hr, rev_back (V := V) (a := a) (n := b + 1 - a) (by omega)]
theorem ex_back (V : List Vst) (i j : Int) : exM (exM V i j).1 i j = (V, (exM V i j).2) := by
  unfold exM
  cases hr : riseB V.length i j with
  | false => simp [hr]
  | true =>
    obtain ⟨a, b, rfl, rfl, hab, hbn⟩ := rise_ok hr
    have hl : (swapM V a (a + 1) b (b + 1)).length = V.length := swapM_len (by omega) (by omega) (by omega) (by omega)
    simp only [if_true, Int.toNat_natCast, hl, hr, swap_back (V := V) (a := a) (b := a + 1) (x := b) (y := b + 1) (b' := a + 1) (x' := b) (by omega) (by omega) (by omega) (by omega) (by omega) (by omega)]
theorem or_back (V : List Vst) (i j m : Int) : orM (orM V i j m).1 j i m = (V, (orM V i j m).2) := by
  unfold orM
  by_cases hc : 1 ≤ m ∧ m ≤ 3 ∧ 0 ≤ i ∧ i ≤ (V.length : Int) - m ∧ 0 ≤ j ∧ j ≤ (V.length : Int) - m ∧ i ≠ j
  · rw [if_pos hc]
    obtain ⟨a, rfl⟩ : ∃ a : Nat, i = a := ⟨i.toNat, by omega⟩
    obtain ⟨b, rfl⟩ : ∃ b : Nat, j = b := ⟨j.toNat, by omega⟩
    obtain ⟨k, rfl⟩ : ∃ k : Nat, m = k := ⟨m.toNat, by omega⟩
    simp only [Int.toNat_natCast]
    by_cases hlt : (a : Int) < (b : Int)
    · have hl : (swapM V a (a + k) (a + k) (b + k)).length = V.length := swapM_len (by omega) (by omega) (by omega) (by omega)
      rw [if_pos hlt, hl, if_pos (by omega), if_neg (by omega), swap_back (V := V) (a := a) (b := a + k) (x := a + k) (y := b + k) (b' := b) (x' := b) (by omega) (by omega) (by omega) (by omega) (by omega) (by omega)]
    · have hl : (swapM V b a a (a + k)).length = V.length := swapM_len (by omega) (by omega) (by omega) (by omega)
      rw [if_neg hlt, hl, if_pos (by omega), if_pos (by omega), swap_back (V := V) (a := b) (b := a) (x := a) (y := a + k) (b' := b + k) (x' := b + k) (by omega) (by omega) (by omega) (by omega) (by omega) (by omega)]
  · rw [if_neg hc]
    exact if_neg (by show ¬ (1 ≤ m ∧ m ≤ 3 ∧ 0 ≤ j ∧ j ≤ (V.length : Int) - m ∧ 0 ≤ i ∧ i ≤ (V.length : Int) - m ∧ j ≠ i); omega)
end Go.Proofs.Ytdnkmjafkpnliaa
