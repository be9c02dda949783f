/-
  Plain: how long lists are behind a change; changes between two lists that undo themselves.
-/
import Derived.Test.YtdnkmjafkpnliaaLwA
namespace Go.Proofs.Ytdnkmjafkpnliaa
open Go.RowKit

theorem whF_whl {V : List Vst} {i : Int} {s : Bool} {it : Int} (h : whF V i = some (s, it)) : whlB s it V = true := by
  unfold whF at h
  by_cases hc : witB i ((V.length : Int) - 1) = true
  · rw [if_pos hc] at h
    simp only at h
    split at h
    · rename_i h2
      injection h with h
      rw [h] at h2
      exact h2.2
    · cases h
  · rw [if_neg hc] at h; cases h
theorem out_oth (it : Int) (V : List Vst) : outM true it V = oth it V := by
  unfold outM oth
  congr 1
  funext x
  have e : visL true it = [(2, it), (3, it)] := rfl
  rw [e]
  simp only [List.contains_cons, List.contains_nil, Bool.or_false, Bool.not_or]
theorem out_one (it : Int) : ∀ V : List Vst, (outM false it V).length + V.count (1, it) = V.length
  | [] => rfl
  | x :: V => by
    have ih := out_one it V
    have e : visL false it = [(1, it)] := rfl
    unfold outM at ih ⊢
    rw [e] at ih ⊢
    by_cases hx : x = (1, it)
    · subst hx
      simp only [List.filter_cons, List.contains_cons, List.contains_nil, Bool.or_false, List.count_cons, beq_self_eq_true, Bool.not_true, List.length_cons, if_true] at ih ⊢
      simp only [Bool.false_eq_true, if_false]
      omega
    · have h1 : (x == (1, it)) = false := by simpa using hx
      simp only [List.filter_cons, List.contains_cons, List.contains_nil, Bool.or_false, List.count_cons, h1, Bool.not_false, List.length_cons, if_true] at ih ⊢
      simp only [Bool.false_eq_true, if_false]
      omega
theorem out_len {s : Bool} {it : Int} {V : List Vst} (h : whlB s it V = true) : (outM s it V).length + visN s = V.length := by
  cases s with
  | false =>
    have e : whlB false it V = (V.count (1, it) == 1) := by unfold whlB; simp [visL]
    rw [e] at h
    have h1 : V.count (1, it) = 1 := by simpa using h
    have h2 := out_one it V
    have h3 : visN false = 1 := rfl
    omega
  | true =>
    have e : whlB true it V = ((V.count (2, it) == 1) && (V.count (3, it) == 1)) := by unfold whlB; simp [visL]
    rw [e, Bool.and_eq_true] at h
    have h1 : V.count (2, it) = 1 := by simpa using h.1
    have h4 : V.count (3, it) = 1 := by simpa using h.2
    have h2 := oth_len it V
    have h3 : visN true = 2 := rfl
    rw [out_oth]
    omega
theorem fit_ok {s : Bool} {n : Nat} {j k : Int} (h : fitB s n j k = true) : 0 ≤ j ∧ j ≤ (n : Int) ∧ (s = true → j < k ∧ k ≤ (n : Int) + 1) := by
  unfold fitB at h
  rw [Bool.and_eq_true] at h
  have q1 := wit_ok h.1
  refine ⟨q1.1, q1.2, fun hs => ?_⟩
  subst hs
  have q2 := h.2
  simp at q2
  exact q2
theorem put_len {s : Bool} {it : Int} {V : List Vst} {j k : Int} (h : fitB s V.length j k = true) : (putL s it V j.toNat k.toNat).length = V.length + visN s := by
  have h1 := fit_ok h
  exact putL_len (by omega) (fun hs => by have := h1.2.2 hs; omega)
theorem trd_ok {A B : List Vst} {i j : Int} {k : Nat} (hc : (witB i ((A.length : Int) - k) && witB j ((B.length : Int) - k)) = true) : ∃ a b : Nat, i = a ∧ j = b ∧ a + k ≤ A.length ∧ b + k ≤ B.length := by
  rw [Bool.and_eq_true] at hc
  have q1 := wit_ok hc.1
  have q2 := wit_ok hc.2
  exact ⟨i.toNat, j.toNat, by omega, by omega, by omega, by omega⟩
theorem trd_len (A B : List Vst) (i j : Int) (k : Nat) : (trdM A B i j k).1.length = A.length ∧ (trdM A B i j k).2.1.length = B.length := by
  unfold trdM
  by_cases hc : (witB i ((A.length : Int) - k) && witB j ((B.length : Int) - k)) = true
  · rw [if_pos hc]
    obtain ⟨a, b, rfl, rfl, h1, h2⟩ := trd_ok hc
    simp only [Int.toNat_natCast, List.length_append, List.length_take, List.length_drop]
    omega
  · rw [if_neg hc]
    exact ⟨rfl, rfl⟩
theorem trd_back (A B : List Vst) (i j : Int) (k : Nat) : trdM (trdM A B i j k).1 (trdM A B i j k).2.1 i j k = (A, B, (trdM A B i j k).2.2) := by
  obtain ⟨l1, l2⟩ := trd_len A B i j k
  obtain ⟨⟨X, Y, ok⟩, hq⟩ : ∃ q, trdM A B i j k = q := ⟨_, rfl⟩
  rw [hq] at l1 l2 ⊢
  simp only at l1 l2 ⊢
  unfold trdM at hq ⊢
  rw [l1, l2]
  by_cases hc : (witB i ((A.length : Int) - k) && witB j ((B.length : Int) - k)) = true
  · rw [if_pos hc] at hq ⊢
    obtain ⟨a, b, rfl, rfl, h1, h2⟩ := trd_ok hc
    simp only [Int.toNat_natCast] at hq ⊢
    injection hq with e1 e2
    injection e2 with e2 e3
    subst e1 e2 e3
    have la : (A.take a).length = a := by rw [List.length_take]; omega
    have lb : (B.take b).length = b := by rw [List.length_take]; omega
    have lm : ((B.drop b).take k).length = k := by rw [List.length_take, List.length_drop]; omega
    have ln : ((A.drop a).take k).length = k := by rw [List.length_take, List.length_drop]; omega
    rw [take_app la, drop_app2 la, drop_app lm, drop_app lb, take_app ln, take_app lb, drop_app2 lb, drop_app ln, drop_app la, take_app lm, ← List.drop_drop, List.take_append_drop, List.take_append_drop, ← List.drop_drop, List.take_append_drop, List.take_append_drop]
  · rw [if_neg hc] at hq ⊢
    injection hq with e1 e2
    injection e2 with e2 e3
    subst e1 e2 e3
    rfl
theorem tal_yes {A B X Y : List Vst} {i j : Int} (h : talM A B i j = (X, Y, true)) : ∃ a b : Nat, i = a ∧ j = b ∧ a ≤ A.length ∧ b ≤ B.length ∧ X = A.take a ++ B.drop b ∧ Y = B.take b ++ A.drop a := by
  unfold talM at h
  split at h
  · rename_i hc
    rw [Bool.and_eq_true, Bool.and_eq_true] at hc
    have q1 := wit_ok hc.1
    have q2 := wit_ok hc.2.1
    injection h with e1 e2
    injection e2 with e2 _
    exact ⟨i.toNat, j.toNat, by omega, by omega, by omega, by omega, e1.symm, e2.symm⟩
  · injection h with _ h
    injection h with _ h
    cases h
theorem tal_no {A B X Y : List Vst} {i j : Int} (h : talM A B i j = (X, Y, false)) : X = A ∧ Y = B := by
  unfold talM at h
  split at h
  · injection h with _ h
    injection h with _ h
    cases h
  · injection h with e1 h
    injection h with e2 _
    exact ⟨e1.symm, e2.symm⟩
theorem tal_back {A B X Y : List Vst} {i j : Int} (h : talM A B i j = (X, Y, true)) (hn : ¬ (i = (X.length : Int) ∧ j = (Y.length : Int))) : talM X Y i j = (A, B, true) := by
  obtain ⟨a, b, rfl, rfl, h1, h2, rfl, rfl⟩ := tal_yes h
  have la : (A.take a).length = a := by rw [List.length_take]; omega
  have lb : (B.take b).length = b := by rw [List.length_take]; omega
  obtain ⟨x, hx⟩ : ∃ x, (A.take a ++ B.drop b).length = x := ⟨_, rfl⟩
  obtain ⟨y, hy⟩ : ∃ y, (B.take b ++ A.drop a).length = y := ⟨_, rfl⟩
  have hx2 : a ≤ x := by rw [← hx, List.length_append, la]; omega
  have hy2 : b ≤ y := by rw [← hy, List.length_append, lb]; omega
  unfold talM
  rw [hx, hy] at hn ⊢
  have c1 : witB (a : Int) (x : Int) = true := by unfold witB; rw [decide_eq_true (by omega), decide_eq_true (by omega)]; rfl
  have c2 : witB (b : Int) (y : Int) = true := by unfold witB; rw [decide_eq_true (by omega), decide_eq_true (by omega)]; rfl
  have c3 : (!((a : Int) == (x : Int) && (b : Int) == (y : Int))) = true := by
    cases hz : ((a : Int) == (x : Int) && (b : Int) == (y : Int)) with
    | false => rfl
    | true =>
      rw [Bool.and_eq_true] at hz
      exact absurd ⟨by simpa using hz.1, by simpa using hz.2⟩ hn
  rw [c1, c2, c3]
  simp only [Bool.and_self, if_true, Int.toNat_natCast]
  rw [take_app la, drop_app lb, take_app lb, drop_app la, List.take_append_drop, List.take_append_drop]
theorem trn_yes {A B X Y : List Vst} {i j : Int} (h : trnM A B i j = (X, Y, true)) : ∃ a b : Nat, i = a ∧ j = b ∧ a ≤ A.length ∧ b ≤ B.length ∧ X = A.take a ++ (B.take b).reverse ∧ Y = (A.drop a).reverse ++ B.drop b := by
  unfold trnM at h
  split at h
  · rename_i hc
    rw [Bool.and_eq_true, Bool.and_eq_true] at hc
    have q1 := wit_ok hc.1
    have q2 := wit_ok hc.2.1
    injection h with e1 e2
    injection e2 with e2 _
    exact ⟨i.toNat, j.toNat, by omega, by omega, by omega, by omega, e1.symm, e2.symm⟩
  · injection h with _ h
    injection h with _ h
    cases h
theorem trn_no {A B X Y : List Vst} {i j : Int} (h : trnM A B i j = (X, Y, false)) : X = A ∧ Y = B := by
  unfold trnM at h
  split at h
  · injection h with _ h
    injection h with _ h
    cases h
  · injection h with e1 h
    injection h with e2 _
    exact ⟨e1.symm, e2.symm⟩
theorem rel_yes {A B X Y : List Vst} {i j k : Int} (h : relM A B i j k = (X, Y, true)) : ∃ s it, whF A i = some (s, it) ∧ fitB s B.length j k = true ∧ X = outM s it A ∧ Y = putL s it B j.toNat k.toNat := by
  unfold relM at h
  split at h
  · injection h with _ h
    injection h with _ h
    cases h
  · rename_i s it hw
    split at h
    · rename_i hf
      injection h with e1 e2
      injection e2 with e2 _
      exact ⟨s, it, hw, hf, e1.symm, e2.symm⟩
    · injection h with _ h
      injection h with _ h
      cases h
theorem rel_no {A B X Y : List Vst} {i j k : Int} (h : relM A B i j k = (X, Y, false)) : X = A ∧ Y = B := by
  unfold relM at h
  split at h
  · injection h with e1 h
    injection h with e2 _
    exact ⟨e1.symm, e2.symm⟩
  · split at h
    · injection h with _ h
      injection h with _ h
      cases h
    · injection h with e1 h
      injection h with e2 _
      exact ⟨e1.symm, e2.symm⟩
theorem swp_yes {A B X Y : List Vst} {i j k : Int} (h : swpM A B i j k = (X, Y, true)) : ∃ s it s' it' f, whF A i = some (s, it) ∧ whF B j = some (s', it') ∧ fitB s' (outM s it A).length f k = true ∧ X = putL s' it' (outM s it A) f.toNat k.toNat ∧ Y = outM s' it' B ++ visL s it := by
  unfold swpM at h
  split at h
  · injection h with _ h
    injection h with _ h
    cases h
  · rename_i s it hw
    split at h
    · injection h with _ h
      injection h with _ h
      cases h
    · rename_i s' it' hw2
      split at h
      · rename_i hf
        injection h with e1 e2
        injection e2 with e2 _
        exact ⟨s, it, s', it', _, hw, hw2, hf, e1.symm, e2.symm⟩
      · injection h with _ h
        injection h with _ h
        cases h
theorem swp_no {A B X Y : List Vst} {i j k : Int} (h : swpM A B i j k = (X, Y, false)) : X = A ∧ Y = B := by
  unfold swpM at h
  split at h
  · injection h with e1 h
    injection h with e2 _
    exact ⟨e1.symm, e2.symm⟩
  · split at h
    · injection h with e1 h
      injection h with e2 _
      exact ⟨e1.symm, e2.symm⟩
    · split at h
      · injection h with _ h
        injection h with _ h
        cases h
      · injection h with e1 h
        injection h with e2 _
        exact ⟨e1.symm, e2.symm⟩
theorem trd_no {A B X Y : List Vst} {i j k : Int} (h : trdM A B i j k = (X, Y, false)) : X = A ∧ Y = B := by
  unfold trdM at h
  split at h
  · injection h with _ h
    injection h with _ h
    cases h
  · injection h with e1 h
    injection h with e2 _
    exact ⟨e1.symm, e2.symm⟩
/-- No visit is lost, and none is new. -/
theorem inter_no {A B X Y : List Vst} {c : Nat} {i j k : Int} (hc : c < 6) (h : interM A B c i j k = (X, Y, false)) : X = A ∧ Y = B := by
  rcases (show c = 0 ∨ c = 1 ∨ c = 2 ∨ c = 3 ∨ c = 4 ∨ c = 5 by omega) with rfl | rfl | rfl | rfl | rfl | rfl
  · exact rel_no h
  · exact trd_no h
  · exact trd_no h
  · exact tal_no h
  · exact trn_no h
  · exact swp_no h
theorem inter_len {A B X Y : List Vst} {c : Nat} {i j k : Int} {ok : Bool} (hc : c < 6) (h : interM A B c i j k = (X, Y, ok)) : X.length + Y.length = A.length + B.length := by
  cases ok with
  | false => obtain ⟨rfl, rfl⟩ := inter_no hc h; rfl
  | true =>
    rcases (show c = 0 ∨ c = 1 ∨ c = 2 ∨ c = 3 ∨ c = 4 ∨ c = 5 by omega) with rfl | rfl | rfl | rfl | rfl | rfl
    · obtain ⟨s, it, hw, hf, rfl, rfl⟩ := rel_yes h
      rw [put_len hf]
      have h1 := out_len (whF_whl hw)
      omega
    · have h1 := trd_len A B i j 1
      rw [show trdM A B i j ((1 : Nat) : Int) = (X, Y, true) from h] at h1
      simp only at h1
      omega
    · have h1 := trd_len A B i j 2
      rw [show trdM A B i j ((2 : Nat) : Int) = (X, Y, true) from h] at h1
      simp only at h1
      omega
    · obtain ⟨a, b, rfl, rfl, h1, h2, rfl, rfl⟩ := tal_yes h
      simp only [List.length_append, List.length_take, List.length_drop]
      omega
    · obtain ⟨a, b, rfl, rfl, h1, h2, rfl, rfl⟩ := trn_yes h
      simp only [List.length_append, List.length_take, List.length_drop, List.length_reverse]
      omega
    · obtain ⟨s, it, s', it', f, hw, hw2, hf, rfl, rfl⟩ := swp_yes h
      rw [put_len hf, List.length_append, visL_len]
      have h1 := out_len (whF_whl hw)
      have h2 := out_len (whF_whl hw2)
      omega
end Go.Proofs.Ytdnkmjafkpnliaa
