/-
  Plain: no change loses a visit.
-/
import Derived.Test.YtdnkmjafkpnliaaIcL
import Derived.Test.YtdnkmjafkpnliaaPlS
namespace Go.Proofs.Ytdnkmjafkpnliaa
open Go.RowKit

theorem cnt_swap {V : List Vst} {a b x y : Nat} (h1 : a ≤ b) (h2 : b ≤ x) (h3 : x ≤ y) (h4 : y ≤ V.length) (v : Vst) : (swapM V a b x y).count v = V.count v := by
  obtain ⟨A, B, C, D, E, rfl, e1, e2, e3, e4⟩ := parts h1 h2 h3 h4
  have h5 := swap_parts A B C D E
  rw [e2, e3, e4, e1] at h5
  rw [h5]
  simp only [List.count_append]
  omega
theorem cnt_cut (V : List Vst) (a : Nat) (v : Vst) : (V.take a).count v + (V.drop a).count v = V.count v := by rw [← List.count_append, List.take_append_drop]
theorem cnt_rev (V : List Vst) (a n : Nat) (v : Vst) : (revM V a n).count v = V.count v := by
  unfold revM
  rw [List.count_append, List.count_append, List.count_reverse, ← List.drop_drop, cnt_cut, cnt_cut]
theorem cnt_ins (L : List Vst) (i : Nat) (u v : Vst) : (insM L i u).count v = L.count v + (if u = v then 1 else 0) := by
  unfold insM
  rw [List.count_append, List.count_cons]
  have h := cnt_cut L i v
  by_cases e : u = v
  · subst e; simp; omega
  · rw [if_neg e, if_neg (by simpa using e)]; omega
theorem cnt_out {s : Bool} {it : Int} {V : List Vst} (h : whlB s it V = true) (v : Vst) : (outM s it V).count v + (visL s it).count v = V.count v := by
  by_cases hv : v ∈ visL s it
  · have h1 : (outM s it V).count v = 0 := by
      rw [List.count_eq_zero]
      intro h9
      have := List.mem_filter.1 h9
      rw [con_yes hv] at this
      exact absurd this.2 (by simp)
    have h2 : V.count v = 1 := by
      have := List.all_eq_true.1 h v hv
      simpa using this
    have h3 : (visL s it).count v = 1 := by
      cases s with
      | false =>
        have e : visL false it = [(1, it)] := rfl
        rw [e] at hv ⊢
        have : v = (1, it) := by simpa using hv
        subst this
        simp
      | true =>
        have e : visL true it = [(2, it), (3, it)] := rfl
        rw [e] at hv ⊢
        rcases (show v = (2, it) ∨ v = (3, it) by simpa using hv) with rfl | rfl <;> simp
    omega
  · have h1 : (outM s it V).count v = V.count v := by
      unfold outM
      rw [List.count_filter]
      exact con_no hv
    rw [h1, List.count_eq_zero.2 hv]
    omega
theorem cnt_put (s : Bool) (it : Int) (V : List Vst) (j k : Nat) (v : Vst) : (putL s it V j k).count v = V.count v + (visL s it).count v := by
  cases s with
  | false =>
    have e : visL false it = [(1, it)] := rfl
    rw [e]
    unfold putL
    rw [if_neg (by simp), cnt_ins, List.count_cons, List.count_nil]
    by_cases h : ((1, it) : Vst) = v
    · rw [if_pos h, if_pos (by simpa using h)]
    · rw [if_neg h, if_neg (by simpa using h)]
  | true =>
    have e : visL true it = [(2, it), (3, it)] := rfl
    rw [e]
    unfold putL
    rw [if_pos rfl, cnt_ins, cnt_ins, List.count_cons, List.count_cons, List.count_nil]
    by_cases h : ((2, it) : Vst) = v
    · by_cases h2 : ((3, it) : Vst) = v
      · rw [← h] at h2; simp at h2
      · rw [if_pos h, if_neg h2, if_neg (by simpa using h2), if_pos (by simpa using h)]
    · by_cases h2 : ((3, it) : Vst) = v
      · rw [if_neg h, if_pos h2, if_pos (by simpa using h2), if_neg (by simpa using h)]
      · rw [if_neg h, if_neg h2, if_neg (by simpa using h2), if_neg (by simpa using h)]
theorem cnt_or (V : List Vst) (i j m : Int) (v : Vst) : (orM V i j m).1.count v = V.count v := by
  unfold orM
  by_cases hc : 1 ≤ m ∧ m ≤ 3 ∧ 0 ≤ i ∧ i ≤ (V.length : Int) - m ∧ 0 ≤ j ∧ j ≤ (V.length : Int) - m ∧ i ≠ j
  · rw [if_pos hc]
    by_cases hlt : i < j
    · rw [if_pos hlt]; refine cnt_swap ?_ ?_ ?_ ?_ v <;> omega
    · rw [if_neg hlt]; refine cnt_swap ?_ ?_ ?_ ?_ v <;> omega
  · rw [if_neg hc]
theorem cnt_pair (V : List Vst) (i j k : Int) (v : Vst) : (pairM V i j k).1.count v = V.count v := by
  obtain ⟨⟨G, b⟩, hq⟩ : ∃ q, pairM V i j k = q := ⟨_, rfl⟩
  rw [hq]
  cases b with
  | false => rw [pair_false hq]
  | true =>
    obtain ⟨ii, jj, kk, kd, it, rfl, rfl, rfl, hjk, hkn, hu, rfl, hO⟩ := pair_true hq
    rw [pair_at hu] at hq
    split at hq
    · rename_i hc
      have hw : whlB true it V = true := by
        have e : whlB true it V = ((V.count (2, it) == 1) && (V.count (3, it) == 1)) := by unfold whlB; simp [visL]
        rw [e, hc.2.2.1, hc.2.2.2]
        rfl
      have h1 := cnt_out hw v
      have h2 := cnt_put true it (outM true it V) jj kk v
      unfold putL at h2
      rw [if_pos rfl, out_oth] at h2
      rw [out_oth] at h1
      show (insM (insM (oth it V) jj (2, it)) kk (3, it)).count v = _
      omega
    · injection hq with _ hq
      cases hq
theorem inner_cnt (V : List Vst) (c : Nat) (i j k : Int) (v : Vst) : (innerM V c i j k).1.count v = V.count v := by
  unfold innerM
  split
  · unfold twM
    split
    · exact cnt_rev _ _ _ v
    · rfl
  · exact cnt_or V i j k v
  · exact cnt_or V i j 1 v
  · unfold exM
    cases hr : riseB V.length i j with
    | false => rfl
    | true =>
      obtain ⟨a, b, rfl, rfl, hab, hbn⟩ := rise_ok hr
      exact cnt_swap (by simp only [Int.toNat_natCast]; omega) (by simp only [Int.toNat_natCast]; omega) (by simp only [Int.toNat_natCast]; omega) (by simp only [Int.toNat_natCast]; omega) v
  · unfold mixM
    by_cases hc : 0 ≤ i ∧ i ≤ (V.length : Int) - 1 ∧ 0 ≤ j ∧ j ≤ (V.length : Int) - 2 ∧ i ≠ j ∧ i ≠ j + 1
    · rw [if_pos hc]
      by_cases hlt : i < j
      · rw [if_pos hlt]; refine cnt_swap ?_ ?_ ?_ ?_ v <;> omega
      · rw [if_neg hlt]; refine cnt_swap ?_ ?_ ?_ ?_ v <;> omega
    · rw [if_neg hc]
  · exact cnt_pair V i j k v
theorem trd_cnt (A B : List Vst) (i j : Int) (k : Nat) (v : Vst) : (trdM A B i j k).1.count v + (trdM A B i j k).2.1.count v = A.count v + B.count v := by
  unfold trdM
  by_cases hc : (witB i ((A.length : Int) - k) && witB j ((B.length : Int) - k)) = true
  · rw [if_pos hc]
    obtain ⟨a, b, rfl, rfl, h1, h2⟩ := trd_ok hc
    simp only [Int.toNat_natCast, List.count_append]
    have e1 := cnt_cut A a v
    have e2 := cnt_cut (A.drop a) k v
    have e3 := cnt_cut B b v
    have e4 := cnt_cut (B.drop b) k v
    rw [List.drop_drop] at e2 e4
    omega
  · rw [if_neg hc]
theorem inter_cnt {A B X Y : List Vst} {c : Nat} {i j k : Int} {ok : Bool} (hc : c < 6) (h : interM A B c i j k = (X, Y, ok)) (v : Vst) : X.count v + Y.count v = A.count v + B.count v := by
  cases ok with
  | false => obtain ⟨rfl, rfl⟩ := inter_no hc h; rfl
  | true =>
    rcases (show c = 0 ∨ c = 1 ∨ c = 2 ∨ c = 3 ∨ c = 4 ∨ c = 5 by omega) with rfl | rfl | rfl | rfl | rfl | rfl
    · obtain ⟨s, it, hw, hf, rfl, rfl⟩ := rel_yes h
      have h1 := cnt_out (whF_whl hw) v
      rw [cnt_put]
      omega
    · have h1 := trd_cnt A B i j 1 v
      rw [show trdM A B i j ((1 : Nat) : Int) = (X, Y, true) from h] at h1
      exact h1
    · have h1 := trd_cnt A B i j 2 v
      rw [show trdM A B i j ((2 : Nat) : Int) = (X, Y, true) from h] at h1
      exact h1
    · obtain ⟨a, b, rfl, rfl, h1, h2, rfl, rfl⟩ := tal_yes h
      have e1 := cnt_cut A a v
      have e3 := cnt_cut B b v
      simp only [List.count_append]
      omega
    · obtain ⟨a, b, rfl, rfl, h1, h2, rfl, rfl⟩ := trn_yes h
      have e1 := cnt_cut A a v
      have e3 := cnt_cut B b v
      simp only [List.count_append, List.count_reverse]
      omega
    · obtain ⟨s, it, s', it', f, hw, hw2, hf, rfl, rfl⟩ := swp_yes h
      have h1 := cnt_out (whF_whl hw) v
      have h2 := cnt_out (whF_whl hw2) v
      rw [cnt_put, List.count_append]
      omega
end Go.Proofs.Ytdnkmjafkpnliaa
