/-
  What slices.Reverse does to a part of a row of visits, and a line's TwoOpt.
-/
import Derived.Test.YtdnkmjafkpnliaaLnC
namespace Go.Proofs.Ytdnkmjafkpnliaa
open Go.RowKit

/-- The n visits from a on the other way round. -/
def revM (L : List Vst) (a n : Nat) : List Vst := L.take a ++ (((L.drop a).take n).reverse ++ L.drop (a + n))
theorem revM_len {L : List Vst} {a n : Nat} (h : a + n ≤ L.length) : (revM L a n).length = L.length := by
  unfold revM
  simp only [List.length_append, List.length_reverse, List.length_take, List.length_drop]
  omega
def rkI (a n k p : Nat) : Nat := if a ≤ p ∧ p < a + n ∧ (p - a < k ∨ n - k ≤ p - a) then a + (n - 1 - (p - a)) else p
/-- The outer k visits on either side have changed places. -/
def RK (L : List Vst) (a n k : Nat) : List Vst := (List.range L.length).map fun p => L.getD (rkI a n k p) (0, 0)
theorem RK_len (L : List Vst) (a n k : Nat) : (RK L a n k).length = L.length := by simp [RK]
theorem RK_get {L : List Vst} {a n k p : Nat} (hp : p < L.length) : (RK L a n k)[p]? = some (L.getD (rkI a n k p) (0, 0)) := by simp [RK, hp]
theorem getD_some {L : List Vst} {p : Nat} (hp : p < L.length) : L[p]? = some (L.getD p (0, 0)) := by simp [hp]
theorem RK_zero (L : List Vst) (a n : Nat) : RK L a n 0 = L := by
  refine List.ext_getElem? fun p => ?_
  by_cases hp : p < L.length
  · rw [RK_get hp, getD_some hp]
    have : rkI a n 0 p = p := by unfold rkI; rw [if_neg (by omega)]
    rw [this]
  · rw [List.getElem?_eq_none (by rw [RK_len]; omega), List.getElem?_eq_none (by omega)]
theorem RK_step {L : List Vst} {a n k : Nat} (hk : k + k + 1 < n) : RK L a n (k + 1) = ((RK L a n k).set (a + k) (L.getD (a + (n - 1 - k)) (0, 0))).set (a + (n - 1 - k)) (L.getD (a + k) (0, 0)) := by
  refine List.ext_getElem? fun p => ?_
  by_cases hp : p < L.length
  · rw [RK_get hp]
    by_cases e1 : p = a + (n - 1 - k)
    · subst e1
      rw [List.getElem?_set_self (by rw [List.length_set, RK_len]; exact hp)]
      have : rkI a n (k + 1) (a + (n - 1 - k)) = a + k := by unfold rkI; rw [if_pos (by omega)]; omega
      rw [this]
    · rw [List.getElem?_set_ne (fun e => e1 e.symm)]
      by_cases e2 : p = a + k
      · subst e2
        rw [List.getElem?_set_self (by rw [RK_len]; exact hp)]
        have : rkI a n (k + 1) (a + k) = a + (n - 1 - k) := by unfold rkI; rw [if_pos (by omega)]; omega
        rw [this]
      · rw [List.getElem?_set_ne (fun e => e2 e.symm), RK_get hp]
        have : rkI a n (k + 1) p = rkI a n k p := by
          unfold rkI
          by_cases hc : a ≤ p ∧ p < a + n ∧ (p - a < k ∨ n - k ≤ p - a)
          · rw [if_pos hc, if_pos (by omega)]
          · rw [if_neg hc, if_neg (by omega)]
        rw [this]
  · rw [List.getElem?_eq_none (by rw [RK_len]; omega), List.getElem?_eq_none (by rw [List.length_set, List.length_set, RK_len]; omega)]
theorem RK_end {L : List Vst} {a n k : Nat} (h : a + n ≤ L.length) (hk : n ≤ k + k + 1) : RK L a n k = revM L a n := by
  refine List.ext_getElem? fun p => ?_
  by_cases hp : p < L.length
  · rw [RK_get hp]
    unfold revM
    by_cases h1 : p < a
    · rw [List.getElem?_append_left (by rw [List.length_take]; omega), List.getElem?_take_of_lt h1, getD_some hp]
      have : rkI a n k p = p := by unfold rkI; rw [if_neg (by omega)]
      rw [this]
    · rw [List.getElem?_append_right (by rw [List.length_take]; omega), List.length_take, Nat.min_eq_left (by omega)]
      by_cases h2 : p < a + n
      · rw [List.getElem?_append_left (by rw [List.length_reverse, List.length_take, List.length_drop]; omega), List.getElem?_reverse (by rw [List.length_take, List.length_drop]; omega), List.length_take, List.length_drop, Nat.min_eq_left (by omega), List.getElem?_take_of_lt (by omega), List.getElem?_drop, getD_some (by omega)]
        congr 2
        unfold rkI
        by_cases hc : a ≤ p ∧ p < a + n ∧ (p - a < k ∨ n - k ≤ p - a)
        · rw [if_pos hc]
        · rw [if_neg hc]; omega
      · rw [List.getElem?_append_right (by rw [List.length_reverse, List.length_take, List.length_drop]; omega), List.length_reverse, List.length_take, List.length_drop, Nat.min_eq_left (by omega), List.getElem?_drop, getD_some (by omega)]
        have : rkI a n k p = a + n + (p - a - n) := by unfold rkI; rw [if_neg (by omega)]; omega
        rw [this]
  · rw [List.getElem?_eq_none (by rw [RK_len]; omega), List.getElem?_eq_none (by rw [revM_len h]; omega)]
theorem grw_drew {w w' : World} {r : Option Nat} (h : w.grownBy w' r) : w.grownBy w'.drew r := ⟨h.os, h.tape, h.output, h.size, h.block⟩
/-- A cell of one block turns, then a block that was not there: nothing else that was there has turned. -/
theorem grw_two {w w2 w3 : World} {lb g : Nat} {u : Value} (h : w.grownBy w2 (some lb)) (hg : w.heap.size ≤ g) (k : (w2.setCell ⟨lb, 0, none⟩ u).grownBy w3 (some g)) : w.grownBy w3 (some lb) := by
  have h1 := grw_set h 0 u
  exact ⟨k.os.trans h1.os, k.tape.trans h1.tape, k.output.trans h1.output, Nat.le_trans h1.size k.size, fun q hq hn => (k.block q (Nat.lt_of_lt_of_le hq h1.size) fun e => by injection e with e; omega).trans (h1.block q hq hn)⟩
theorem flat_set : ∀ (R : List Vst) (p : Nat) (v : Vst), flatV (R.set p v) = ((flatV R).set (p * 2) (.int .i64 v.1)).set (p * 2 + 1) (.int .i64 v.2)
  | [], p, v => by simp [flatV]
  | u :: R, 0, v => by simp [flatV, encV]
  | u :: R, p + 1, v => by
    have ih := flat_set R p v
    show encV u ++ flatV (R.set p v) = ((encV u ++ flatV R).set ((p + 1) * 2) _).set ((p + 1) * 2 + 1) _
    rw [ih, show (p + 1) * 2 = p * 2 + 2 by omega]
    rfl
theorem VRow.cells {w : World} {base g m c : Nat} {L : List Vst} (h : VRow w base (.slice (some ⟨g, 0, none⟩) m c) L) (hm : L.length = m) {p : Nat} {u : Vst} (hu : L[p]? = some u) : w.cell? ⟨g, p * 2, none⟩ = some (.int .i64 u.1) ∧ w.cell? ⟨g, p * 2 + 1, none⟩ = some (.int .i64 u.2) := by
  have h' : w.ownsRow base 58 2 (.slice (some ⟨g, 0, none⟩) m c) m (flatV L) := by rw [← hm]; rw [← hm] at h; exact h
  exact ⟨own_cell h' _ _ (flatV_get L p 0 u hu (by decide)), own_cell h' _ _ (flatV_get L p 1 u hu (by decide))⟩
theorem VRow.set {w : World} {base g m c : Nat} {L : List Vst} (h : VRow w base (.slice (some ⟨g, 0, none⟩) m c) L) (hm : L.length = m) (p : Nat) (v : Vst) : VRow ((w.setCell ⟨g, p * 2, none⟩ (.int .i64 v.1)).setCell ⟨g, p * 2 + 1, none⟩ (.int .i64 v.2)) base (.slice (some ⟨g, 0, none⟩) m c) (L.set p v) := by
  have h' : w.ownsRow base 58 2 (.slice (some ⟨g, 0, none⟩) m c) m (flatV L) := by rw [← hm]; rw [← hm] at h; exact h
  have h2 := own_set (own_set h' (p * 2) (.int .i64 v.1)) (p * 2 + 1) (.int .i64 v.2)
  rw [← flat_set] at h2
  unfold VRow
  rw [List.length_set, hm]
  exact h2
theorem VRow.frozen {w : World} {base g m c : Nat} {L : List Vst} (h : VRow w base (.slice (some ⟨g, 0, none⟩) m c) L) (j : Nat) : w.frozen? ⟨g, j, none⟩ = false := by
  rcases h.2 with ⟨e, _⟩ | ⟨g2, cap2, cur, e, _, hb, _⟩
  · cases e
  · injection e with e1
    injection e1 with e1
    injection e1 with e1
    subst e1
    exact frz_row hb
set_option maxRecDepth 100000 in
set_option maxHeartbeats 6400000 in
theorem reverse_any {w : World} {base g a n c m cap : Nat} {L : List Vst} (h : VRow w base (.slice (some ⟨g, 0, none⟩) m cap) L) (hm : L.length = m) (ha : a + n ≤ m) (hm2 : m ≤ 900) : Calls Try.prog 54 #[.slice (some ⟨g, a * 2, none⟩) n c] w fun e w' => e = .returned (.tuple #[]) ∧ VRow w' base (.slice (some ⟨g, 0, none⟩) m cap) (revM L a n) ∧ w.grownBy w' (some g) := by
  have HR0 : Hid (VRow w base (.slice (some ⟨g, 0, none⟩) m cap) (RK L a n 0)) := by rw [RK_zero]; exact h
  have HM := hide hm
  have HLE : Hid (a + n ≤ L.length) := by show _ ≤ _; rw [hm]; exact ha
  clear h hm
  have w0 : IntKind.i64.wrap ((n : Int) - 1) = (n : Int) - 1 := by rw [IntKind.wrap_i64]; omega
  go_enter Try.func54, Try.ntmps54
  go_wp2_with fail
  clear w0
  go_loopw [2, 3] (fun v2 v3 wr => ∃ k : Nat, v2 = .int .i64 k ∧ v3 = .int .i64 ((n : Int) - 1 - (k : Int)) ∧ k ≤ n ∧ Hid (VRow wr base (.slice (some ⟨g, 0, none⟩) m cap) (RK L a n k)) ∧ Hid (w.grownBy wr (some g))) (fun v2 _ _ => n - (intOf v2).toNat)
  case atStart => exact ⟨0, rfl, by simp, Nat.zero_le _, HR0.out, grw_refl _ _⟩
  case round =>
    obtain ⟨k, rfl, rfl, hk, HR, HG⟩ := hrel
    by_cases hlt : (k : Int) < (n : Int) - 1 - (k : Int)
    · obtain ⟨q, hq⟩ : ∃ q : Nat, (n : Int) - 1 - (k : Int) = (q : Int) := ⟨n - 1 - k, by omega⟩
      have hqe : q = n - 1 - k := by omega
      have HKL : Hid ((RK L a n k).length = m) := by show _ = _; rw [RK_len, HM.out]
      obtain ⟨u, hu⟩ : ∃ u, (RK L a n k)[a + k]? = some u := ⟨_, List.getElem?_eq_getElem (by rw [HKL.out]; omega)⟩
      obtain ⟨v, hv⟩ : ∃ v, (RK L a n k)[a + q]? = some v := ⟨_, List.getElem?_eq_getElem (by rw [HKL.out]; omega)⟩
      have eu : u = L.getD (a + k) (0, 0) := by
        rw [RK_get (by rw [HM.out]; omega)] at hu
        injection hu with hu
        rw [← hu]
        have : rkI a n k (a + k) = a + k := by unfold rkI; rw [if_neg (by omega)]
        rw [this]
      have ev : v = L.getD (a + (n - 1 - k)) (0, 0) := by
        rw [RK_get (by rw [HM.out]; omega)] at hv
        injection hv with hv
        rw [← hv]
        have : rkI a n k (a + q) = a + (n - 1 - k) := by unfold rkI; rw [if_neg (by omega)]; omega
        rw [this]
      have HST : Hid (RK L a n (k + 1) = ((RK L a n k).set (a + k) v).set (a + q) u) := by show _ = _; rw [RK_step (by omega), ← eu, ← ev, hqe]
      have cu := VRow.cells HR.out HKL.out hu
      have cv := VRow.cells HR.out HKL.out hv
      obtain ⟨u1, u2⟩ := u
      obtain ⟨v1, v2⟩ := v
      rw [Nat.add_mul] at cu cv
      obtain ⟨cu1, cu2⟩ := cu
      obtain ⟨cv1, cv2⟩ := cv
      simp only at cu1 cu2 cv1 cv2
      have hfz := VRow.frozen HR.out
      rw [hq]
      have i1 : (k : Int) < (q : Int) := by omega
      have i2 : (0 : Int) ≤ (k : Int) := by omega
      have i3 : (k : Int) < (n : Int) := by omega
      have i4 : ¬ (n : Int) ≤ (k : Int) := by omega
      have i5 : (0 : Int) ≤ (q : Int) := by omega
      have i6 : (q : Int) < (n : Int) := by omega
      have i7 : ¬ (n : Int) ≤ (q : Int) := by omega
      have hd : ¬ a * 2 + k * 2 = a * 2 + q * 2 := by omega
      have w1 : IntKind.i64.wrap ((k : Int) + 1) = ((k + 1 : Nat) : Int) := by rw [IntKind.wrap_i64]; omega
      have w2 : IntKind.i64.wrap ((q : Int) - 1) = (n : Int) - 1 - ((k + 1 : Nat) : Int) := by rw [IntKind.wrap_i64]; omega
      have HQE := hide hqe
      clear hu hv eu ev hq hlt hqe
      go_wp2_with fail
      go_region
      have hr : ∀ W2, W2 = ((((wr.setCell ⟨g, a * 2 + k * 2, none⟩ (.int .i64 v1)).setCell ⟨g, a * 2 + k * 2 + 1, none⟩ (.int .i64 v2)).setCell ⟨g, a * 2 + q * 2, none⟩ (.int .i64 u1)).setCell ⟨g, a * 2 + q * 2 + 1, none⟩ (.int .i64 u2)) → VRow W2 base (.slice (some ⟨g, 0, none⟩) m cap) (RK L a n (k + 1)) := fun W2 e9 => by
        have h9 := VRow.set (VRow.set HR.out HKL.out (a + k) (v1, v2)) (by rw [List.length_set]; exact HKL.out) (a + q) (u1, u2)
        rw [Nat.add_mul, Nat.add_mul] at h9
        rw [e9, HST.out]
        exact h9
      have HH := hide hr
      clear hr
      go_wp2_with fail
      go_roundw
      case rel =>
        refine ⟨k + 1, rfl, rfl, by omega, ?_, ?_⟩
        · first | exact HH.out _ rfl | exact (HH.out _ rfl).later (Nat.le_refl _) ((Below.refl _ _).drew)
        · show World.grownBy _ _ _
          have h9 := HG.out
          repeat (first | (with_reducible exact h9) | (with_reducible refine grw_set ?_ _ _) | (refine grw_drew ?_))
      case measure => simp [intOf]; omega
    · have HE := hide (RK_end (k := k) HLE.out (by omega))
      have i1 : ¬ (k : Int) < (n : Int) - 1 - (k : Int) := hlt
      go_wp2_with fail
      go_end0
      exact ⟨rfl, by rw [← HE.out]; exact HR.out, HG.out⟩
/-- What TwoOpt answers. -/
def twM (V : List Vst) (i j : Int) : List Vst × Bool := if riseB V.length i j = true then (revM V i.toNat (j.toNat + 1 - i.toNat), true) else (V, false)
set_option maxRecDepth 100000 in
set_option maxHeartbeats 6400000 in
theorem twoopt_any {w : World} {lb : Nat} {V : List Vst} (h : LineV w lb V) (hm : V.length ≤ 900) (i j k : Int) : Calls Try.prog 31 #[.pointer (some ⟨lb, 0, none⟩), .int .i64 i, .int .i64 j, .int .i64 k] w (ChQ w lb (twM V i j)) := by
  obtain ⟨ad, c, h1, h2, h3, h4, h5, h6, h7⟩ := h.open (by omega)
  have HL := hide h
  have HX := hide h1
  obtain ⟨n, hn⟩ : ∃ n, V.length = n := ⟨_, rfl⟩
  have HN := hide hn
  have HV := hide h3
  have HP := hide h7
  rw [hn] at HX HV h5 hm HP
  have H4 := hide h4
  clear h h1 h2 h3 h4 h6 h7
  have H31 := hide (rise_any i j HX.out)
  obtain ⟨r, hr⟩ : ∃ r, riseB n i j = r := ⟨_, rfl⟩
  rw [hr] at H31
  cases r with
  | false =>
    have HR : Hid (twM V i j = (V, false)) := by show _ = _; unfold twM; rw [hn, hr]; rfl
    clear hr hn
    go_enter Try.func31, Try.ntmps31
    go_wp2_with (first | (go_at_call 53; refine H31.out.mono ?_; rintro e w1 ⟨rfl, k1⟩; have KK := hide k1; clear k1) | fail)
    go_ret
    exact chq_no HR.out HL.out KK.out
  | true =>
    obtain ⟨a, b, rfl, rfl, hab, hbn⟩ := rise_ok hr
    have HR : Hid (twM V a b = (revM V a (b + 1 - a), true)) := by show _ = _; unfold twM; rw [hn, hr]; rfl
    clear hr hn
    have H23 : Hid (∀ W2, Below w.heap.size w W2 → Calls Try.prog 30 #[.slice ad n c] W2 fun e w' => ∃ g2 c2, e = .returned (.slice (some ⟨g2, 0, none⟩) n c2) ∧ (VRow w' W2.heap.size (.slice (some ⟨g2, 0, none⟩) n c2) V ∧ n ≤ c2) ∧ Below W2.heap.size W2 w') := fun W2 hf => by
      refine (clone_any (PrV.on HV.out hf) HN.out hm H4.out).mono ?_
      rintro e w' ⟨a', c', rfl, r1, k1⟩
      obtain ⟨g2, rfl, hc2⟩ := vrow_pos r1 (by omega)
      exact ⟨g2, c', rfl, ⟨r1, hc2⟩, k1⟩
    have H32 : Hid (∀ W2 base g2 c2 c', VRow W2 base (.slice (some ⟨g2, 0, none⟩) n c2) V → Calls Try.prog 54 #[.slice (some ⟨g2, a * 2, none⟩) (b + 1 - a) c'] W2 fun e w' => e = .returned (.tuple #[]) ∧ VRow w' base (.slice (some ⟨g2, 0, none⟩) n c2) (revM V a (b + 1 - a)) ∧ W2.grownBy w' (some g2)) := fun W2 base g2 c2 c' hr => reverse_any hr HN.out (by omega) hm
    have HLEN : Hid ((revM V a (b + 1 - a)).length = n) := by show _ = _; rw [revM_len (by rw [HN.out]; omega), HN.out]
    have w1' : IntKind.i64.wrap ((b : Int) + 1) = ((b + 1 : Nat) : Int) := by rw [IntKind.wrap_i64]; omega
    have i1 : (0 : Int) ≤ (a : Int) := by omega
    have i2 : (a : Int) ≤ ((b + 1 : Nat) : Int) := by omega
    have i0 : (0 : Int) ≤ ((b + 1 : Nat) : Int) := by omega
    go_enter Try.func31, Try.ntmps31
    go_wp2_with (first | (go_at_call 54; refine (H32.out _ w1.heap.size g2 c2 _ HRW.out).mono ?_; rintro e w3 ⟨rfl, r3, k3⟩; have R3 := hide r3; have G3 := hide k3; clear r3 k3) | (go_at_call 30; refine (H23.out _ KK.out).mono ?_; rintro e w2 ⟨g2, c2, rfl, r2, k2⟩; obtain ⟨r2, hc2⟩ := r2; have R2 := hide r2; have K2 := hide (below_on KK.out k2); have HB2 := hide ((K2.out.block lb (lt_of_block HX.out)).trans HX.out); have x2 : w2.cell? ⟨lb, 0, none⟩ = some (.slice ad n c) := cell_of_row _ _ _ _ _ _ HB2.out; have xf : w2.frozen? ⟨lb, 0, none⟩ = false := frz_row HB2.out; have ic : ((b + 1 : Nat) : Int) ≤ (c2 : Int) := (by omega); have na : ¬ c2 = a := (by omega); have HNE : Hid (g2 ≠ lb) := (by have h8 := (World.ownsRow.lt r2 g2 rfl).1; have h9 := lt_of_block HX.out; have h7 := KK.out.size; show _ ≠ _; omega); have HRW : Hid (VRow (w2.setCell ⟨lb, 0, none⟩ (.slice (some ⟨g2, 0, none⟩) n c2)) w1.heap.size (.slice (some ⟨g2, 0, none⟩) n c2) V) := (own_of_block R2.out fun g h9 => heap_setCell_other _ _ _ _ (by injection h9 with h9; rw [← h9]; exact HNE.out)); clear r2 k2) | (go_at_call 53; refine H31.out.mono ?_; rintro e w1 ⟨rfl, k1⟩; have KK := hide k1; have x1 : w1.cell? ⟨lb, 0, none⟩ = some (.slice ad n c) := cell_of_row _ _ _ _ _ _ ((k1.block lb (lt_of_block HX.out)).trans HX.out); clear k1) | fail)
    have hb3 : w3.heap[lb]? = some (.cells #[.slice (some ⟨g2, 0, none⟩) n c2] 63) := (G3.out.block lb (by have := lt_of_block HB2.out; simpa using this) (fun e => HNE.out (by injection e with e; exact e.symm))).trans (heap_setCell_same w2 lb 0 _ _ _ HB2.out)
    have HB3 := hide hb3
    clear hb3
    go_ret
    refine ⟨by rw [HR.out]; rfl, ?_, ?_⟩
    · rw [HR.out]
      refine ⟨some ⟨g2, 0, none⟩, c2, ?_, ?_, ?_⟩
      · rw [HLEN.out]; exact HB3.out
      · rw [HLEN.out]; exact R3.out.zero
      · rw [HLEN.out]
        intro g hg
        injection hg with hg
        rw [← hg]
        exact HNE.out
    · have hw : w.heap.size ≤ g2 := by have h8 := (World.ownsRow.lt R2.out g2 rfl).1; have h7 := KK.out.size; omega
      exact grw_two (below_grw K2.out) hw G3.out
end Go.Proofs.Ytdnkmjafkpnliaa
