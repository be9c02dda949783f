/-
  What the calls of a line's Exchange, OrOpt, Relocate and Mixed do.
-/
import Derived.Test.YtdnkmjafkpnliaaLnB
namespace Go.Proofs.Ytdnkmjafkpnliaa
open Go.RowKit

def exM (V : List Vst) (i j : Int) : List Vst × Bool := if riseB V.length i j = true then (swapM V i.toNat (i.toNat + 1) j.toNat (j.toNat + 1), true) else (V, false)
def orM (V : List Vst) (i j m : Int) : List Vst × Bool := if 1 ≤ m ∧ m ≤ 3 ∧ 0 ≤ i ∧ i ≤ (V.length : Int) - m ∧ 0 ≤ j ∧ j ≤ (V.length : Int) - m ∧ i ≠ j then (if i < j then swapM V i.toNat (i.toNat + m.toNat) (i.toNat + m.toNat) (j.toNat + m.toNat) else swapM V j.toNat i.toNat i.toNat (i.toNat + m.toNat), true) else (V, false)
def mixM (V : List Vst) (i j : Int) : List Vst × Bool := if 0 ≤ i ∧ i ≤ (V.length : Int) - 1 ∧ 0 ≤ j ∧ j ≤ (V.length : Int) - 2 ∧ i ≠ j ∧ i ≠ j + 1 then (if i < j then swapM V i.toNat (i.toNat + 1) j.toNat (j.toNat + 2) else swapM V j.toNat (j.toNat + 2) i.toNat (i.toNat + 1), true) else (V, false)
/-- What a change leaves behind. -/
def ChQ (w : World) (lb : Nat) (r : List Vst × Bool) (e : Ending) (w' : World) : Prop := e = .returned (.bool r.2) ∧ LineV w' lb r.1 ∧ w.grownBy w' (some lb)
theorem chq_no {w w' : World} {lb : Nat} {V : List Vst} {r : List Vst × Bool} (hr : r = (V, false)) (h : LineV w lb V) (f : Below w.heap.size w w') : ChQ w lb r (.returned (.bool false)) w' := by
  subst hr
  exact ⟨rfl, h.on f, below_grw f⟩
theorem chq_yes {w w1 w' : World} {lb : Nat} {V : List Vst} {r : List Vst × Bool} (hr : r = (V, true)) (f : Below w.heap.size w w1) (h : LineV w' lb V) (g : w1.grownBy w' (some lb)) : ChQ w lb r (.returned (.bool true)) w' := by
  subst hr
  exact ⟨rfl, h, grw_trans (below_grw f) g⟩
theorem rise_ok {n : Nat} {i j : Int} (h : riseB n i j = true) : ∃ a b : Nat, i = a ∧ j = b ∧ a < b ∧ b < n := by
  unfold riseB at h
  simp only [Bool.and_eq_true, decide_eq_true_eq] at h
  exact ⟨i.toNat, j.toNat, by omega, by omega, by omega, by omega⟩
theorem wit_ok {i l : Int} (h : witB i l = true) : 0 ≤ i ∧ i ≤ l := by
  unfold witB at h
  simp only [Bool.and_eq_true, decide_eq_true_eq] at h
  exact h
theorem wit_no {i l : Int} (h : witB i l = false) : ¬ (0 ≤ i ∧ i ≤ l) := fun k => by
  unfold witB at h
  rw [decide_eq_true k.1, decide_eq_true k.2] at h
  cases h
set_option maxRecDepth 100000 in
set_option maxHeartbeats 6400000 in
theorem exchange_any {w : World} {lb : Nat} {V : List Vst} (h : LineV w lb V) (hm : V.length ≤ 900) (i j k : Int) : Calls Try.prog 34 #[.pointer (some ⟨lb, 0, none⟩), .int .i64 i, .int .i64 j, .int .i64 k] w (ChQ w lb (exM V i j)) := by
  obtain ⟨ad, c, h1, h2, h3, h4, h5, h6, h7⟩ := h.open (by omega)
  have HL := hide h
  have HX := hide h1
  obtain ⟨n, hn⟩ : ∃ n, V.length = n := ⟨_, rfl⟩
  have HN := hide hn
  have HV := hide h3
  have HP := hide h7
  rw [hn] at HX HV h5 hm HP
  clear h h1 h2 h3 h4 h6 h7
  have H31 := hide (rise_any i j HX.out)
  obtain ⟨r, hr⟩ : ∃ r, riseB n i j = r := ⟨_, rfl⟩
  rw [hr] at H31
  cases r with
  | false =>
    have HR : Hid (exM V i j = (V, false)) := by show _ = _; unfold exM; rw [hn, hr]; rfl
    clear hr hn
    go_enter Try.func34, Try.ntmps34
    go_wp2_with (first | (go_at_call 53; refine H31.out.mono ?_; rintro e w1 ⟨rfl, k1⟩; have KK := hide k1; clear k1) | fail)
    go_ret
    exact chq_no HR.out HL.out KK.out
  | true =>
    obtain ⟨a, b, rfl, rfl, hab, hbn⟩ := rise_ok hr
    have HR : Hid (exM V a b = (swapM V a (a + 1) b (b + 1), true)) := by show _ = _; unfold exM; rw [hn, hr]; rfl
    clear hr hn
    obtain ⟨g, hg, _⟩ := HP.out (by omega)
    subst hg
    have H33 : Hid (∀ W2, Below w.heap.size w W2 → Calls Try.prog 52 #[.pointer (some ⟨lb, 0, none⟩), .int .i64 ((a : Int)), .int .i64 ((a : Int) + 1), .int .i64 ((b : Int)), .int .i64 ((b : Int) + 1)] W2 fun e w' => e = .returned (.tuple #[]) ∧ LineV w' lb (swapM V (a) (a + 1) (b) (b + 1)) ∧ W2.grownBy w' (some lb)) := fun W2 hf => by
      have h9 := swap_any (a := a) (b := a + 1) (x := b) (y := b + 1) ((hf.block lb (lt_of_block HX.out)).trans HX.out) (PrV.on HV.out hf) HN.out hm h5 (by omega) (by omega) (by omega) (by omega)
      simp only [Int.natCast_add, Int.cast_ofNat_Int] at h9
      exact h9
    have w1 : IntKind.i64.wrap ((a : Int) + 1) = (a : Int) + 1 := by rw [IntKind.wrap_i64]; omega
    have w2 : IntKind.i64.wrap ((b : Int) + 1) = (b : Int) + 1 := by rw [IntKind.wrap_i64]; omega
    go_enter Try.func34, Try.ntmps34
    go_wp2_with (first | (go_at_call 52; refine (H33.out _ KK.out).mono ?_; rintro e w9 ⟨rfl, q9, k9⟩; have L9 := hide q9; have G9 := hide k9; clear q9 k9) | (go_at_call 53; refine H31.out.mono ?_; rintro e w1 ⟨rfl, k1⟩; have KK := hide k1; clear k1) | fail)
    go_ret
    exact chq_yes HR.out KK.out L9.out G9.out
set_option maxRecDepth 100000 in
set_option maxHeartbeats 6400000 in
theorem oropt_any {w : World} {lb : Nat} {V : List Vst} (h : LineV w lb V) (hm : V.length ≤ 900) (i j m : Int) : Calls Try.prog 32 #[.pointer (some ⟨lb, 0, none⟩), .int .i64 i, .int .i64 j, .int .i64 m] w (ChQ w lb (orM V i j m)) := by
  obtain ⟨ad, c, h1, h2, h3, h4, h5, h6, h7⟩ := h.open (by omega)
  have HL := hide h
  have HX := hide h1
  obtain ⟨n, hn⟩ : ∃ n, V.length = n := ⟨_, rfl⟩
  have HN := hide hn
  have HV := hide h3
  have HP := hide h7
  rw [hn] at HX HV h5 hm HP
  clear h h1 h2 h3 h4 h6 h7
  by_cases m1 : m < 1
  · have HR : Hid (orM V i j m = (V, false)) := by show _ = _; unfold orM; rw [hn, if_neg (by omega)]
    go_enter Try.func32, Try.ntmps32
    go_wp2_with (first | (go_at_call 42; refine (kept_any HX.out).mono ?_; rintro e w1 ⟨rfl, k1⟩; have K1 := hide k1; have KK := K1; clear k1) | fail)
    go_ret
    exact chq_no HR.out HL.out KK.out
  · by_cases m2 : m > 3
    · have HR : Hid (orM V i j m = (V, false)) := by show _ = _; unfold orM; rw [hn, if_neg (by omega)]
      have m2' : 3 < m := by omega
      go_enter Try.func32, Try.ntmps32
      go_wp2_with (first | (go_at_call 42; refine (kept_any HX.out).mono ?_; rintro e w1 ⟨rfl, k1⟩; have K1 := hide k1; have KK := K1; clear k1) | fail)
      go_ret
      exact chq_no HR.out HL.out KK.out
    · have m2' : ¬ 3 < m := by omega
      have w0 : IntKind.i64.wrap ((n : Int) - m) = (n : Int) - m := by rw [IntKind.wrap_i64]; omega
      obtain ⟨b1, hb1⟩ : ∃ b, witB i ((n : Int) - m) = b := ⟨_, rfl⟩
      have HB1 := hide hb1
      obtain ⟨b2, hb2⟩ : ∃ b, witB j ((n : Int) - m) = b := ⟨_, rfl⟩
      have HB2 := hide hb2
      cases b1 with
      | false =>
        have q1 := wit_no hb1
        have HR : Hid (orM V i j m = (V, false)) := by show _ = _; unfold orM; rw [hn, if_neg (by omega)]
        clear hb1 hb2 hn q1
        go_enter Try.func32, Try.ntmps32
        go_wp2_with (first | (go_at_call 51; refine (within_any _ _ _).mono ?_; rintro e w2 ⟨rfl, k2⟩; rw [HB1.out]; have K2 := hide (below_on K1.out k2); clear k2 KK; have KK := K2) | (go_at_call 42; refine (kept_any HX.out).mono ?_; rintro e w1 ⟨rfl, k1⟩; have K1 := hide k1; have KK := K1; clear k1) | fail)
        go_ret
        exact chq_no HR.out HL.out KK.out
      | true =>
        have q1 := wit_ok hb1
        cases b2 with
        | false =>
          have q2 := wit_no hb2
          have HR : Hid (orM V i j m = (V, false)) := by show _ = _; unfold orM; rw [hn, if_neg (by omega)]
          clear hb1 hb2 hn q1 q2
          go_enter Try.func32, Try.ntmps32
          go_wp2_with (first | (go_at_call 51; refine (within_any _ _ _).mono ?_; rintro e w3 ⟨rfl, k3⟩; rw [HB2.out]; have K3 := hide (below_on K2.out k3); clear k3 KK; have KK := K3) | (go_at_call 51; refine (within_any _ _ _).mono ?_; rintro e w2 ⟨rfl, k2⟩; rw [HB1.out]; have K2 := hide (below_on K1.out k2); clear k2 KK; have KK := K2) | (go_at_call 42; refine (kept_any HX.out).mono ?_; rintro e w1 ⟨rfl, k1⟩; have K1 := hide k1; have KK := K1; clear k1) | fail)
          go_ret
          exact chq_no HR.out HL.out KK.out
        | true =>
          have q2 := wit_ok hb2
          by_cases hij : i = j
          · have y1 : (i == j) = true := by simpa using hij
            have HR : Hid (orM V i j m = (V, false)) := by show _ = _; unfold orM; rw [hn, if_neg (by omega)]
            clear hb1 hb2 hn q1 q2 hij
            go_enter Try.func32, Try.ntmps32
            go_wp2_with (first | (go_at_call 51; refine (within_any _ _ _).mono ?_; rintro e w3 ⟨rfl, k3⟩; rw [HB2.out]; have K3 := hide (below_on K2.out k3); clear k3 KK; have KK := K3) | (go_at_call 51; refine (within_any _ _ _).mono ?_; rintro e w2 ⟨rfl, k2⟩; rw [HB1.out]; have K2 := hide (below_on K1.out k2); clear k2 KK; have KK := K2) | (go_at_call 42; refine (kept_any HX.out).mono ?_; rintro e w1 ⟨rfl, k1⟩; have K1 := hide k1; have KK := K1; clear k1) | fail)
            go_ret
            exact chq_no HR.out HL.out KK.out
          · have y1 : (i == j) = false := by simpa using hij
            obtain ⟨a, ha⟩ : ∃ a : Nat, i = a := ⟨i.toNat, by omega⟩
            obtain ⟨b, hb⟩ : ∃ b : Nat, j = b := ⟨j.toNat, by omega⟩
            obtain ⟨k, hk⟩ : ∃ k : Nat, m = k := ⟨m.toNat, by omega⟩
            subst ha hb hk
            clear hb1 hb2
            obtain ⟨g, hg, _⟩ := HP.out (by omega)
            subst hg
            have w1 : IntKind.i64.wrap ((a : Int) + (k : Int)) = (a : Int) + (k : Int) := by rw [IntKind.wrap_i64]; omega
            have w2 : IntKind.i64.wrap ((b : Int) + (k : Int)) = (b : Int) + (k : Int) := by rw [IntKind.wrap_i64]; omega
            by_cases hlt : (a : Int) < (b : Int)
            · have HR : Hid (orM V a b k = (swapM V a (a + k) (a + k) (b + k), true)) := by show _ = _; unfold orM; rw [hn, if_pos (by omega), if_pos hlt]; rfl
              clear hn
              have H33 : Hid (∀ W2, Below w.heap.size w W2 → Calls Try.prog 52 #[.pointer (some ⟨lb, 0, none⟩), .int .i64 ((a : Int)), .int .i64 ((a : Int) + (k : Int)), .int .i64 ((a : Int) + (k : Int)), .int .i64 ((b : Int) + (k : Int))] W2 fun e w' => e = .returned (.tuple #[]) ∧ LineV w' lb (swapM V (a) (a + k) (a + k) (b + k)) ∧ W2.grownBy w' (some lb)) := fun W2 hf => by
                have h9 := swap_any (a := a) (b := a + k) (x := a + k) (y := b + k) ((hf.block lb (lt_of_block HX.out)).trans HX.out) (PrV.on HV.out hf) HN.out hm h5 (by omega) (by omega) (by omega) (by omega)
                simp only [Int.natCast_add] at h9
                exact h9
              go_enter Try.func32, Try.ntmps32
              go_wp2_with (first | (go_at_call 52; refine (H33.out _ KK.out).mono ?_; rintro e w9 ⟨rfl, q9, k9⟩; have L9 := hide q9; have G9 := hide k9; clear q9 k9) | (go_at_call 51; refine (within_any _ _ _).mono ?_; rintro e w3 ⟨rfl, k3⟩; rw [HB2.out]; have K3 := hide (below_on K2.out k3); clear k3 KK; have KK := K3) | (go_at_call 51; refine (within_any _ _ _).mono ?_; rintro e w2 ⟨rfl, k2⟩; rw [HB1.out]; have K2 := hide (below_on K1.out k2); clear k2 KK; have KK := K2) | (go_at_call 42; refine (kept_any HX.out).mono ?_; rintro e w1 ⟨rfl, k1⟩; have K1 := hide k1; have KK := K1; clear k1) | fail)
              go_ret
              exact chq_yes HR.out KK.out L9.out G9.out
            · have HR : Hid (orM V a b k = (swapM V b a a (a + k), true)) := by show _ = _; unfold orM; rw [hn, if_pos (by omega), if_neg hlt]; rfl
              clear hn
              have H33 : Hid (∀ W2, Below w.heap.size w W2 → Calls Try.prog 52 #[.pointer (some ⟨lb, 0, none⟩), .int .i64 ((b : Int)), .int .i64 ((a : Int)), .int .i64 ((a : Int)), .int .i64 ((a : Int) + (k : Int))] W2 fun e w' => e = .returned (.tuple #[]) ∧ LineV w' lb (swapM V (b) (a) (a) (a + k)) ∧ W2.grownBy w' (some lb)) := fun W2 hf => by
                have h9 := swap_any (a := b) (b := a) (x := a) (y := a + k) ((hf.block lb (lt_of_block HX.out)).trans HX.out) (PrV.on HV.out hf) HN.out hm h5 (by omega) (by omega) (by omega) (by omega)
                simp only [Int.natCast_add] at h9
                exact h9
              go_enter Try.func32, Try.ntmps32
              go_wp2_with (first | (go_at_call 52; refine (H33.out _ KK.out).mono ?_; rintro e w9 ⟨rfl, q9, k9⟩; have L9 := hide q9; have G9 := hide k9; clear q9 k9) | (go_at_call 51; refine (within_any _ _ _).mono ?_; rintro e w3 ⟨rfl, k3⟩; rw [HB2.out]; have K3 := hide (below_on K2.out k3); clear k3 KK; have KK := K3) | (go_at_call 51; refine (within_any _ _ _).mono ?_; rintro e w2 ⟨rfl, k2⟩; rw [HB1.out]; have K2 := hide (below_on K1.out k2); clear k2 KK; have KK := K2) | (go_at_call 42; refine (kept_any HX.out).mono ?_; rintro e w1 ⟨rfl, k1⟩; have K1 := hide k1; have KK := K1; clear k1) | fail)
              go_ret
              exact chq_yes HR.out KK.out L9.out G9.out
set_option maxRecDepth 100000 in
set_option maxHeartbeats 6400000 in
theorem relocate_any {w : World} {lb : Nat} {V : List Vst} (h : LineV w lb V) (hm : V.length ≤ 900) (i j k : Int) : Calls Try.prog 33 #[.pointer (some ⟨lb, 0, none⟩), .int .i64 i, .int .i64 j, .int .i64 k] w (ChQ w lb (orM V i j 1)) := by
  have H20 := hide (oropt_any h hm i j 1)
  clear h
  go_enter Try.func33, Try.ntmps33
  go_wp2_with (first | (go_at_call 32; refine H20.out.mono ?_; rintro e w1 ⟨rfl, k1, k2⟩; have K1 := hide k1; have K2 := hide k2; clear k1 k2) | fail)
  go_ret
  exact ⟨rfl, K1.out, K2.out⟩
set_option maxRecDepth 100000 in
set_option maxHeartbeats 6400000 in
theorem mixed_any {w : World} {lb : Nat} {V : List Vst} (h : LineV w lb V) (hm : V.length ≤ 900) (i j k : Int) : Calls Try.prog 29 #[.pointer (some ⟨lb, 0, none⟩), .int .i64 i, .int .i64 j, .int .i64 k] w (ChQ w lb (mixM V i j)) := by
  obtain ⟨ad, c, h1, h2, h3, h4, h5, h6, h7⟩ := h.open (by omega)
  have HL := hide h
  have HX := hide h1
  obtain ⟨n, hn⟩ : ∃ n, V.length = n := ⟨_, rfl⟩
  have HN := hide hn
  have HV := hide h3
  have HP := hide h7
  rw [hn] at HX HV h5 hm HP
  clear h h1 h2 h3 h4 h6 h7
  have w0 : IntKind.i64.wrap ((n : Int) - 1) = (n : Int) - 1 := by rw [IntKind.wrap_i64]; omega
  have w0' : IntKind.i64.wrap ((n : Int) - 2) = (n : Int) - 2 := by rw [IntKind.wrap_i64]; omega
  obtain ⟨b1, hb1⟩ : ∃ b, witB i ((n : Int) - 1) = b := ⟨_, rfl⟩
  have HB1 := hide hb1
  obtain ⟨b2, hb2⟩ : ∃ b, witB j ((n : Int) - 2) = b := ⟨_, rfl⟩
  have HB2 := hide hb2
  cases b1 with
  | false =>
    have q1 := wit_no hb1
    have HR : Hid (mixM V i j = (V, false)) := by show _ = _; unfold mixM; rw [hn, if_neg (by omega)]
    clear hb1 hb2 hn q1
    go_enter Try.func29, Try.ntmps29
    go_wp2_with (first | (go_at_call 51; refine (within_any _ _ _).mono ?_; rintro e w2 ⟨rfl, k2⟩; rw [HB1.out]; have K2 := hide (below_on K1.out k2); clear k2 KK; have KK := K2) | (go_at_call 42; refine (kept_any HX.out).mono ?_; rintro e w1 ⟨rfl, k1⟩; have K1 := hide k1; have KK := K1; clear k1) | fail)
    go_ret
    exact chq_no HR.out HL.out KK.out
  | true =>
    have q1 := wit_ok hb1
    cases b2 with
    | false =>
      have q2 := wit_no hb2
      have HR : Hid (mixM V i j = (V, false)) := by show _ = _; unfold mixM; rw [hn, if_neg (by omega)]
      clear hb1 hb2 hn q1 q2
      go_enter Try.func29, Try.ntmps29
      go_wp2_with (first | (go_at_call 51; refine (within_any _ _ _).mono ?_; rintro e w3 ⟨rfl, k3⟩; rw [HB2.out]; have K3 := hide (below_on K2.out k3); clear k3 KK; have KK := K3) | (go_at_call 51; refine (within_any _ _ _).mono ?_; rintro e w2 ⟨rfl, k2⟩; rw [HB1.out]; have K2 := hide (below_on K1.out k2); clear k2 KK; have KK := K2) | (go_at_call 42; refine (kept_any HX.out).mono ?_; rintro e w1 ⟨rfl, k1⟩; have K1 := hide k1; have KK := K1; clear k1) | fail)
      go_ret
      exact chq_no HR.out HL.out KK.out
    | true =>
      have q2 := wit_ok hb2
      have wj : IntKind.i64.wrap (j + 1) = j + 1 := by rw [IntKind.wrap_i64]; omega
      by_cases hij : i = j
      · have y1 : (i == j) = true := by simpa using hij
        have HR : Hid (mixM V i j = (V, false)) := by show _ = _; unfold mixM; rw [hn, if_neg (by omega)]
        clear hb1 hb2 hn q1 q2 hij
        go_enter Try.func29, Try.ntmps29
        go_wp2_with (first | (go_at_call 51; refine (within_any _ _ _).mono ?_; rintro e w3 ⟨rfl, k3⟩; rw [HB2.out]; have K3 := hide (below_on K2.out k3); clear k3 KK; have KK := K3) | (go_at_call 51; refine (within_any _ _ _).mono ?_; rintro e w2 ⟨rfl, k2⟩; rw [HB1.out]; have K2 := hide (below_on K1.out k2); clear k2 KK; have KK := K2) | (go_at_call 42; refine (kept_any HX.out).mono ?_; rintro e w1 ⟨rfl, k1⟩; have K1 := hide k1; have KK := K1; clear k1) | fail)
        go_ret
        exact chq_no HR.out HL.out KK.out
      · have y1 : (i == j) = false := by simpa using hij
        by_cases hij2 : i = j + 1
        · have y2 : (i == j + 1) = true := by simpa using hij2
          have HR : Hid (mixM V i j = (V, false)) := by show _ = _; unfold mixM; rw [hn, if_neg (by omega)]
          clear hb1 hb2 hn q1 q2 hij2
          go_enter Try.func29, Try.ntmps29
          go_wp2_with (first | (go_at_call 51; refine (within_any _ _ _).mono ?_; rintro e w3 ⟨rfl, k3⟩; rw [HB2.out]; have K3 := hide (below_on K2.out k3); clear k3 KK; have KK := K3) | (go_at_call 51; refine (within_any _ _ _).mono ?_; rintro e w2 ⟨rfl, k2⟩; rw [HB1.out]; have K2 := hide (below_on K1.out k2); clear k2 KK; have KK := K2) | (go_at_call 42; refine (kept_any HX.out).mono ?_; rintro e w1 ⟨rfl, k1⟩; have K1 := hide k1; have KK := K1; clear k1) | fail)
          go_ret
          exact chq_no HR.out HL.out KK.out
        · have y2 : (i == j + 1) = false := by simpa using hij2
          obtain ⟨a, ha⟩ : ∃ a : Nat, i = a := ⟨i.toNat, by omega⟩
          obtain ⟨b, hb⟩ : ∃ b : Nat, j = b := ⟨j.toNat, by omega⟩
          subst ha hb
          clear hb1 hb2
          obtain ⟨g, hg, _⟩ := HP.out (by omega)
          subst hg
          have w1 : IntKind.i64.wrap ((a : Int) + 1) = (a : Int) + 1 := by rw [IntKind.wrap_i64]; omega
          have w2 : IntKind.i64.wrap ((b : Int) + 2) = (b : Int) + 2 := by rw [IntKind.wrap_i64]; omega
          by_cases hlt : (a : Int) < (b : Int)
          · have HR : Hid (mixM V a b = (swapM V a (a + 1) b (b + 2), true)) := by show _ = _; unfold mixM; rw [hn, if_pos (by omega), if_pos hlt]; rfl
            clear hn
            have H33 : Hid (∀ W2, Below w.heap.size w W2 → Calls Try.prog 52 #[.pointer (some ⟨lb, 0, none⟩), .int .i64 ((a : Int)), .int .i64 ((a : Int) + 1), .int .i64 ((b : Int)), .int .i64 ((b : Int) + 2)] W2 fun e w' => e = .returned (.tuple #[]) ∧ LineV w' lb (swapM V (a) (a + 1) (b) (b + 2)) ∧ W2.grownBy w' (some lb)) := fun W2 hf => by
              have h9 := swap_any (a := a) (b := a + 1) (x := b) (y := b + 2) ((hf.block lb (lt_of_block HX.out)).trans HX.out) (PrV.on HV.out hf) HN.out hm h5 (by omega) (by omega) (by omega) (by omega)
              simp only [Int.natCast_add, Int.cast_ofNat_Int] at h9
              exact h9
            go_enter Try.func29, Try.ntmps29
            go_wp2_with (first | (go_at_call 52; refine (H33.out _ KK.out).mono ?_; rintro e w9 ⟨rfl, q9, k9⟩; have L9 := hide q9; have G9 := hide k9; clear q9 k9) | (go_at_call 51; refine (within_any _ _ _).mono ?_; rintro e w3 ⟨rfl, k3⟩; rw [HB2.out]; have K3 := hide (below_on K2.out k3); clear k3 KK; have KK := K3) | (go_at_call 51; refine (within_any _ _ _).mono ?_; rintro e w2 ⟨rfl, k2⟩; rw [HB1.out]; have K2 := hide (below_on K1.out k2); clear k2 KK; have KK := K2) | (go_at_call 42; refine (kept_any HX.out).mono ?_; rintro e w1 ⟨rfl, k1⟩; have K1 := hide k1; have KK := K1; clear k1) | fail)
            go_ret
            exact chq_yes HR.out KK.out L9.out G9.out
          · have HR : Hid (mixM V a b = (swapM V b (b + 2) a (a + 1), true)) := by show _ = _; unfold mixM; rw [hn, if_pos (by omega), if_neg hlt]; rfl
            clear hn
            have H33 : Hid (∀ W2, Below w.heap.size w W2 → Calls Try.prog 52 #[.pointer (some ⟨lb, 0, none⟩), .int .i64 ((b : Int)), .int .i64 ((b : Int) + 2), .int .i64 ((a : Int)), .int .i64 ((a : Int) + 1)] W2 fun e w' => e = .returned (.tuple #[]) ∧ LineV w' lb (swapM V (b) (b + 2) (a) (a + 1)) ∧ W2.grownBy w' (some lb)) := fun W2 hf => by
              have h9 := swap_any (a := b) (b := b + 2) (x := a) (y := a + 1) ((hf.block lb (lt_of_block HX.out)).trans HX.out) (PrV.on HV.out hf) HN.out hm h5 (by omega) (by omega) (by omega) (by omega)
              simp only [Int.natCast_add, Int.cast_ofNat_Int] at h9
              exact h9
            go_enter Try.func29, Try.ntmps29
            go_wp2_with (first | (go_at_call 52; refine (H33.out _ KK.out).mono ?_; rintro e w9 ⟨rfl, q9, k9⟩; have L9 := hide q9; have G9 := hide k9; clear q9 k9) | (go_at_call 51; refine (within_any _ _ _).mono ?_; rintro e w3 ⟨rfl, k3⟩; rw [HB2.out]; have K3 := hide (below_on K2.out k3); clear k3 KK; have KK := K3) | (go_at_call 51; refine (within_any _ _ _).mono ?_; rintro e w2 ⟨rfl, k2⟩; rw [HB1.out]; have K2 := hide (below_on K1.out k2); clear k2 KK; have KK := K2) | (go_at_call 42; refine (kept_any HX.out).mono ?_; rintro e w1 ⟨rfl, k1⟩; have K1 := hide k1; have KK := K1; clear k1) | fail)
            go_ret
            exact chq_yes HR.out KK.out L9.out G9.out
end Go.Proofs.Ytdnkmjafkpnliaa
