/-
  What the document's Inner answers: changes 0, 1 and 2.
-/
import Derived.Test.YtdnkmjafkpnliaaDvF
import Derived.Test.YtdnkmjafkpnliaaDvE
import Derived.Test.YtdnkmjafkpnliaaBckP
import Derived.Deep.RegionHeld3
namespace Go.Proofs.Ytdnkmjafkpnliaa
open Go.RowKit

/-- What the document's change of one list answers. -/
def DIn (w : World) (r : List Vst × Bool) (n : Nat) (e : Ending) (w' : World) : Prop := ∃ a c, e = .returned (.tuple #[.slice a n c, .bool r.2]) ∧ VRow w' w.heap.size (.slice a n c) r.1 ∧ Below w.heap.size w w'
theorem din_no {w w' : World} {V : List Vst} {r : List Vst × Bool} {n g c : Nat} (hr : r = (V, false)) (R : VRow w' w.heap.size (.slice (some ⟨g, 0, none⟩) n c) V) (K : Below w.heap.size w w') : DIn w r n (.returned (.tuple #[.slice (some ⟨g, 0, none⟩) n c, .bool false])) w' := by
  subst hr
  exact ⟨_, _, rfl, R, K⟩
theorem din_yes {w w' : World} {X : List Vst} {r : List Vst × Bool} {n c : Nat} {a : Option Addr} (hr : r = (X, true)) (R : VRow w' w.heap.size (.slice a n c) X) (K : Below w.heap.size w w') : DIn w r n (.returned (.tuple #[.slice a n c, .bool true])) w' := by
  subst hr
  exact ⟨_, _, rfl, R, K⟩
set_option maxRecDepth 100000 in
set_option maxHeartbeats 12800000 in
theorem inner_two {w : World} {va : Option Addr} {n vc : Nat} {V : List Vst} (h : SlI w va n vc V) (hn : n ≤ 300) (i j k : Int) : Calls Try.prog 15 #[.slice va n vc, .int .i64 0, .int .i64 i, .int .i64 j, .int .i64 k] w (DIn w (twM V i j) n) := by
  have H := hide h
  have KZ : Hid (Below w.heap.size w w) := Below.refl _ _
  clear h
  rcases (show i < 0 ∨ (n : Int) ≤ i ∨ (0 ≤ i ∧ i < (n : Int)) by omega) with hi | hi | hi
  · have HR : Hid (twM V i j = (V, false)) := by show _ = _; unfold twM; rw [H.out.len, if_neg (by simp only [riseB, Bool.and_eq_true, decide_eq_true_eq]; omega)]
    have fi0 : i < 0 := by omega
    have fi1 : ¬ 0 ≤ i := by omega
    clear hi
    go_enter Try.func15, Try.ntmps15
    go_wp2_with (first | (go_at_call 39; (with_reducible refine (copiedV_any H.out.vs H.out.len (by omega) H.out.nz).mono ?_); rintro e x1 ⟨y1, d1, rfl, r1, k1⟩; have RX := hide r1.1; have KX := hide k1; clear r1 k1) | fail)
    go_ret2
    exact din_no HR.out RX.out KX.out
  · have HR : Hid (twM V i j = (V, false)) := by show _ = _; unfold twM; rw [H.out.len, if_neg (by simp only [riseB, Bool.and_eq_true, decide_eq_true_eq]; omega)]
    have fi0 : 0 ≤ i := by omega
    have fi1 : ¬ i < (n : Int) := by omega
    have fi2 : (n : Int) ≤ i := by omega
    have fi3 : ¬ i < 0 := by omega
    clear hi
    go_enter Try.func15, Try.ntmps15
    go_wp2_with (first | (go_at_call 39; (with_reducible refine (copiedV_any H.out.vs H.out.len (by omega) H.out.nz).mono ?_); rintro e x1 ⟨y1, d1, rfl, r1, k1⟩; have RX := hide r1.1; have KX := hide k1; clear r1 k1) | fail)
    go_ret2
    exact din_no HR.out RX.out KX.out
  · rcases (show j < 0 ∨ (n : Int) ≤ j ∨ (0 ≤ j ∧ j < (n : Int)) by omega) with hj | hj | hj
    · have HR : Hid (twM V i j = (V, false)) := by show _ = _; unfold twM; rw [H.out.len, if_neg (by simp only [riseB, Bool.and_eq_true, decide_eq_true_eq]; omega)]
      have fi0 : 0 ≤ i := by omega
      have fi1 : i < (n : Int) := by omega
      have fi2 : ¬ (n : Int) ≤ i := by omega
      have fi3 : ¬ i < 0 := by omega
      have fj0 : j < 0 := by omega
      have fj1 : ¬ 0 ≤ j := by omega
      clear hi hj
      go_enter Try.func15, Try.ntmps15
      go_wp2_with (first | (go_at_call 39; (with_reducible refine (copiedV_any H.out.vs H.out.len (by omega) H.out.nz).mono ?_); rintro e x1 ⟨y1, d1, rfl, r1, k1⟩; have RX := hide r1.1; have KX := hide k1; clear r1 k1) | fail)
      go_ret2
      exact din_no HR.out RX.out KX.out
    · have HR : Hid (twM V i j = (V, false)) := by show _ = _; unfold twM; rw [H.out.len, if_neg (by simp only [riseB, Bool.and_eq_true, decide_eq_true_eq]; omega)]
      have fi0 : 0 ≤ i := by omega
      have fi1 : i < (n : Int) := by omega
      have fi2 : ¬ (n : Int) ≤ i := by omega
      have fi3 : ¬ i < 0 := by omega
      have fj0 : 0 ≤ j := by omega
      have fj1 : ¬ j < (n : Int) := by omega
      have fj2 : (n : Int) ≤ j := by omega
      have fj3 : ¬ j < 0 := by omega
      clear hi hj
      go_enter Try.func15, Try.ntmps15
      go_wp2_with (first | (go_at_call 39; (with_reducible refine (copiedV_any H.out.vs H.out.len (by omega) H.out.nz).mono ?_); rintro e x1 ⟨y1, d1, rfl, r1, k1⟩; have RX := hide r1.1; have KX := hide k1; clear r1 k1) | fail)
      go_ret2
      exact din_no HR.out RX.out KX.out
    · by_cases hlt : i < j
      · have fi0 : 0 ≤ i := by omega
        have fi1 : i < (n : Int) := by omega
        have fi2 : ¬ (n : Int) ≤ i := by omega
        have fi3 : ¬ i < 0 := by omega
        have fj0 : 0 ≤ j := by omega
        have fj1 : j < (n : Int) := by omega
        have fj2 : ¬ (n : Int) ≤ j := by omega
        have fj3 : ¬ j < 0 := by omega
        have g1 : ¬ j ≤ i := by omega
        have g2 : i < j := hlt
        obtain ⟨a, ha⟩ : ∃ a : Nat, i = a := ⟨i.toNat, by omega⟩
        obtain ⟨b, hb⟩ : ∃ b : Nat, j = b := ⟨j.toNat, by omega⟩
        obtain ⟨l, hl⟩ : ∃ l : Nat, a + l = b + 1 := ⟨b + 1 - a, by omega⟩
        obtain ⟨r, hr⟩ : ∃ r : Nat, b + 1 + r = n := ⟨n - (b + 1), by omega⟩
        have u1 : IntKind.i64.wrap (j + 1) = j + 1 := by rw [IntKind.wrap_i64]; omega
        obtain ⟨A2, C2, e2, p2⟩ := sl_lh H.out (x := i) (y := j + 1) a l ha (by omega) (by omega)
        have HT1 := hide (turned_in p2 rfl (by omega))
        have HP1 := hide (part_in 0 a (P := V.take a) (x := 0) (y := i) H.out part_low rfl (by omega) (by omega) (by omega))
        have HP2 := hide (part_in (b + 1) r (P := V.drop (b + 1)) (x := j + 1) (y := (n : Int)) H.out (part_high (by rw [H.out.len]; exact hr)) (by omega) (by omega) (by omega) (by omega))
        obtain ⟨L, hL⟩ : ∃ L, V.take a ++ (((V.drop a).take l).reverse ++ V.drop (b + 1)) = L := ⟨_, rfl⟩
        have HL1 := hide hL
        have HN1 : Hid (a + l + r = n) := (by show _ = _; omega)
        have HR : Hid (twM V i j = (L, true)) := by
          show _ = _
          unfold twM
          rw [H.out.len, if_pos (by simp only [riseB, Bool.and_eq_true, decide_eq_true_eq]; omega), ha, hb, ← hL]
          simp only [Int.toNat_natCast]
          unfold revM
          rw [show b + 1 - a = l by omega, show a + l = b + 1 by omega]
        clear hL hl hr ha hb hi hj p2 hlt
        go_enter Try.func15, Try.ntmps15
        go_wp2_with fail
        go_region_held3 (fun _ => True) (trivial) (first | (go_at_call 36; (with_reducible refine (join_at HN1.out HL1.out (Q1.out.on (below_on B2.out B3.out)) (Q2.out.on B3.out) (Q3.out.on (Below.refl _ _)) (by omega)).mono ?_); rintro e w4 ⟨a4, c4, rfl, r4, k4⟩; have R4 := hide (own_mono r4.1 (K3.out).size); have Q4 := hide r4.2; have B4 := hide k4; have K4 := hide (below_on K3.out k4); clear k4 r4) | (go_at_call 37; (with_reducible refine (HP2.out _ K2.out).mono ?_); rintro e w3 ⟨g3, c3, rfl, q3, k3⟩; have Q3 := hide q3; have B3 := hide k3; have K3 := hide (below_on K2.out k3); clear k3 q3) | (go_at_call 38; (with_reducible refine (HT1.out _ K1.out).mono ?_); rintro e w2 ⟨g2, c2, rfl, q2, k2⟩; have Q2 := hide q2; have B2 := hide k2; have K2 := hide (below_on K1.out k2); clear k2 q2) | (go_at_call 37; (with_reducible refine (HP1.out _ (low_drew KZ.out)).mono ?_); rintro e w1 ⟨g1, c1, rfl, q1, k1⟩; have Q1 := hide q1; have B1 := hide k1; have K1 := hide (below_on (low_drew KZ.out) k1); clear k1 q1) | fail)
        rename_i hHeld
        clear hHeld
        go_wp2_with fail
        go_ret2
        exact din_yes HR.out (VRow.later R4.out (Nat.le_refl _) (Below.refl _ _)) K4.out
      · have HR : Hid (twM V i j = (V, false)) := by show _ = _; unfold twM; rw [H.out.len, if_neg (by simp only [riseB, Bool.and_eq_true, decide_eq_true_eq]; omega)]
        have fi0 : 0 ≤ i := by omega
        have fi1 : i < (n : Int) := by omega
        have fi2 : ¬ (n : Int) ≤ i := by omega
        have fi3 : ¬ i < 0 := by omega
        have fj0 : 0 ≤ j := by omega
        have fj1 : j < (n : Int) := by omega
        have fj2 : ¬ (n : Int) ≤ j := by omega
        have fj3 : ¬ j < 0 := by omega
        have g1 : j ≤ i := by omega
        clear hi hj
        go_enter Try.func15, Try.ntmps15
        go_wp2_with (first | (go_at_call 39; (with_reducible refine (copiedV_any H.out.vs H.out.len (by omega) H.out.nz).mono ?_); rintro e x1 ⟨y1, d1, rfl, r1, k1⟩; have RX := hide r1.1; have KX := hide k1; clear r1 k1) | fail)
        go_ret2
        exact din_no HR.out RX.out KX.out
def restD (V : List Vst) (a m r : Nat) : List Vst := (V.drop 0).take a ++ ([] ++ (V.drop (a + m)).take r)
def orD (V : List Vst) (a b m r t : Nat) : List Vst := ((restD V a m r).drop 0).take b ++ ((V.drop a).take m ++ ((restD V a m r).drop b).take t)
theorem or_doc {V : List Vst} {a b m r t : Nat} (h1 : V.length = a + m + r) (h2 : a + r = b + t) (h3 : a ≠ b) (hm1 : 1 ≤ m) (hm3 : m ≤ 3) : orM V a b m = (orD V a b m r t, true) := by
  have hr : restD V a m r = V.take a ++ V.drop (a + m) := by
    unfold restD
    rw [List.drop_zero, List.nil_append, List.take_of_length_le (l := V.drop (a + m)) (by rw [List.length_drop]; omega)]
  have hla : (V.take a).length = a := by rw [List.length_take]; omega
  have hlr : (V.take a ++ V.drop (a + m)).length = a + r := by rw [List.length_append, hla, List.length_drop]; omega
  unfold orM orD
  rw [hr, if_pos (by omega), List.take_of_length_le (l := (V.take a ++ V.drop (a + m)).drop b) (by rw [List.length_drop, hlr]; omega), List.drop_zero]
  simp only [Int.toNat_natCast]
  congr 1
  unfold swapM
  by_cases hc : a < b
  · rw [if_pos (by omega), List.take_append, List.drop_append, hla, List.take_of_length_le (l := V.take a) (by omega), List.drop_of_length_le (l := V.take a) (by omega), List.drop_drop, show a + m - (a + m) = 0 by omega, show b + m - (a + m) = b - a by omega, show a + m - a = m by omega, show a + m + (b - a) = b + m by omega]
    simp
  · rw [if_neg (by omega), List.take_append, List.drop_append, hla, List.take_take, List.drop_take, show min b a = b by omega, show b - a = 0 by omega, show a + m - a = m by omega, show a - a = 0 by omega]
    simp
/-- Where a part begins and ends. -/
structure PtA (a l m : Nat) (x y : Int) : Prop where
  hx : x = (a : Int)
  hy : y = ((a + l : Nat) : Int)
  hb : a + l ≤ m
  hm : m ≤ 900
theorem part_at2 {w : World} {va : Option Addr} {a l m vc : Nat} {V : List Vst} {x y : Int} (p : PtA a l m x y) (h : SlI w va m vc V) : Calls Try.prog 37 #[.slice va m vc, .int .i64 x, .int .i64 y] w fun e w' => ∃ g c, e = .returned (.slice (some ⟨g, 0, none⟩) l c) ∧ SlI w' (some ⟨g, 0, none⟩) l c ((V.drop a).take l) ∧ Below w.heap.size w w' := part_at a l h p.hx p.hy p.hm p.hb
set_option maxRecDepth 100000 in
set_option maxHeartbeats 12800000 in
theorem inner_or1 {w : World} {va : Option Addr} {n vc : Nat} {V : List Vst} (h : SlI w va n vc V) (hn : n ≤ 300) (i j k : Int) : Calls Try.prog 15 #[.slice va n vc, .int .i64 1, .int .i64 i, .int .i64 j, .int .i64 k] w (DIn w (orM V i j k) n) := by
  have H := hide h
  have KZ : Hid (Below w.heap.size w w) := Below.refl _ _
  clear h
  rcases (show i < 0 ∨ (n : Int) ≤ i ∨ (0 ≤ i ∧ i < (n : Int)) by omega) with hi | hi | hi
  · by_cases hc0 : k < 1
    · have HR : Hid (orM V i j k = (V, false)) := by show _ = _; unfold orM; rw [H.out.len, if_neg (by omega)]
      have fi0 : i < 0 := by omega
      have fi1 : ¬ 0 ≤ i := by omega
      have ka0 : k < 1 := by omega
      have ka1 : ¬ 1 ≤ k := by omega
      clear hi
      go_enter Try.func15, Try.ntmps15
      go_wp2_with (first | (go_at_call 39; (with_reducible refine (copiedV_any H.out.vs H.out.len (by omega) H.out.nz).mono ?_); rintro e x1 ⟨y1, d1, rfl, r1, k1⟩; have RX := hide r1.1; have KX := hide k1; clear r1 k1) | fail)
      go_ret2
      exact din_no HR.out RX.out KX.out
    · by_cases hc1 : 3 < k
      · have HR : Hid (orM V i j k = (V, false)) := by show _ = _; unfold orM; rw [H.out.len, if_neg (by omega)]
        have fi0 : i < 0 := by omega
        have fi1 : ¬ 0 ≤ i := by omega
        have ka0 : 1 ≤ k := by omega
        have ka1 : ¬ k < 1 := by omega
        have kb0 : 3 < k := by omega
        have kb1 : ¬ k ≤ 3 := by omega
        clear hi
        go_enter Try.func15, Try.ntmps15
        go_wp2_with (first | (go_at_call 39; (with_reducible refine (copiedV_any H.out.vs H.out.len (by omega) H.out.nz).mono ?_); rintro e x1 ⟨y1, d1, rfl, r1, k1⟩; have RX := hide r1.1; have KX := hide k1; clear r1 k1) | fail)
        go_ret2
        exact din_no HR.out RX.out KX.out
      · by_cases hc2 : (n : Int) < k
        · have HR : Hid (orM V i j k = (V, false)) := by show _ = _; unfold orM; rw [H.out.len, if_neg (by omega)]
          have fi0 : i < 0 := by omega
          have fi1 : ¬ 0 ≤ i := by omega
          have ka0 : 1 ≤ k := by omega
          have ka1 : ¬ k < 1 := by omega
          have kb0 : k ≤ 3 := by omega
          have kb1 : ¬ 3 < k := by omega
          have kc0 : (n : Int) < k := by omega
          have kc1 : ¬ k ≤ (n : Int) := by omega
          clear hi
          go_enter Try.func15, Try.ntmps15
          go_wp2_with (first | (go_at_call 39; (with_reducible refine (copiedV_any H.out.vs H.out.len (by omega) H.out.nz).mono ?_); rintro e x1 ⟨y1, d1, rfl, r1, k1⟩; have RX := hide r1.1; have KX := hide k1; clear r1 k1) | fail)
          go_ret2
          exact din_no HR.out RX.out KX.out
        · have HR : Hid (orM V i j k = (V, false)) := by show _ = _; unfold orM; rw [H.out.len, if_neg (by omega)]
          have fi0 : i < 0 := by omega
          have fi1 : ¬ 0 ≤ i := by omega
          have ka0 : 1 ≤ k := by omega
          have ka1 : ¬ k < 1 := by omega
          have kb0 : k ≤ 3 := by omega
          have kb1 : ¬ 3 < k := by omega
          have kc0 : k ≤ (n : Int) := by omega
          have kc1 : ¬ (n : Int) < k := by omega
          clear hi
          go_enter Try.func15, Try.ntmps15
          go_wp2_with (first | (go_at_call 39; (with_reducible refine (copiedV_any H.out.vs H.out.len (by omega) H.out.nz).mono ?_); rintro e x1 ⟨y1, d1, rfl, r1, k1⟩; have RX := hide r1.1; have KX := hide k1; clear r1 k1) | fail)
          go_ret2
          exact din_no HR.out RX.out KX.out
  · by_cases hc0 : k < 1
    · have HR : Hid (orM V i j k = (V, false)) := by show _ = _; unfold orM; rw [H.out.len, if_neg (by omega)]
      have fi0 : 0 ≤ i := by omega
      have fi1 : ¬ i < (n : Int) := by omega
      have fi2 : (n : Int) ≤ i := by omega
      have fi3 : ¬ i < 0 := by omega
      have ka0 : k < 1 := by omega
      have ka1 : ¬ 1 ≤ k := by omega
      clear hi
      go_enter Try.func15, Try.ntmps15
      go_wp2_with (first | (go_at_call 39; (with_reducible refine (copiedV_any H.out.vs H.out.len (by omega) H.out.nz).mono ?_); rintro e x1 ⟨y1, d1, rfl, r1, k1⟩; have RX := hide r1.1; have KX := hide k1; clear r1 k1) | fail)
      go_ret2
      exact din_no HR.out RX.out KX.out
    · by_cases hc1 : 3 < k
      · have HR : Hid (orM V i j k = (V, false)) := by show _ = _; unfold orM; rw [H.out.len, if_neg (by omega)]
        have fi0 : 0 ≤ i := by omega
        have fi1 : ¬ i < (n : Int) := by omega
        have fi2 : (n : Int) ≤ i := by omega
        have fi3 : ¬ i < 0 := by omega
        have ka0 : 1 ≤ k := by omega
        have ka1 : ¬ k < 1 := by omega
        have kb0 : 3 < k := by omega
        have kb1 : ¬ k ≤ 3 := by omega
        clear hi
        go_enter Try.func15, Try.ntmps15
        go_wp2_with (first | (go_at_call 39; (with_reducible refine (copiedV_any H.out.vs H.out.len (by omega) H.out.nz).mono ?_); rintro e x1 ⟨y1, d1, rfl, r1, k1⟩; have RX := hide r1.1; have KX := hide k1; clear r1 k1) | fail)
        go_ret2
        exact din_no HR.out RX.out KX.out
      · by_cases hc2 : (n : Int) < k
        · have HR : Hid (orM V i j k = (V, false)) := by show _ = _; unfold orM; rw [H.out.len, if_neg (by omega)]
          have fi0 : 0 ≤ i := by omega
          have fi1 : ¬ i < (n : Int) := by omega
          have fi2 : (n : Int) ≤ i := by omega
          have fi3 : ¬ i < 0 := by omega
          have ka0 : 1 ≤ k := by omega
          have ka1 : ¬ k < 1 := by omega
          have kb0 : k ≤ 3 := by omega
          have kb1 : ¬ 3 < k := by omega
          have kc0 : (n : Int) < k := by omega
          have kc1 : ¬ k ≤ (n : Int) := by omega
          clear hi
          go_enter Try.func15, Try.ntmps15
          go_wp2_with (first | (go_at_call 39; (with_reducible refine (copiedV_any H.out.vs H.out.len (by omega) H.out.nz).mono ?_); rintro e x1 ⟨y1, d1, rfl, r1, k1⟩; have RX := hide r1.1; have KX := hide k1; clear r1 k1) | fail)
          go_ret2
          exact din_no HR.out RX.out KX.out
        · by_cases hc3 : (n : Int) - k < i
          · have HR : Hid (orM V i j k = (V, false)) := by show _ = _; unfold orM; rw [H.out.len, if_neg (by omega)]
            have fi0 : 0 ≤ i := by omega
            have fi1 : ¬ i < (n : Int) := by omega
            have fi2 : (n : Int) ≤ i := by omega
            have fi3 : ¬ i < 0 := by omega
            have ka0 : 1 ≤ k := by omega
            have ka1 : ¬ k < 1 := by omega
            have kb0 : k ≤ 3 := by omega
            have kb1 : ¬ 3 < k := by omega
            have kc0 : k ≤ (n : Int) := by omega
            have kc1 : ¬ (n : Int) < k := by omega
            have w0 : IntKind.i64.wrap ((n : Int) - k) = (n : Int) - k := by rw [IntKind.wrap_i64]; omega
            have kd0 : (n : Int) - k < i := by omega
            have kd1 : ¬ i ≤ (n : Int) - k := by omega
            clear hi
            go_enter Try.func15, Try.ntmps15
            go_wp2_with (first | (go_at_call 39; (with_reducible refine (copiedV_any H.out.vs H.out.len (by omega) H.out.nz).mono ?_); rintro e x1 ⟨y1, d1, rfl, r1, k1⟩; have RX := hide r1.1; have KX := hide k1; clear r1 k1) | fail)
            go_ret2
            exact din_no HR.out RX.out KX.out
          · exfalso; omega
  · rcases (show j < 0 ∨ (n : Int) ≤ j ∨ (0 ≤ j ∧ j < (n : Int)) by omega) with hj | hj | hj
    · by_cases hc0 : k < 1
      · have HR : Hid (orM V i j k = (V, false)) := by show _ = _; unfold orM; rw [H.out.len, if_neg (by omega)]
        have fi0 : 0 ≤ i := by omega
        have fi1 : i < (n : Int) := by omega
        have fi2 : ¬ (n : Int) ≤ i := by omega
        have fi3 : ¬ i < 0 := by omega
        have fj0 : j < 0 := by omega
        have fj1 : ¬ 0 ≤ j := by omega
        have ka0 : k < 1 := by omega
        have ka1 : ¬ 1 ≤ k := by omega
        clear hi hj
        go_enter Try.func15, Try.ntmps15
        go_wp2_with (first | (go_at_call 39; (with_reducible refine (copiedV_any H.out.vs H.out.len (by omega) H.out.nz).mono ?_); rintro e x1 ⟨y1, d1, rfl, r1, k1⟩; have RX := hide r1.1; have KX := hide k1; clear r1 k1) | fail)
        go_ret2
        exact din_no HR.out RX.out KX.out
      · by_cases hc1 : 3 < k
        · have HR : Hid (orM V i j k = (V, false)) := by show _ = _; unfold orM; rw [H.out.len, if_neg (by omega)]
          have fi0 : 0 ≤ i := by omega
          have fi1 : i < (n : Int) := by omega
          have fi2 : ¬ (n : Int) ≤ i := by omega
          have fi3 : ¬ i < 0 := by omega
          have fj0 : j < 0 := by omega
          have fj1 : ¬ 0 ≤ j := by omega
          have ka0 : 1 ≤ k := by omega
          have ka1 : ¬ k < 1 := by omega
          have kb0 : 3 < k := by omega
          have kb1 : ¬ k ≤ 3 := by omega
          clear hi hj
          go_enter Try.func15, Try.ntmps15
          go_wp2_with (first | (go_at_call 39; (with_reducible refine (copiedV_any H.out.vs H.out.len (by omega) H.out.nz).mono ?_); rintro e x1 ⟨y1, d1, rfl, r1, k1⟩; have RX := hide r1.1; have KX := hide k1; clear r1 k1) | fail)
          go_ret2
          exact din_no HR.out RX.out KX.out
        · by_cases hc2 : (n : Int) < k
          · have HR : Hid (orM V i j k = (V, false)) := by show _ = _; unfold orM; rw [H.out.len, if_neg (by omega)]
            have fi0 : 0 ≤ i := by omega
            have fi1 : i < (n : Int) := by omega
            have fi2 : ¬ (n : Int) ≤ i := by omega
            have fi3 : ¬ i < 0 := by omega
            have fj0 : j < 0 := by omega
            have fj1 : ¬ 0 ≤ j := by omega
            have ka0 : 1 ≤ k := by omega
            have ka1 : ¬ k < 1 := by omega
            have kb0 : k ≤ 3 := by omega
            have kb1 : ¬ 3 < k := by omega
            have kc0 : (n : Int) < k := by omega
            have kc1 : ¬ k ≤ (n : Int) := by omega
            clear hi hj
            go_enter Try.func15, Try.ntmps15
            go_wp2_with (first | (go_at_call 39; (with_reducible refine (copiedV_any H.out.vs H.out.len (by omega) H.out.nz).mono ?_); rintro e x1 ⟨y1, d1, rfl, r1, k1⟩; have RX := hide r1.1; have KX := hide k1; clear r1 k1) | fail)
            go_ret2
            exact din_no HR.out RX.out KX.out
          · by_cases hc3 : (n : Int) - k < i
            · have HR : Hid (orM V i j k = (V, false)) := by show _ = _; unfold orM; rw [H.out.len, if_neg (by omega)]
              have fi0 : 0 ≤ i := by omega
              have fi1 : i < (n : Int) := by omega
              have fi2 : ¬ (n : Int) ≤ i := by omega
              have fi3 : ¬ i < 0 := by omega
              have fj0 : j < 0 := by omega
              have fj1 : ¬ 0 ≤ j := by omega
              have ka0 : 1 ≤ k := by omega
              have ka1 : ¬ k < 1 := by omega
              have kb0 : k ≤ 3 := by omega
              have kb1 : ¬ 3 < k := by omega
              have kc0 : k ≤ (n : Int) := by omega
              have kc1 : ¬ (n : Int) < k := by omega
              have w0 : IntKind.i64.wrap ((n : Int) - k) = (n : Int) - k := by rw [IntKind.wrap_i64]; omega
              have kd0 : (n : Int) - k < i := by omega
              have kd1 : ¬ i ≤ (n : Int) - k := by omega
              clear hi hj
              go_enter Try.func15, Try.ntmps15
              go_wp2_with (first | (go_at_call 39; (with_reducible refine (copiedV_any H.out.vs H.out.len (by omega) H.out.nz).mono ?_); rintro e x1 ⟨y1, d1, rfl, r1, k1⟩; have RX := hide r1.1; have KX := hide k1; clear r1 k1) | fail)
              go_ret2
              exact din_no HR.out RX.out KX.out
            · have HR : Hid (orM V i j k = (V, false)) := by show _ = _; unfold orM; rw [H.out.len, if_neg (by omega)]
              have fi0 : 0 ≤ i := by omega
              have fi1 : i < (n : Int) := by omega
              have fi2 : ¬ (n : Int) ≤ i := by omega
              have fi3 : ¬ i < 0 := by omega
              have fj0 : j < 0 := by omega
              have fj1 : ¬ 0 ≤ j := by omega
              have ka0 : 1 ≤ k := by omega
              have ka1 : ¬ k < 1 := by omega
              have kb0 : k ≤ 3 := by omega
              have kb1 : ¬ 3 < k := by omega
              have kc0 : k ≤ (n : Int) := by omega
              have kc1 : ¬ (n : Int) < k := by omega
              have kd0 : i ≤ (n : Int) - k := by omega
              have kd1 : ¬ (n : Int) - k < i := by omega
              have w0 : IntKind.i64.wrap ((n : Int) - k) = (n : Int) - k := by rw [IntKind.wrap_i64]; omega
              clear hi hj
              go_enter Try.func15, Try.ntmps15
              go_wp2_with (first | (go_at_call 39; (with_reducible refine (copiedV_any H.out.vs H.out.len (by omega) H.out.nz).mono ?_); rintro e x1 ⟨y1, d1, rfl, r1, k1⟩; have RX := hide r1.1; have KX := hide k1; clear r1 k1) | fail)
              go_ret2
              exact din_no HR.out RX.out KX.out
    · by_cases hc0 : k < 1
      · have HR : Hid (orM V i j k = (V, false)) := by show _ = _; unfold orM; rw [H.out.len, if_neg (by omega)]
        have fi0 : 0 ≤ i := by omega
        have fi1 : i < (n : Int) := by omega
        have fi2 : ¬ (n : Int) ≤ i := by omega
        have fi3 : ¬ i < 0 := by omega
        have fj0 : 0 ≤ j := by omega
        have fj1 : ¬ j < (n : Int) := by omega
        have fj2 : (n : Int) ≤ j := by omega
        have fj3 : ¬ j < 0 := by omega
        have ka0 : k < 1 := by omega
        have ka1 : ¬ 1 ≤ k := by omega
        clear hi hj
        go_enter Try.func15, Try.ntmps15
        go_wp2_with (first | (go_at_call 39; (with_reducible refine (copiedV_any H.out.vs H.out.len (by omega) H.out.nz).mono ?_); rintro e x1 ⟨y1, d1, rfl, r1, k1⟩; have RX := hide r1.1; have KX := hide k1; clear r1 k1) | fail)
        go_ret2
        exact din_no HR.out RX.out KX.out
      · by_cases hc1 : 3 < k
        · have HR : Hid (orM V i j k = (V, false)) := by show _ = _; unfold orM; rw [H.out.len, if_neg (by omega)]
          have fi0 : 0 ≤ i := by omega
          have fi1 : i < (n : Int) := by omega
          have fi2 : ¬ (n : Int) ≤ i := by omega
          have fi3 : ¬ i < 0 := by omega
          have fj0 : 0 ≤ j := by omega
          have fj1 : ¬ j < (n : Int) := by omega
          have fj2 : (n : Int) ≤ j := by omega
          have fj3 : ¬ j < 0 := by omega
          have ka0 : 1 ≤ k := by omega
          have ka1 : ¬ k < 1 := by omega
          have kb0 : 3 < k := by omega
          have kb1 : ¬ k ≤ 3 := by omega
          clear hi hj
          go_enter Try.func15, Try.ntmps15
          go_wp2_with (first | (go_at_call 39; (with_reducible refine (copiedV_any H.out.vs H.out.len (by omega) H.out.nz).mono ?_); rintro e x1 ⟨y1, d1, rfl, r1, k1⟩; have RX := hide r1.1; have KX := hide k1; clear r1 k1) | fail)
          go_ret2
          exact din_no HR.out RX.out KX.out
        · by_cases hc2 : (n : Int) < k
          · have HR : Hid (orM V i j k = (V, false)) := by show _ = _; unfold orM; rw [H.out.len, if_neg (by omega)]
            have fi0 : 0 ≤ i := by omega
            have fi1 : i < (n : Int) := by omega
            have fi2 : ¬ (n : Int) ≤ i := by omega
            have fi3 : ¬ i < 0 := by omega
            have fj0 : 0 ≤ j := by omega
            have fj1 : ¬ j < (n : Int) := by omega
            have fj2 : (n : Int) ≤ j := by omega
            have fj3 : ¬ j < 0 := by omega
            have ka0 : 1 ≤ k := by omega
            have ka1 : ¬ k < 1 := by omega
            have kb0 : k ≤ 3 := by omega
            have kb1 : ¬ 3 < k := by omega
            have kc0 : (n : Int) < k := by omega
            have kc1 : ¬ k ≤ (n : Int) := by omega
            clear hi hj
            go_enter Try.func15, Try.ntmps15
            go_wp2_with (first | (go_at_call 39; (with_reducible refine (copiedV_any H.out.vs H.out.len (by omega) H.out.nz).mono ?_); rintro e x1 ⟨y1, d1, rfl, r1, k1⟩; have RX := hide r1.1; have KX := hide k1; clear r1 k1) | fail)
            go_ret2
            exact din_no HR.out RX.out KX.out
          · by_cases hc3 : (n : Int) - k < i
            · have HR : Hid (orM V i j k = (V, false)) := by show _ = _; unfold orM; rw [H.out.len, if_neg (by omega)]
              have fi0 : 0 ≤ i := by omega
              have fi1 : i < (n : Int) := by omega
              have fi2 : ¬ (n : Int) ≤ i := by omega
              have fi3 : ¬ i < 0 := by omega
              have fj0 : 0 ≤ j := by omega
              have fj1 : ¬ j < (n : Int) := by omega
              have fj2 : (n : Int) ≤ j := by omega
              have fj3 : ¬ j < 0 := by omega
              have ka0 : 1 ≤ k := by omega
              have ka1 : ¬ k < 1 := by omega
              have kb0 : k ≤ 3 := by omega
              have kb1 : ¬ 3 < k := by omega
              have kc0 : k ≤ (n : Int) := by omega
              have kc1 : ¬ (n : Int) < k := by omega
              have w0 : IntKind.i64.wrap ((n : Int) - k) = (n : Int) - k := by rw [IntKind.wrap_i64]; omega
              have kd0 : (n : Int) - k < i := by omega
              have kd1 : ¬ i ≤ (n : Int) - k := by omega
              clear hi hj
              go_enter Try.func15, Try.ntmps15
              go_wp2_with (first | (go_at_call 39; (with_reducible refine (copiedV_any H.out.vs H.out.len (by omega) H.out.nz).mono ?_); rintro e x1 ⟨y1, d1, rfl, r1, k1⟩; have RX := hide r1.1; have KX := hide k1; clear r1 k1) | fail)
              go_ret2
              exact din_no HR.out RX.out KX.out
            · by_cases hc4 : (n : Int) - k < j
              · have HR : Hid (orM V i j k = (V, false)) := by show _ = _; unfold orM; rw [H.out.len, if_neg (by omega)]
                have fi0 : 0 ≤ i := by omega
                have fi1 : i < (n : Int) := by omega
                have fi2 : ¬ (n : Int) ≤ i := by omega
                have fi3 : ¬ i < 0 := by omega
                have fj0 : 0 ≤ j := by omega
                have fj1 : ¬ j < (n : Int) := by omega
                have fj2 : (n : Int) ≤ j := by omega
                have fj3 : ¬ j < 0 := by omega
                have ka0 : 1 ≤ k := by omega
                have ka1 : ¬ k < 1 := by omega
                have kb0 : k ≤ 3 := by omega
                have kb1 : ¬ 3 < k := by omega
                have kc0 : k ≤ (n : Int) := by omega
                have kc1 : ¬ (n : Int) < k := by omega
                have kd0 : i ≤ (n : Int) - k := by omega
                have kd1 : ¬ (n : Int) - k < i := by omega
                have w0 : IntKind.i64.wrap ((n : Int) - k) = (n : Int) - k := by rw [IntKind.wrap_i64]; omega
                have ke0 : (n : Int) - k < j := by omega
                have ke1 : ¬ j ≤ (n : Int) - k := by omega
                clear hi hj
                go_enter Try.func15, Try.ntmps15
                go_wp2_with (first | (go_at_call 39; (with_reducible refine (copiedV_any H.out.vs H.out.len (by omega) H.out.nz).mono ?_); rintro e x1 ⟨y1, d1, rfl, r1, k1⟩; have RX := hide r1.1; have KX := hide k1; clear r1 k1) | fail)
                go_ret2
                exact din_no HR.out RX.out KX.out
              · exfalso; omega
    · by_cases hc0 : k < 1
      · have HR : Hid (orM V i j k = (V, false)) := by show _ = _; unfold orM; rw [H.out.len, if_neg (by omega)]
        have fi0 : 0 ≤ i := by omega
        have fi1 : i < (n : Int) := by omega
        have fi2 : ¬ (n : Int) ≤ i := by omega
        have fi3 : ¬ i < 0 := by omega
        have fj0 : 0 ≤ j := by omega
        have fj1 : j < (n : Int) := by omega
        have fj2 : ¬ (n : Int) ≤ j := by omega
        have fj3 : ¬ j < 0 := by omega
        have ka0 : k < 1 := by omega
        have ka1 : ¬ 1 ≤ k := by omega
        clear hi hj
        go_enter Try.func15, Try.ntmps15
        go_wp2_with (first | (go_at_call 39; (with_reducible refine (copiedV_any H.out.vs H.out.len (by omega) H.out.nz).mono ?_); rintro e x1 ⟨y1, d1, rfl, r1, k1⟩; have RX := hide r1.1; have KX := hide k1; clear r1 k1) | fail)
        go_ret2
        exact din_no HR.out RX.out KX.out
      · by_cases hc1 : 3 < k
        · have HR : Hid (orM V i j k = (V, false)) := by show _ = _; unfold orM; rw [H.out.len, if_neg (by omega)]
          have fi0 : 0 ≤ i := by omega
          have fi1 : i < (n : Int) := by omega
          have fi2 : ¬ (n : Int) ≤ i := by omega
          have fi3 : ¬ i < 0 := by omega
          have fj0 : 0 ≤ j := by omega
          have fj1 : j < (n : Int) := by omega
          have fj2 : ¬ (n : Int) ≤ j := by omega
          have fj3 : ¬ j < 0 := by omega
          have ka0 : 1 ≤ k := by omega
          have ka1 : ¬ k < 1 := by omega
          have kb0 : 3 < k := by omega
          have kb1 : ¬ k ≤ 3 := by omega
          clear hi hj
          go_enter Try.func15, Try.ntmps15
          go_wp2_with (first | (go_at_call 39; (with_reducible refine (copiedV_any H.out.vs H.out.len (by omega) H.out.nz).mono ?_); rintro e x1 ⟨y1, d1, rfl, r1, k1⟩; have RX := hide r1.1; have KX := hide k1; clear r1 k1) | fail)
          go_ret2
          exact din_no HR.out RX.out KX.out
        · by_cases hc2 : (n : Int) < k
          · have HR : Hid (orM V i j k = (V, false)) := by show _ = _; unfold orM; rw [H.out.len, if_neg (by omega)]
            have fi0 : 0 ≤ i := by omega
            have fi1 : i < (n : Int) := by omega
            have fi2 : ¬ (n : Int) ≤ i := by omega
            have fi3 : ¬ i < 0 := by omega
            have fj0 : 0 ≤ j := by omega
            have fj1 : j < (n : Int) := by omega
            have fj2 : ¬ (n : Int) ≤ j := by omega
            have fj3 : ¬ j < 0 := by omega
            have ka0 : 1 ≤ k := by omega
            have ka1 : ¬ k < 1 := by omega
            have kb0 : k ≤ 3 := by omega
            have kb1 : ¬ 3 < k := by omega
            have kc0 : (n : Int) < k := by omega
            have kc1 : ¬ k ≤ (n : Int) := by omega
            clear hi hj
            go_enter Try.func15, Try.ntmps15
            go_wp2_with (first | (go_at_call 39; (with_reducible refine (copiedV_any H.out.vs H.out.len (by omega) H.out.nz).mono ?_); rintro e x1 ⟨y1, d1, rfl, r1, k1⟩; have RX := hide r1.1; have KX := hide k1; clear r1 k1) | fail)
            go_ret2
            exact din_no HR.out RX.out KX.out
          · by_cases hc3 : (n : Int) - k < i
            · have HR : Hid (orM V i j k = (V, false)) := by show _ = _; unfold orM; rw [H.out.len, if_neg (by omega)]
              have fi0 : 0 ≤ i := by omega
              have fi1 : i < (n : Int) := by omega
              have fi2 : ¬ (n : Int) ≤ i := by omega
              have fi3 : ¬ i < 0 := by omega
              have fj0 : 0 ≤ j := by omega
              have fj1 : j < (n : Int) := by omega
              have fj2 : ¬ (n : Int) ≤ j := by omega
              have fj3 : ¬ j < 0 := by omega
              have ka0 : 1 ≤ k := by omega
              have ka1 : ¬ k < 1 := by omega
              have kb0 : k ≤ 3 := by omega
              have kb1 : ¬ 3 < k := by omega
              have kc0 : k ≤ (n : Int) := by omega
              have kc1 : ¬ (n : Int) < k := by omega
              have w0 : IntKind.i64.wrap ((n : Int) - k) = (n : Int) - k := by rw [IntKind.wrap_i64]; omega
              have kd0 : (n : Int) - k < i := by omega
              have kd1 : ¬ i ≤ (n : Int) - k := by omega
              clear hi hj
              go_enter Try.func15, Try.ntmps15
              go_wp2_with (first | (go_at_call 39; (with_reducible refine (copiedV_any H.out.vs H.out.len (by omega) H.out.nz).mono ?_); rintro e x1 ⟨y1, d1, rfl, r1, k1⟩; have RX := hide r1.1; have KX := hide k1; clear r1 k1) | fail)
              go_ret2
              exact din_no HR.out RX.out KX.out
            · by_cases hc4 : (n : Int) - k < j
              · have HR : Hid (orM V i j k = (V, false)) := by show _ = _; unfold orM; rw [H.out.len, if_neg (by omega)]
                have fi0 : 0 ≤ i := by omega
                have fi1 : i < (n : Int) := by omega
                have fi2 : ¬ (n : Int) ≤ i := by omega
                have fi3 : ¬ i < 0 := by omega
                have fj0 : 0 ≤ j := by omega
                have fj1 : j < (n : Int) := by omega
                have fj2 : ¬ (n : Int) ≤ j := by omega
                have fj3 : ¬ j < 0 := by omega
                have ka0 : 1 ≤ k := by omega
                have ka1 : ¬ k < 1 := by omega
                have kb0 : k ≤ 3 := by omega
                have kb1 : ¬ 3 < k := by omega
                have kc0 : k ≤ (n : Int) := by omega
                have kc1 : ¬ (n : Int) < k := by omega
                have kd0 : i ≤ (n : Int) - k := by omega
                have kd1 : ¬ (n : Int) - k < i := by omega
                have w0 : IntKind.i64.wrap ((n : Int) - k) = (n : Int) - k := by rw [IntKind.wrap_i64]; omega
                have ke0 : (n : Int) - k < j := by omega
                have ke1 : ¬ j ≤ (n : Int) - k := by omega
                clear hi hj
                go_enter Try.func15, Try.ntmps15
                go_wp2_with (first | (go_at_call 39; (with_reducible refine (copiedV_any H.out.vs H.out.len (by omega) H.out.nz).mono ?_); rintro e x1 ⟨y1, d1, rfl, r1, k1⟩; have RX := hide r1.1; have KX := hide k1; clear r1 k1) | fail)
                go_ret2
                exact din_no HR.out RX.out KX.out
              · by_cases hcEQ : i = j
                · have HR : Hid (orM V i j k = (V, false)) := by show _ = _; unfold orM; rw [H.out.len, if_neg (by omega)]
                  have fi0 : 0 ≤ i := by omega
                  have fi1 : i < (n : Int) := by omega
                  have fi2 : ¬ (n : Int) ≤ i := by omega
                  have fi3 : ¬ i < 0 := by omega
                  have fj0 : 0 ≤ j := by omega
                  have fj1 : j < (n : Int) := by omega
                  have fj2 : ¬ (n : Int) ≤ j := by omega
                  have fj3 : ¬ j < 0 := by omega
                  have ka0 : 1 ≤ k := by omega
                  have ka1 : ¬ k < 1 := by omega
                  have kb0 : k ≤ 3 := by omega
                  have kb1 : ¬ 3 < k := by omega
                  have kc0 : k ≤ (n : Int) := by omega
                  have kc1 : ¬ (n : Int) < k := by omega
                  have kd0 : i ≤ (n : Int) - k := by omega
                  have kd1 : ¬ (n : Int) - k < i := by omega
                  have ke0 : j ≤ (n : Int) - k := by omega
                  have ke1 : ¬ (n : Int) - k < j := by omega
                  have w0 : IntKind.i64.wrap ((n : Int) - k) = (n : Int) - k := by rw [IntKind.wrap_i64]; omega
                  have ye : (i != j) = false := by simpa using hcEQ
                  clear hi hj
                  clear hcEQ
                  go_enter Try.func15, Try.ntmps15
                  go_wp2_with (first | (go_at_call 39; (with_reducible refine (copiedV_any H.out.vs H.out.len (by omega) H.out.nz).mono ?_); rintro e x1 ⟨y1, d1, rfl, r1, k1⟩; have RX := hide r1.1; have KX := hide k1; clear r1 k1) | fail)
                  go_ret2
                  exact din_no HR.out RX.out KX.out
                · have fi0 : 0 ≤ i := by omega
                  have fi1 : i < (n : Int) := by omega
                  have fi2 : ¬ (n : Int) ≤ i := by omega
                  have fi3 : ¬ i < 0 := by omega
                  have fj0 : 0 ≤ j := by omega
                  have fj1 : j < (n : Int) := by omega
                  have fj2 : ¬ (n : Int) ≤ j := by omega
                  have fj3 : ¬ j < 0 := by omega
                  have ka0 : 1 ≤ k := by omega
                  have ka1 : ¬ k < 1 := by omega
                  have kb0 : k ≤ 3 := by omega
                  have kb1 : ¬ 3 < k := by omega
                  have kc0 : k ≤ (n : Int) := by omega
                  have kc1 : ¬ (n : Int) < k := by omega
                  have kd0 : i ≤ (n : Int) - k := by omega
                  have kd1 : ¬ (n : Int) - k < i := by omega
                  have ke0 : j ≤ (n : Int) - k := by omega
                  have ke1 : ¬ (n : Int) - k < j := by omega
                  have ye : (i != j) = true := by simpa using hcEQ
                  obtain ⟨a, ha⟩ : ∃ a : Nat, i = a := ⟨i.toNat, by omega⟩
                  obtain ⟨b, hb⟩ : ∃ b : Nat, j = b := ⟨j.toNat, by omega⟩
                  obtain ⟨mm, hmm⟩ : ∃ m : Nat, k = m := ⟨(k).toNat, by omega⟩
                  obtain ⟨r, hr⟩ : ∃ r : Nat, n = a + mm + r := ⟨n - (a + mm), by omega⟩
                  obtain ⟨z, hz⟩ : ∃ z : Nat, a + r = b + z := ⟨a + r - b, by omega⟩
                  obtain ⟨q, hq⟩ : ∃ q : Nat, a + 0 + r = q := ⟨_, rfl⟩
                  have HR : Hid (orM V i j k = (orD V a b mm r z, true)) := by
                    have h9 := or_doc (V := V) (a := a) (b := b) (m := mm) (r := r) (t := z) (by rw [H.out.len]; exact hr) hz (by omega) (by omega) (by omega)
                    rw [← ha, ← hb, ← hmm] at h9
                    exact h9
                  have u1 : IntKind.i64.wrap (i + k) = i + k := by rw [IntKind.wrap_i64]; omega
                  have w0 : IntKind.i64.wrap ((n : Int) - k) = (n : Int) - k := by rw [IntKind.wrap_i64]; omega
                  have HP1 := hide (part_in 0 a (P := (V.drop 0).take a) (x := 0) (y := i) H.out rfl rfl (by omega) (by omega) (by omega))
                  have HP2 := hide (part_in (a + mm) r (P := (V.drop (a + mm)).take r) (x := i + k) (y := (n : Int)) H.out rfl (by omega) (by omega) (by omega) (by omega))
                  have HP3 := hide (part_in a mm (P := (V.drop a).take mm) (x := i) (y := i + k) H.out rfl (by omega) (by omega) (by omega) (by omega))
                  have HX1 : Hid (PtA 0 b q 0 j) := ⟨rfl, by omega, by omega, by omega⟩
                  have HX2 : Hid (PtA b z q j ((n : Int) - k)) := ⟨by omega, by omega, by omega, by omega⟩
                  have HL1 : Hid ((V.drop 0).take a ++ ([] ++ (V.drop (a + mm)).take r) = restD V a mm r) := (by show _ = _; rfl)
                  have HL2 : Hid (((restD V a mm r).drop 0).take b ++ ((V.drop a).take mm ++ ((restD V a mm r).drop b).take z) = orD V a b mm r z) := (by show _ = _; rfl)
                  have HN1 := hide hq
                  have HN2 : Hid (b + mm + z = n) := (by show _ = _; omega)
                  have hq9 : q ≤ 900 := by omega
                  clear hr hz hq ha hb hi hj hmm
                  go_enter Try.func15, Try.ntmps15
                  go_wp2_with (first | (go_at_call 36; (with_reducible refine (join_at HN2.out HL2.out (Q4.out.on (below_on B5.out B6.out)) (Q5.out.on B6.out) (Q6.out.on (Below.refl _ _)) (by omega)).mono ?_); rintro e w7 ⟨a7, c7, rfl, r7, k7⟩; have R7 := hide (own_mono r7.1 (K6.out).size); have Q7 := hide r7.2; have B7 := hide k7; have K7 := hide (below_on K6.out k7); clear k7 r7) | (go_at_call 37; (with_reducible refine (part_at2 HX2.out (Q3.out.on (below_on B4.out B5.out))).mono ?_); rintro e w6 ⟨g6, c6, rfl, q6, k6⟩; have Q6 := hide q6; have B6 := hide k6; have K6 := hide (below_on K5.out k6); clear k6 q6) | (go_at_call 37; (with_reducible refine (HP3.out _ K4.out).mono ?_); rintro e w5 ⟨g5, c5, rfl, q5, k5⟩; have Q5 := hide q5; have B5 := hide k5; have K5 := hide (below_on K4.out k5); clear k5 q5) | (go_at_call 37; (with_reducible refine (part_at2 HX1.out (Q3.out.on (Below.refl _ _))).mono ?_); rintro e w4 ⟨g4, c4, rfl, q4, k4⟩; have Q4 := hide q4; have B4 := hide k4; have K4 := hide (below_on K3.out k4); clear k4 q4) | (go_at_call 36; (with_reducible refine (join_at HN1.out HL1.out (Q1.out.on B2.out) (nil_sl _) (Q2.out.on (Below.refl _ _)) (by omega)).mono ?_); rintro e w3 ⟨a3, c3, rfl, r3, k3⟩; have R3 := hide (own_mono r3.1 (K2.out).size); have Q3 := hide r3.2; have B3 := hide k3; have K3 := hide (below_on K2.out k3); clear k3 r3) | (go_at_call 37; (with_reducible refine (HP2.out _ K1.out).mono ?_); rintro e w2 ⟨g2, c2, rfl, q2, k2⟩; have Q2 := hide q2; have B2 := hide k2; have K2 := hide (below_on K1.out k2); clear k2 q2) | (go_at_call 37; (with_reducible refine (HP1.out _ KZ.out).mono ?_); rintro e w1 ⟨g1, c1, rfl, q1, k1⟩; have Q1 := hide q1; have B1 := hide k1; have K1 := hide (below_on KZ.out k1); clear k1 q1) | fail)
                  go_ret2
                  exact din_yes HR.out (VRow.later R7.out (Nat.le_refl _) (Below.refl _ _)) K7.out
set_option maxRecDepth 100000 in
set_option maxHeartbeats 12800000 in
theorem inner_or2 {w : World} {va : Option Addr} {n vc : Nat} {V : List Vst} (h : SlI w va n vc V) (hn : n ≤ 300) (i j k : Int) : Calls Try.prog 15 #[.slice va n vc, .int .i64 2, .int .i64 i, .int .i64 j, .int .i64 k] w (DIn w (orM V i j 1) n) := by
  have H := hide h
  have KZ : Hid (Below w.heap.size w w) := Below.refl _ _
  clear h
  rcases (show i < 0 ∨ (n : Int) ≤ i ∨ (0 ≤ i ∧ i < (n : Int)) by omega) with hi | hi | hi
  · by_cases hc0 : (n : Int) < (1 : Int)
    · have HR : Hid (orM V i j 1 = (V, false)) := by show _ = _; unfold orM; rw [H.out.len, if_neg (by omega)]
      have fi0 : i < 0 := by omega
      have fi1 : ¬ 0 ≤ i := by omega
      have kc0 : (n : Int) < (1 : Int) := by omega
      have kc1 : ¬ (1 : Int) ≤ (n : Int) := by omega
      clear hi
      go_enter Try.func15, Try.ntmps15
      go_wp2_with (first | (go_at_call 39; (with_reducible refine (copiedV_any H.out.vs H.out.len (by omega) H.out.nz).mono ?_); rintro e x1 ⟨y1, d1, rfl, r1, k1⟩; have RX := hide r1.1; have KX := hide k1; clear r1 k1) | fail)
      go_ret2
      exact din_no HR.out RX.out KX.out
    · have HR : Hid (orM V i j 1 = (V, false)) := by show _ = _; unfold orM; rw [H.out.len, if_neg (by omega)]
      have fi0 : i < 0 := by omega
      have fi1 : ¬ 0 ≤ i := by omega
      have kc0 : (1 : Int) ≤ (n : Int) := by omega
      have kc1 : ¬ (n : Int) < (1 : Int) := by omega
      clear hi
      go_enter Try.func15, Try.ntmps15
      go_wp2_with (first | (go_at_call 39; (with_reducible refine (copiedV_any H.out.vs H.out.len (by omega) H.out.nz).mono ?_); rintro e x1 ⟨y1, d1, rfl, r1, k1⟩; have RX := hide r1.1; have KX := hide k1; clear r1 k1) | fail)
      go_ret2
      exact din_no HR.out RX.out KX.out
  · by_cases hc0 : (n : Int) < (1 : Int)
    · have HR : Hid (orM V i j 1 = (V, false)) := by show _ = _; unfold orM; rw [H.out.len, if_neg (by omega)]
      have fi0 : 0 ≤ i := by omega
      have fi1 : ¬ i < (n : Int) := by omega
      have fi2 : (n : Int) ≤ i := by omega
      have fi3 : ¬ i < 0 := by omega
      have kc0 : (n : Int) < (1 : Int) := by omega
      have kc1 : ¬ (1 : Int) ≤ (n : Int) := by omega
      clear hi
      go_enter Try.func15, Try.ntmps15
      go_wp2_with (first | (go_at_call 39; (with_reducible refine (copiedV_any H.out.vs H.out.len (by omega) H.out.nz).mono ?_); rintro e x1 ⟨y1, d1, rfl, r1, k1⟩; have RX := hide r1.1; have KX := hide k1; clear r1 k1) | fail)
      go_ret2
      exact din_no HR.out RX.out KX.out
    · by_cases hc1 : (n : Int) - 1 < i
      · have HR : Hid (orM V i j 1 = (V, false)) := by show _ = _; unfold orM; rw [H.out.len, if_neg (by omega)]
        have fi0 : 0 ≤ i := by omega
        have fi1 : ¬ i < (n : Int) := by omega
        have fi2 : (n : Int) ≤ i := by omega
        have fi3 : ¬ i < 0 := by omega
        have kc0 : (1 : Int) ≤ (n : Int) := by omega
        have kc1 : ¬ (n : Int) < (1 : Int) := by omega
        have w0 : IntKind.i64.wrap ((n : Int) - 1) = (n : Int) - 1 := by rw [IntKind.wrap_i64]; omega
        have kd0 : (n : Int) - 1 < i := by omega
        have kd1 : ¬ i ≤ (n : Int) - 1 := by omega
        clear hi
        go_enter Try.func15, Try.ntmps15
        go_wp2_with (first | (go_at_call 39; (with_reducible refine (copiedV_any H.out.vs H.out.len (by omega) H.out.nz).mono ?_); rintro e x1 ⟨y1, d1, rfl, r1, k1⟩; have RX := hide r1.1; have KX := hide k1; clear r1 k1) | fail)
        go_ret2
        exact din_no HR.out RX.out KX.out
      · exfalso; omega
  · rcases (show j < 0 ∨ (n : Int) ≤ j ∨ (0 ≤ j ∧ j < (n : Int)) by omega) with hj | hj | hj
    · by_cases hc0 : (n : Int) < (1 : Int)
      · have HR : Hid (orM V i j 1 = (V, false)) := by show _ = _; unfold orM; rw [H.out.len, if_neg (by omega)]
        have fi0 : 0 ≤ i := by omega
        have fi1 : i < (n : Int) := by omega
        have fi2 : ¬ (n : Int) ≤ i := by omega
        have fi3 : ¬ i < 0 := by omega
        have fj0 : j < 0 := by omega
        have fj1 : ¬ 0 ≤ j := by omega
        have kc0 : (n : Int) < (1 : Int) := by omega
        have kc1 : ¬ (1 : Int) ≤ (n : Int) := by omega
        clear hi hj
        go_enter Try.func15, Try.ntmps15
        go_wp2_with (first | (go_at_call 39; (with_reducible refine (copiedV_any H.out.vs H.out.len (by omega) H.out.nz).mono ?_); rintro e x1 ⟨y1, d1, rfl, r1, k1⟩; have RX := hide r1.1; have KX := hide k1; clear r1 k1) | fail)
        go_ret2
        exact din_no HR.out RX.out KX.out
      · by_cases hc1 : (n : Int) - 1 < i
        · have HR : Hid (orM V i j 1 = (V, false)) := by show _ = _; unfold orM; rw [H.out.len, if_neg (by omega)]
          have fi0 : 0 ≤ i := by omega
          have fi1 : i < (n : Int) := by omega
          have fi2 : ¬ (n : Int) ≤ i := by omega
          have fi3 : ¬ i < 0 := by omega
          have fj0 : j < 0 := by omega
          have fj1 : ¬ 0 ≤ j := by omega
          have kc0 : (1 : Int) ≤ (n : Int) := by omega
          have kc1 : ¬ (n : Int) < (1 : Int) := by omega
          have w0 : IntKind.i64.wrap ((n : Int) - 1) = (n : Int) - 1 := by rw [IntKind.wrap_i64]; omega
          have kd0 : (n : Int) - 1 < i := by omega
          have kd1 : ¬ i ≤ (n : Int) - 1 := by omega
          clear hi hj
          go_enter Try.func15, Try.ntmps15
          go_wp2_with (first | (go_at_call 39; (with_reducible refine (copiedV_any H.out.vs H.out.len (by omega) H.out.nz).mono ?_); rintro e x1 ⟨y1, d1, rfl, r1, k1⟩; have RX := hide r1.1; have KX := hide k1; clear r1 k1) | fail)
          go_ret2
          exact din_no HR.out RX.out KX.out
        · have HR : Hid (orM V i j 1 = (V, false)) := by show _ = _; unfold orM; rw [H.out.len, if_neg (by omega)]
          have fi0 : 0 ≤ i := by omega
          have fi1 : i < (n : Int) := by omega
          have fi2 : ¬ (n : Int) ≤ i := by omega
          have fi3 : ¬ i < 0 := by omega
          have fj0 : j < 0 := by omega
          have fj1 : ¬ 0 ≤ j := by omega
          have kc0 : (1 : Int) ≤ (n : Int) := by omega
          have kc1 : ¬ (n : Int) < (1 : Int) := by omega
          have kd0 : i ≤ (n : Int) - 1 := by omega
          have kd1 : ¬ (n : Int) - 1 < i := by omega
          have w0 : IntKind.i64.wrap ((n : Int) - 1) = (n : Int) - 1 := by rw [IntKind.wrap_i64]; omega
          clear hi hj
          go_enter Try.func15, Try.ntmps15
          go_wp2_with (first | (go_at_call 39; (with_reducible refine (copiedV_any H.out.vs H.out.len (by omega) H.out.nz).mono ?_); rintro e x1 ⟨y1, d1, rfl, r1, k1⟩; have RX := hide r1.1; have KX := hide k1; clear r1 k1) | fail)
          go_ret2
          exact din_no HR.out RX.out KX.out
    · by_cases hc0 : (n : Int) < (1 : Int)
      · have HR : Hid (orM V i j 1 = (V, false)) := by show _ = _; unfold orM; rw [H.out.len, if_neg (by omega)]
        have fi0 : 0 ≤ i := by omega
        have fi1 : i < (n : Int) := by omega
        have fi2 : ¬ (n : Int) ≤ i := by omega
        have fi3 : ¬ i < 0 := by omega
        have fj0 : 0 ≤ j := by omega
        have fj1 : ¬ j < (n : Int) := by omega
        have fj2 : (n : Int) ≤ j := by omega
        have fj3 : ¬ j < 0 := by omega
        have kc0 : (n : Int) < (1 : Int) := by omega
        have kc1 : ¬ (1 : Int) ≤ (n : Int) := by omega
        clear hi hj
        go_enter Try.func15, Try.ntmps15
        go_wp2_with (first | (go_at_call 39; (with_reducible refine (copiedV_any H.out.vs H.out.len (by omega) H.out.nz).mono ?_); rintro e x1 ⟨y1, d1, rfl, r1, k1⟩; have RX := hide r1.1; have KX := hide k1; clear r1 k1) | fail)
        go_ret2
        exact din_no HR.out RX.out KX.out
      · by_cases hc1 : (n : Int) - 1 < i
        · have HR : Hid (orM V i j 1 = (V, false)) := by show _ = _; unfold orM; rw [H.out.len, if_neg (by omega)]
          have fi0 : 0 ≤ i := by omega
          have fi1 : i < (n : Int) := by omega
          have fi2 : ¬ (n : Int) ≤ i := by omega
          have fi3 : ¬ i < 0 := by omega
          have fj0 : 0 ≤ j := by omega
          have fj1 : ¬ j < (n : Int) := by omega
          have fj2 : (n : Int) ≤ j := by omega
          have fj3 : ¬ j < 0 := by omega
          have kc0 : (1 : Int) ≤ (n : Int) := by omega
          have kc1 : ¬ (n : Int) < (1 : Int) := by omega
          have w0 : IntKind.i64.wrap ((n : Int) - 1) = (n : Int) - 1 := by rw [IntKind.wrap_i64]; omega
          have kd0 : (n : Int) - 1 < i := by omega
          have kd1 : ¬ i ≤ (n : Int) - 1 := by omega
          clear hi hj
          go_enter Try.func15, Try.ntmps15
          go_wp2_with (first | (go_at_call 39; (with_reducible refine (copiedV_any H.out.vs H.out.len (by omega) H.out.nz).mono ?_); rintro e x1 ⟨y1, d1, rfl, r1, k1⟩; have RX := hide r1.1; have KX := hide k1; clear r1 k1) | fail)
          go_ret2
          exact din_no HR.out RX.out KX.out
        · by_cases hc2 : (n : Int) - 1 < j
          · have HR : Hid (orM V i j 1 = (V, false)) := by show _ = _; unfold orM; rw [H.out.len, if_neg (by omega)]
            have fi0 : 0 ≤ i := by omega
            have fi1 : i < (n : Int) := by omega
            have fi2 : ¬ (n : Int) ≤ i := by omega
            have fi3 : ¬ i < 0 := by omega
            have fj0 : 0 ≤ j := by omega
            have fj1 : ¬ j < (n : Int) := by omega
            have fj2 : (n : Int) ≤ j := by omega
            have fj3 : ¬ j < 0 := by omega
            have kc0 : (1 : Int) ≤ (n : Int) := by omega
            have kc1 : ¬ (n : Int) < (1 : Int) := by omega
            have kd0 : i ≤ (n : Int) - 1 := by omega
            have kd1 : ¬ (n : Int) - 1 < i := by omega
            have w0 : IntKind.i64.wrap ((n : Int) - 1) = (n : Int) - 1 := by rw [IntKind.wrap_i64]; omega
            have ke0 : (n : Int) - 1 < j := by omega
            have ke1 : ¬ j ≤ (n : Int) - 1 := by omega
            clear hi hj
            go_enter Try.func15, Try.ntmps15
            go_wp2_with (first | (go_at_call 39; (with_reducible refine (copiedV_any H.out.vs H.out.len (by omega) H.out.nz).mono ?_); rintro e x1 ⟨y1, d1, rfl, r1, k1⟩; have RX := hide r1.1; have KX := hide k1; clear r1 k1) | fail)
            go_ret2
            exact din_no HR.out RX.out KX.out
          · exfalso; omega
    · by_cases hc0 : (n : Int) < (1 : Int)
      · have HR : Hid (orM V i j 1 = (V, false)) := by show _ = _; unfold orM; rw [H.out.len, if_neg (by omega)]
        have fi0 : 0 ≤ i := by omega
        have fi1 : i < (n : Int) := by omega
        have fi2 : ¬ (n : Int) ≤ i := by omega
        have fi3 : ¬ i < 0 := by omega
        have fj0 : 0 ≤ j := by omega
        have fj1 : j < (n : Int) := by omega
        have fj2 : ¬ (n : Int) ≤ j := by omega
        have fj3 : ¬ j < 0 := by omega
        have kc0 : (n : Int) < (1 : Int) := by omega
        have kc1 : ¬ (1 : Int) ≤ (n : Int) := by omega
        clear hi hj
        go_enter Try.func15, Try.ntmps15
        go_wp2_with (first | (go_at_call 39; (with_reducible refine (copiedV_any H.out.vs H.out.len (by omega) H.out.nz).mono ?_); rintro e x1 ⟨y1, d1, rfl, r1, k1⟩; have RX := hide r1.1; have KX := hide k1; clear r1 k1) | fail)
        go_ret2
        exact din_no HR.out RX.out KX.out
      · by_cases hc1 : (n : Int) - 1 < i
        · have HR : Hid (orM V i j 1 = (V, false)) := by show _ = _; unfold orM; rw [H.out.len, if_neg (by omega)]
          have fi0 : 0 ≤ i := by omega
          have fi1 : i < (n : Int) := by omega
          have fi2 : ¬ (n : Int) ≤ i := by omega
          have fi3 : ¬ i < 0 := by omega
          have fj0 : 0 ≤ j := by omega
          have fj1 : j < (n : Int) := by omega
          have fj2 : ¬ (n : Int) ≤ j := by omega
          have fj3 : ¬ j < 0 := by omega
          have kc0 : (1 : Int) ≤ (n : Int) := by omega
          have kc1 : ¬ (n : Int) < (1 : Int) := by omega
          have w0 : IntKind.i64.wrap ((n : Int) - 1) = (n : Int) - 1 := by rw [IntKind.wrap_i64]; omega
          have kd0 : (n : Int) - 1 < i := by omega
          have kd1 : ¬ i ≤ (n : Int) - 1 := by omega
          clear hi hj
          go_enter Try.func15, Try.ntmps15
          go_wp2_with (first | (go_at_call 39; (with_reducible refine (copiedV_any H.out.vs H.out.len (by omega) H.out.nz).mono ?_); rintro e x1 ⟨y1, d1, rfl, r1, k1⟩; have RX := hide r1.1; have KX := hide k1; clear r1 k1) | fail)
          go_ret2
          exact din_no HR.out RX.out KX.out
        · by_cases hc2 : (n : Int) - 1 < j
          · have HR : Hid (orM V i j 1 = (V, false)) := by show _ = _; unfold orM; rw [H.out.len, if_neg (by omega)]
            have fi0 : 0 ≤ i := by omega
            have fi1 : i < (n : Int) := by omega
            have fi2 : ¬ (n : Int) ≤ i := by omega
            have fi3 : ¬ i < 0 := by omega
            have fj0 : 0 ≤ j := by omega
            have fj1 : j < (n : Int) := by omega
            have fj2 : ¬ (n : Int) ≤ j := by omega
            have fj3 : ¬ j < 0 := by omega
            have kc0 : (1 : Int) ≤ (n : Int) := by omega
            have kc1 : ¬ (n : Int) < (1 : Int) := by omega
            have kd0 : i ≤ (n : Int) - 1 := by omega
            have kd1 : ¬ (n : Int) - 1 < i := by omega
            have w0 : IntKind.i64.wrap ((n : Int) - 1) = (n : Int) - 1 := by rw [IntKind.wrap_i64]; omega
            have ke0 : (n : Int) - 1 < j := by omega
            have ke1 : ¬ j ≤ (n : Int) - 1 := by omega
            clear hi hj
            go_enter Try.func15, Try.ntmps15
            go_wp2_with (first | (go_at_call 39; (with_reducible refine (copiedV_any H.out.vs H.out.len (by omega) H.out.nz).mono ?_); rintro e x1 ⟨y1, d1, rfl, r1, k1⟩; have RX := hide r1.1; have KX := hide k1; clear r1 k1) | fail)
            go_ret2
            exact din_no HR.out RX.out KX.out
          · by_cases hcEQ : i = j
            · have HR : Hid (orM V i j 1 = (V, false)) := by show _ = _; unfold orM; rw [H.out.len, if_neg (by omega)]
              have fi0 : 0 ≤ i := by omega
              have fi1 : i < (n : Int) := by omega
              have fi2 : ¬ (n : Int) ≤ i := by omega
              have fi3 : ¬ i < 0 := by omega
              have fj0 : 0 ≤ j := by omega
              have fj1 : j < (n : Int) := by omega
              have fj2 : ¬ (n : Int) ≤ j := by omega
              have fj3 : ¬ j < 0 := by omega
              have kc0 : (1 : Int) ≤ (n : Int) := by omega
              have kc1 : ¬ (n : Int) < (1 : Int) := by omega
              have kd0 : i ≤ (n : Int) - 1 := by omega
              have kd1 : ¬ (n : Int) - 1 < i := by omega
              have ke0 : j ≤ (n : Int) - 1 := by omega
              have ke1 : ¬ (n : Int) - 1 < j := by omega
              have w0 : IntKind.i64.wrap ((n : Int) - 1) = (n : Int) - 1 := by rw [IntKind.wrap_i64]; omega
              have ye : (i != j) = false := by simpa using hcEQ
              clear hi hj
              clear hcEQ
              go_enter Try.func15, Try.ntmps15
              go_wp2_with (first | (go_at_call 39; (with_reducible refine (copiedV_any H.out.vs H.out.len (by omega) H.out.nz).mono ?_); rintro e x1 ⟨y1, d1, rfl, r1, k1⟩; have RX := hide r1.1; have KX := hide k1; clear r1 k1) | fail)
              go_ret2
              exact din_no HR.out RX.out KX.out
            · have fi0 : 0 ≤ i := by omega
              have fi1 : i < (n : Int) := by omega
              have fi2 : ¬ (n : Int) ≤ i := by omega
              have fi3 : ¬ i < 0 := by omega
              have fj0 : 0 ≤ j := by omega
              have fj1 : j < (n : Int) := by omega
              have fj2 : ¬ (n : Int) ≤ j := by omega
              have fj3 : ¬ j < 0 := by omega
              have kc0 : (1 : Int) ≤ (n : Int) := by omega
              have kc1 : ¬ (n : Int) < (1 : Int) := by omega
              have kd0 : i ≤ (n : Int) - 1 := by omega
              have kd1 : ¬ (n : Int) - 1 < i := by omega
              have ke0 : j ≤ (n : Int) - 1 := by omega
              have ke1 : ¬ (n : Int) - 1 < j := by omega
              have ye : (i != j) = true := by simpa using hcEQ
              obtain ⟨a, ha⟩ : ∃ a : Nat, i = a := ⟨i.toNat, by omega⟩
              obtain ⟨b, hb⟩ : ∃ b : Nat, j = b := ⟨j.toNat, by omega⟩
              obtain ⟨mm, hmm⟩ : ∃ m : Nat, (1 : Int) = m := ⟨((1 : Int)).toNat, by omega⟩
              obtain ⟨r, hr⟩ : ∃ r : Nat, n = a + mm + r := ⟨n - (a + mm), by omega⟩
              obtain ⟨z, hz⟩ : ∃ z : Nat, a + r = b + z := ⟨a + r - b, by omega⟩
              obtain ⟨q, hq⟩ : ∃ q : Nat, a + 0 + r = q := ⟨_, rfl⟩
              have HR : Hid (orM V i j 1 = (orD V a b mm r z, true)) := by
                have h9 := or_doc (V := V) (a := a) (b := b) (m := mm) (r := r) (t := z) (by rw [H.out.len]; exact hr) hz (by omega) (by omega) (by omega)
                rw [← ha, ← hb, ← hmm] at h9
                exact h9
              have u1 : IntKind.i64.wrap (i + 1) = i + 1 := by rw [IntKind.wrap_i64]; omega
              have w0 : IntKind.i64.wrap ((n : Int) - 1) = (n : Int) - 1 := by rw [IntKind.wrap_i64]; omega
              have HP1 := hide (part_in 0 a (P := (V.drop 0).take a) (x := 0) (y := i) H.out rfl rfl (by omega) (by omega) (by omega))
              have HP2 := hide (part_in (a + mm) r (P := (V.drop (a + mm)).take r) (x := i + 1) (y := (n : Int)) H.out rfl (by omega) (by omega) (by omega) (by omega))
              have HP3 := hide (part_in a mm (P := (V.drop a).take mm) (x := i) (y := i + 1) H.out rfl (by omega) (by omega) (by omega) (by omega))
              have HX1 : Hid (PtA 0 b q 0 j) := ⟨rfl, by omega, by omega, by omega⟩
              have HX2 : Hid (PtA b z q j ((n : Int) - 1)) := ⟨by omega, by omega, by omega, by omega⟩
              have HL1 : Hid ((V.drop 0).take a ++ ([] ++ (V.drop (a + mm)).take r) = restD V a mm r) := (by show _ = _; rfl)
              have HL2 : Hid (((restD V a mm r).drop 0).take b ++ ((V.drop a).take mm ++ ((restD V a mm r).drop b).take z) = orD V a b mm r z) := (by show _ = _; rfl)
              have HN1 := hide hq
              have HN2 : Hid (b + mm + z = n) := (by show _ = _; omega)
              have hq9 : q ≤ 900 := by omega
              clear hr hz hq ha hb hi hj hmm
              go_enter Try.func15, Try.ntmps15
              go_wp2_with (first | (go_at_call 36; (with_reducible refine (join_at HN2.out HL2.out (Q4.out.on (below_on B5.out B6.out)) (Q5.out.on B6.out) (Q6.out.on (Below.refl _ _)) (by omega)).mono ?_); rintro e w7 ⟨a7, c7, rfl, r7, k7⟩; have R7 := hide (own_mono r7.1 (K6.out).size); have Q7 := hide r7.2; have B7 := hide k7; have K7 := hide (below_on K6.out k7); clear k7 r7) | (go_at_call 37; (with_reducible refine (part_at2 HX2.out (Q3.out.on (below_on B4.out B5.out))).mono ?_); rintro e w6 ⟨g6, c6, rfl, q6, k6⟩; have Q6 := hide q6; have B6 := hide k6; have K6 := hide (below_on K5.out k6); clear k6 q6) | (go_at_call 37; (with_reducible refine (HP3.out _ K4.out).mono ?_); rintro e w5 ⟨g5, c5, rfl, q5, k5⟩; have Q5 := hide q5; have B5 := hide k5; have K5 := hide (below_on K4.out k5); clear k5 q5) | (go_at_call 37; (with_reducible refine (part_at2 HX1.out (Q3.out.on (Below.refl _ _))).mono ?_); rintro e w4 ⟨g4, c4, rfl, q4, k4⟩; have Q4 := hide q4; have B4 := hide k4; have K4 := hide (below_on K3.out k4); clear k4 q4) | (go_at_call 36; (with_reducible refine (join_at HN1.out HL1.out (Q1.out.on B2.out) (nil_sl _) (Q2.out.on (Below.refl _ _)) (by omega)).mono ?_); rintro e w3 ⟨a3, c3, rfl, r3, k3⟩; have R3 := hide (own_mono r3.1 (K2.out).size); have Q3 := hide r3.2; have B3 := hide k3; have K3 := hide (below_on K2.out k3); clear k3 r3) | (go_at_call 37; (with_reducible refine (HP2.out _ K1.out).mono ?_); rintro e w2 ⟨g2, c2, rfl, q2, k2⟩; have Q2 := hide q2; have B2 := hide k2; have K2 := hide (below_on K1.out k2); clear k2 q2) | (go_at_call 37; (with_reducible refine (HP1.out _ KZ.out).mono ?_); rintro e w1 ⟨g1, c1, rfl, q1, k1⟩; have Q1 := hide q1; have B1 := hide k1; have K1 := hide (below_on KZ.out k1); clear k1 q1) | fail)
              go_ret2
              exact din_yes HR.out (VRow.later R7.out (Nat.le_refl _) (Below.refl _ _)) K7.out
end Go.Proofs.Ytdnkmjafkpnliaa
