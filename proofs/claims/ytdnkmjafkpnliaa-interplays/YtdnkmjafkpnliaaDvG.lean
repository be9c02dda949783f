/-
  What the document's Inter answers: changes 3 and 4.
-/
import Derived.Test.YtdnkmjafkpnliaaDvF
import Derived.Deep.RegionHeld3
namespace Go.Proofs.Ytdnkmjafkpnliaa
open Go.RowKit

set_option maxRecDepth 100000 in
set_option maxHeartbeats 12800000 in
theorem inter_tails {w : World} {va vb : Option Addr} {m vc n vd : Nat} {A B : List Vst} (hA : SlI w va m vc A) (hB : SlI w vb n vd B) (hm : m ≤ 400) (hn : n ≤ 400) (i j k : Int) : Calls Try.prog 24 #[.slice va m vc, .slice vb n vd, .int .i64 3, .int .i64 i, .int .i64 j, .int .i64 k] w (ItD w (talM A B i j)) := by
  have HA := hide hA
  have HB := hide hB
  have KZ : Hid (Below w.heap.size w w) := Below.refl _ _
  clear hA hB
  rcases (show i < 0 ∨ (m : Int) < i ∨ (0 ≤ i ∧ i < (m : Int)) ∨ i = (m : Int) by omega) with hi | hi | hi | hi
  · have HR : Hid (talM A B i j = (A, B, false)) := by show _ = _; unfold talM; rw [HA.out.len, HB.out.len, if_neg (by simp only [witB, Bool.and_eq_true, decide_eq_true_eq]; omega)]
    have fi0 : i < 0 := by omega
    have fi1 : ¬ 0 ≤ i := by omega
    clear hi
    go_enter Try.func24, Try.ntmps24
    go_wp2_with (first | (go_at_call 39; (with_reducible refine (copiedV_any (HB.out.on KX.out).vs HB.out.len (by omega) HB.out.nz).mono ?_); rintro e x2 ⟨y2, d2, rfl, r2, k2⟩; have RY := hide r2.1; have KY := hide k2; clear r2 k2) | (go_at_call 39; (with_reducible refine (copiedV_any HA.out.vs HA.out.len (by omega) HA.out.nz).mono ?_); rintro e x1 ⟨y1, d1, rfl, r1, k1⟩; have RX := hide r1.1; have KX := hide k1; clear r1 k1) | fail)
    go_ret3
    exact itd_no HR.out HA.out.len HB.out.len RX.out KX.out RY.out KY.out
  · have HR : Hid (talM A B i j = (A, B, false)) := by show _ = _; unfold talM; rw [HA.out.len, HB.out.len, if_neg (by simp only [witB, Bool.and_eq_true, decide_eq_true_eq]; omega)]
    have fi0 : 0 ≤ i := by omega
    have fi1 : ¬ i < (m : Int) := by omega
    have fi2 : ¬ i ≤ (m : Int) := by omega
    have fi3 : (m : Int) < i := by omega
    have fi4 : (m : Int) ≤ i := by omega
    have fi5 : ¬ i < 0 := by omega
    clear hi
    go_enter Try.func24, Try.ntmps24
    go_wp2_with (first | (go_at_call 39; (with_reducible refine (copiedV_any (HB.out.on KX.out).vs HB.out.len (by omega) HB.out.nz).mono ?_); rintro e x2 ⟨y2, d2, rfl, r2, k2⟩; have RY := hide r2.1; have KY := hide k2; clear r2 k2) | (go_at_call 39; (with_reducible refine (copiedV_any HA.out.vs HA.out.len (by omega) HA.out.nz).mono ?_); rintro e x1 ⟨y1, d1, rfl, r1, k1⟩; have RX := hide r1.1; have KX := hide k1; clear r1 k1) | fail)
    go_ret3
    exact itd_no HR.out HA.out.len HB.out.len RX.out KX.out RY.out KY.out
  · rcases (show j < 0 ∨ (n : Int) < j ∨ (0 ≤ j ∧ j < (n : Int)) ∨ j = (n : Int) by omega) with hj | hj | hj | hj
    · have HR : Hid (talM A B i j = (A, B, false)) := by show _ = _; unfold talM; rw [HA.out.len, HB.out.len, if_neg (by simp only [witB, Bool.and_eq_true, decide_eq_true_eq]; omega)]
      have fi0 : 0 ≤ i := by omega
      have fi1 : i < (m : Int) := by omega
      have fi2 : i ≤ (m : Int) := by omega
      have fi3 : ¬ (m : Int) ≤ i := by omega
      have fi4 : ¬ (m : Int) < i := by omega
      have fi5 : ¬ i < 0 := by omega
      have fj0 : j < 0 := by omega
      have fj1 : ¬ 0 ≤ j := by omega
      clear hi hj
      go_enter Try.func24, Try.ntmps24
      go_wp2_with (first | (go_at_call 39; (with_reducible refine (copiedV_any (HB.out.on KX.out).vs HB.out.len (by omega) HB.out.nz).mono ?_); rintro e x2 ⟨y2, d2, rfl, r2, k2⟩; have RY := hide r2.1; have KY := hide k2; clear r2 k2) | (go_at_call 39; (with_reducible refine (copiedV_any HA.out.vs HA.out.len (by omega) HA.out.nz).mono ?_); rintro e x1 ⟨y1, d1, rfl, r1, k1⟩; have RX := hide r1.1; have KX := hide k1; clear r1 k1) | fail)
      go_ret3
      exact itd_no HR.out HA.out.len HB.out.len RX.out KX.out RY.out KY.out
    · have HR : Hid (talM A B i j = (A, B, false)) := by show _ = _; unfold talM; rw [HA.out.len, HB.out.len, if_neg (by simp only [witB, Bool.and_eq_true, decide_eq_true_eq]; omega)]
      have fi0 : 0 ≤ i := by omega
      have fi1 : i < (m : Int) := by omega
      have fi2 : i ≤ (m : Int) := by omega
      have fi3 : ¬ (m : Int) ≤ i := by omega
      have fi4 : ¬ (m : Int) < i := by omega
      have fi5 : ¬ i < 0 := by omega
      have fj0 : 0 ≤ j := by omega
      have fj1 : ¬ j < (n : Int) := by omega
      have fj2 : ¬ j ≤ (n : Int) := by omega
      have fj3 : (n : Int) < j := by omega
      have fj4 : (n : Int) ≤ j := by omega
      have fj5 : ¬ j < 0 := by omega
      clear hi hj
      go_enter Try.func24, Try.ntmps24
      go_wp2_with (first | (go_at_call 39; (with_reducible refine (copiedV_any (HB.out.on KX.out).vs HB.out.len (by omega) HB.out.nz).mono ?_); rintro e x2 ⟨y2, d2, rfl, r2, k2⟩; have RY := hide r2.1; have KY := hide k2; clear r2 k2) | (go_at_call 39; (with_reducible refine (copiedV_any HA.out.vs HA.out.len (by omega) HA.out.nz).mono ?_); rintro e x1 ⟨y1, d1, rfl, r1, k1⟩; have RX := hide r1.1; have KX := hide k1; clear r1 k1) | fail)
      go_ret3
      exact itd_no HR.out HA.out.len HB.out.len RX.out KX.out RY.out KY.out
    · have fi0 : 0 ≤ i := by omega
      have fi1 : i < (m : Int) := by omega
      have fi2 : i ≤ (m : Int) := by omega
      have fi3 : ¬ (m : Int) ≤ i := by omega
      have fi4 : ¬ (m : Int) < i := by omega
      have fi5 : ¬ i < 0 := by omega
      have fj0 : 0 ≤ j := by omega
      have fj1 : j < (n : Int) := by omega
      have fj2 : j ≤ (n : Int) := by omega
      have fj3 : ¬ (n : Int) ≤ j := by omega
      have fj4 : ¬ (n : Int) < j := by omega
      have fj5 : ¬ j < 0 := by omega
      obtain ⟨a, ha⟩ : ∃ a : Nat, i = a := ⟨i.toNat, by omega⟩
      obtain ⟨b, hb⟩ : ∃ b : Nat, j = b := ⟨j.toNat, by omega⟩
      obtain ⟨r, hr⟩ : ∃ r : Nat, a + r = m := ⟨m - a, by omega⟩
      obtain ⟨s, hs⟩ : ∃ s : Nat, b + s = n := ⟨n - b, by omega⟩
      have HP1 := hide (part_in 0 a (P := A.take a) (x := 0) (y := i) HA.out part_low rfl (by omega) (by omega) (by omega))
      have HP2 := hide (part_in b s (P := B.drop b) (x := j) (y := (n : Int)) HB.out (part_high (by rw [HB.out.len]; exact hs)) (by omega) (by omega) (by omega) (by omega))
      have HP3 := hide (part_in 0 b (P := B.take b) (x := 0) (y := j) HB.out part_low rfl (by omega) (by omega) (by omega))
      have HP4 := hide (part_in a r (P := A.drop a) (x := i) (y := (m : Int)) HA.out (part_high (by rw [HA.out.len]; exact hr)) (by omega) (by omega) (by omega) (by omega))
      obtain ⟨L1, hL1⟩ : ∃ L, A.take a ++ B.drop b = L := ⟨_, rfl⟩
      obtain ⟨L2, hL2⟩ : ∃ L, B.take b ++ A.drop a = L := ⟨_, rfl⟩
      have HL1 : Hid (A.take a ++ (B.drop b ++ []) = L1) := by show _ = _; rw [List.append_nil]; exact hL1
      have HL2 : Hid (B.take b ++ (A.drop a ++ []) = L2) := by show _ = _; rw [List.append_nil]; exact hL2
      obtain ⟨p, hp⟩ : ∃ p, a + s + 0 = p := ⟨_, rfl⟩
      obtain ⟨q, hq⟩ : ∃ p, b + r + 0 = p := ⟨_, rfl⟩
      have HN1 := hide hp
      have HN2 := hide hq
      have hp9 : p ≤ 800 := by omega
      have hq9 : q ≤ 800 := by omega
      have HR : Hid (talM A B i j = (L1, L2, true)) := by
        show _ = _
        unfold talM
        have c3 : (!(i == (m : Int) && j == (n : Int))) = true := by
          cases hz : (i == (m : Int) && j == (n : Int)) with
          | false => rfl
          | true =>
            rw [Bool.and_eq_true] at hz
            have z1 : i = (m : Int) := by simpa using hz.1
            have z2 : j = (n : Int) := by simpa using hz.2
            omega
        rw [HA.out.len, HB.out.len, c3, if_pos (by simp only [witB, Bool.and_true, Bool.and_eq_true, decide_eq_true_eq]; omega), ha, hb, ← hL1, ← hL2]
        rfl
      have HE1 : Hid (L1.length = p) := by show _ = _; rw [← hL1]; simp only [List.length_append, List.length_take, List.length_drop, HA.out.len, HB.out.len]; omega
      have HE2 : Hid (L2.length = q) := by show _ = _; rw [← hL2]; simp only [List.length_append, List.length_take, List.length_drop, HA.out.len, HB.out.len]; omega
      clear hL1 hL2 hr hs ha hb hi hj hp hq
      go_enter Try.func24, Try.ntmps24
      go_wp2_with (first | (go_at_call 36; (with_reducible refine (join_at HN2.out HL2.out (Q4.out.on B5.out) (Q5.out.on (Below.refl _ _)) (nil_sl _) (by omega)).mono ?_); rintro e w6 ⟨a6, c6, rfl, r6, k6⟩; have R6 := hide (own_mono r6.1 (K5.out).size); have Q6 := hide r6.2; have B6 := hide k6; have K6 := hide (below_on K5.out k6); clear k6 r6) | (go_at_call 37; (with_reducible refine (HP4.out _ K4.out).mono ?_); rintro e w5 ⟨g5, c5, rfl, q5, k5⟩; have Q5 := hide q5; have B5 := hide k5; have K5 := hide (below_on K4.out k5); clear k5 q5) | (go_at_call 37; (with_reducible refine (HP3.out _ K3.out).mono ?_); rintro e w4 ⟨g4, c4, rfl, q4, k4⟩; have Q4 := hide q4; have B4 := hide k4; have K4 := hide (below_on K3.out k4); clear k4 q4) | (go_at_call 36; (with_reducible refine (join_at HN1.out HL1.out (Q1.out.on B2.out) (Q2.out.on (Below.refl _ _)) (nil_sl _) (by omega)).mono ?_); rintro e w3 ⟨a3, c3, rfl, r3, k3⟩; have R3 := hide (own_mono r3.1 (K2.out).size); have Q3 := hide r3.2; have B3 := hide k3; have K3 := hide (below_on K2.out k3); clear k3 r3) | (go_at_call 37; (with_reducible refine (HP2.out _ K1.out).mono ?_); rintro e w2 ⟨g2, c2, rfl, q2, k2⟩; have Q2 := hide q2; have B2 := hide k2; have K2 := hide (below_on K1.out k2); clear k2 q2) | (go_at_call 37; (with_reducible refine (HP1.out _ KZ.out).mono ?_); rintro e w1 ⟨g1, c1, rfl, q1, k1⟩; have Q1 := hide q1; have B1 := hide k1; have K1 := hide (below_on KZ.out k1); clear k1 q1) | fail)
      go_ret3
      exact itd_yes HR.out HE1.out HE2.out (VRow.later R3.out (Nat.le_refl _) (below_on (below_on B4.out B5.out) B6.out)) (VRow.later R6.out (Nat.le_refl _) (Below.refl _ _)) K6.out
    · have fi0 : 0 ≤ i := by omega
      have fi1 : i < (m : Int) := by omega
      have fi2 : i ≤ (m : Int) := by omega
      have fi3 : ¬ (m : Int) ≤ i := by omega
      have fi4 : ¬ (m : Int) < i := by omega
      have fi5 : ¬ i < 0 := by omega
      have fj0 : 0 ≤ j := by omega
      have fj1 : ¬ j < (n : Int) := by omega
      have fj2 : j ≤ (n : Int) := by omega
      have fj3 : (n : Int) ≤ j := by omega
      have fj4 : ¬ j < 0 := by omega
      obtain ⟨a, ha⟩ : ∃ a : Nat, i = a := ⟨i.toNat, by omega⟩
      obtain ⟨b, hb⟩ : ∃ b : Nat, j = b := ⟨j.toNat, by omega⟩
      obtain ⟨r, hr⟩ : ∃ r : Nat, a + r = m := ⟨m - a, by omega⟩
      obtain ⟨s, hs⟩ : ∃ s : Nat, b + s = n := ⟨n - b, by omega⟩
      have HP1 := hide (part_in 0 a (P := A.take a) (x := 0) (y := i) HA.out part_low rfl (by omega) (by omega) (by omega))
      have HP2 := hide (part_in b s (P := B.drop b) (x := j) (y := (n : Int)) HB.out (part_high (by rw [HB.out.len]; exact hs)) (by omega) (by omega) (by omega) (by omega))
      have HP3 := hide (part_in 0 b (P := B.take b) (x := 0) (y := j) HB.out part_low rfl (by omega) (by omega) (by omega))
      have HP4 := hide (part_in a r (P := A.drop a) (x := i) (y := (m : Int)) HA.out (part_high (by rw [HA.out.len]; exact hr)) (by omega) (by omega) (by omega) (by omega))
      obtain ⟨L1, hL1⟩ : ∃ L, A.take a ++ B.drop b = L := ⟨_, rfl⟩
      obtain ⟨L2, hL2⟩ : ∃ L, B.take b ++ A.drop a = L := ⟨_, rfl⟩
      have HL1 : Hid (A.take a ++ (B.drop b ++ []) = L1) := by show _ = _; rw [List.append_nil]; exact hL1
      have HL2 : Hid (B.take b ++ (A.drop a ++ []) = L2) := by show _ = _; rw [List.append_nil]; exact hL2
      obtain ⟨p, hp⟩ : ∃ p, a + s + 0 = p := ⟨_, rfl⟩
      obtain ⟨q, hq⟩ : ∃ p, b + r + 0 = p := ⟨_, rfl⟩
      have HN1 := hide hp
      have HN2 := hide hq
      have hp9 : p ≤ 800 := by omega
      have hq9 : q ≤ 800 := by omega
      have HR : Hid (talM A B i j = (L1, L2, true)) := by
        show _ = _
        unfold talM
        have c3 : (!(i == (m : Int) && j == (n : Int))) = true := by
          cases hz : (i == (m : Int) && j == (n : Int)) with
          | false => rfl
          | true =>
            rw [Bool.and_eq_true] at hz
            have z1 : i = (m : Int) := by simpa using hz.1
            have z2 : j = (n : Int) := by simpa using hz.2
            omega
        rw [HA.out.len, HB.out.len, c3, if_pos (by simp only [witB, Bool.and_true, Bool.and_eq_true, decide_eq_true_eq]; omega), ha, hb, ← hL1, ← hL2]
        rfl
      have HE1 : Hid (L1.length = p) := by show _ = _; rw [← hL1]; simp only [List.length_append, List.length_take, List.length_drop, HA.out.len, HB.out.len]; omega
      have HE2 : Hid (L2.length = q) := by show _ = _; rw [← hL2]; simp only [List.length_append, List.length_take, List.length_drop, HA.out.len, HB.out.len]; omega
      clear hL1 hL2 hr hs ha hb hi hj hp hq
      go_enter Try.func24, Try.ntmps24
      go_wp2_with (first | (go_at_call 36; (with_reducible refine (join_at HN2.out HL2.out (Q4.out.on B5.out) (Q5.out.on (Below.refl _ _)) (nil_sl _) (by omega)).mono ?_); rintro e w6 ⟨a6, c6, rfl, r6, k6⟩; have R6 := hide (own_mono r6.1 (K5.out).size); have Q6 := hide r6.2; have B6 := hide k6; have K6 := hide (below_on K5.out k6); clear k6 r6) | (go_at_call 37; (with_reducible refine (HP4.out _ K4.out).mono ?_); rintro e w5 ⟨g5, c5, rfl, q5, k5⟩; have Q5 := hide q5; have B5 := hide k5; have K5 := hide (below_on K4.out k5); clear k5 q5) | (go_at_call 37; (with_reducible refine (HP3.out _ K3.out).mono ?_); rintro e w4 ⟨g4, c4, rfl, q4, k4⟩; have Q4 := hide q4; have B4 := hide k4; have K4 := hide (below_on K3.out k4); clear k4 q4) | (go_at_call 36; (with_reducible refine (join_at HN1.out HL1.out (Q1.out.on B2.out) (Q2.out.on (Below.refl _ _)) (nil_sl _) (by omega)).mono ?_); rintro e w3 ⟨a3, c3, rfl, r3, k3⟩; have R3 := hide (own_mono r3.1 (K2.out).size); have Q3 := hide r3.2; have B3 := hide k3; have K3 := hide (below_on K2.out k3); clear k3 r3) | (go_at_call 37; (with_reducible refine (HP2.out _ K1.out).mono ?_); rintro e w2 ⟨g2, c2, rfl, q2, k2⟩; have Q2 := hide q2; have B2 := hide k2; have K2 := hide (below_on K1.out k2); clear k2 q2) | (go_at_call 37; (with_reducible refine (HP1.out _ KZ.out).mono ?_); rintro e w1 ⟨g1, c1, rfl, q1, k1⟩; have Q1 := hide q1; have B1 := hide k1; have K1 := hide (below_on KZ.out k1); clear k1 q1) | fail)
      go_ret3
      exact itd_yes HR.out HE1.out HE2.out (VRow.later R3.out (Nat.le_refl _) (below_on (below_on B4.out B5.out) B6.out)) (VRow.later R6.out (Nat.le_refl _) (Below.refl _ _)) K6.out
  · rcases (show j < 0 ∨ (n : Int) < j ∨ (0 ≤ j ∧ j < (n : Int)) ∨ j = (n : Int) by omega) with hj | hj | hj | hj
    · have HR : Hid (talM A B i j = (A, B, false)) := by show _ = _; unfold talM; rw [HA.out.len, HB.out.len, if_neg (by simp only [witB, Bool.and_eq_true, decide_eq_true_eq]; omega)]
      have fi0 : 0 ≤ i := by omega
      have fi1 : ¬ i < (m : Int) := by omega
      have fi2 : i ≤ (m : Int) := by omega
      have fi3 : (m : Int) ≤ i := by omega
      have fi4 : ¬ i < 0 := by omega
      have fj0 : j < 0 := by omega
      have fj1 : ¬ 0 ≤ j := by omega
      clear hi hj
      go_enter Try.func24, Try.ntmps24
      go_wp2_with (first | (go_at_call 39; (with_reducible refine (copiedV_any (HB.out.on KX.out).vs HB.out.len (by omega) HB.out.nz).mono ?_); rintro e x2 ⟨y2, d2, rfl, r2, k2⟩; have RY := hide r2.1; have KY := hide k2; clear r2 k2) | (go_at_call 39; (with_reducible refine (copiedV_any HA.out.vs HA.out.len (by omega) HA.out.nz).mono ?_); rintro e x1 ⟨y1, d1, rfl, r1, k1⟩; have RX := hide r1.1; have KX := hide k1; clear r1 k1) | fail)
      go_ret3
      exact itd_no HR.out HA.out.len HB.out.len RX.out KX.out RY.out KY.out
    · have HR : Hid (talM A B i j = (A, B, false)) := by show _ = _; unfold talM; rw [HA.out.len, HB.out.len, if_neg (by simp only [witB, Bool.and_eq_true, decide_eq_true_eq]; omega)]
      have fi0 : 0 ≤ i := by omega
      have fi1 : ¬ i < (m : Int) := by omega
      have fi2 : i ≤ (m : Int) := by omega
      have fi3 : (m : Int) ≤ i := by omega
      have fi4 : ¬ i < 0 := by omega
      have fj0 : 0 ≤ j := by omega
      have fj1 : ¬ j < (n : Int) := by omega
      have fj2 : ¬ j ≤ (n : Int) := by omega
      have fj3 : (n : Int) < j := by omega
      have fj4 : (n : Int) ≤ j := by omega
      have fj5 : ¬ j < 0 := by omega
      clear hi hj
      go_enter Try.func24, Try.ntmps24
      go_wp2_with (first | (go_at_call 39; (with_reducible refine (copiedV_any (HB.out.on KX.out).vs HB.out.len (by omega) HB.out.nz).mono ?_); rintro e x2 ⟨y2, d2, rfl, r2, k2⟩; have RY := hide r2.1; have KY := hide k2; clear r2 k2) | (go_at_call 39; (with_reducible refine (copiedV_any HA.out.vs HA.out.len (by omega) HA.out.nz).mono ?_); rintro e x1 ⟨y1, d1, rfl, r1, k1⟩; have RX := hide r1.1; have KX := hide k1; clear r1 k1) | fail)
      go_ret3
      exact itd_no HR.out HA.out.len HB.out.len RX.out KX.out RY.out KY.out
    · have fi0 : 0 ≤ i := by omega
      have fi1 : ¬ i < (m : Int) := by omega
      have fi2 : i ≤ (m : Int) := by omega
      have fi3 : (m : Int) ≤ i := by omega
      have fi4 : ¬ i < 0 := by omega
      have fj0 : 0 ≤ j := by omega
      have fj1 : j < (n : Int) := by omega
      have fj2 : j ≤ (n : Int) := by omega
      have fj3 : ¬ (n : Int) ≤ j := by omega
      have fj4 : ¬ (n : Int) < j := by omega
      have fj5 : ¬ j < 0 := by omega
      obtain ⟨a, ha⟩ : ∃ a : Nat, i = a := ⟨i.toNat, by omega⟩
      obtain ⟨b, hb⟩ : ∃ b : Nat, j = b := ⟨j.toNat, by omega⟩
      obtain ⟨r, hr⟩ : ∃ r : Nat, a + r = m := ⟨m - a, by omega⟩
      obtain ⟨s, hs⟩ : ∃ s : Nat, b + s = n := ⟨n - b, by omega⟩
      have HP1 := hide (part_in 0 a (P := A.take a) (x := 0) (y := i) HA.out part_low rfl (by omega) (by omega) (by omega))
      have HP2 := hide (part_in b s (P := B.drop b) (x := j) (y := (n : Int)) HB.out (part_high (by rw [HB.out.len]; exact hs)) (by omega) (by omega) (by omega) (by omega))
      have HP3 := hide (part_in 0 b (P := B.take b) (x := 0) (y := j) HB.out part_low rfl (by omega) (by omega) (by omega))
      have HP4 := hide (part_in a r (P := A.drop a) (x := i) (y := (m : Int)) HA.out (part_high (by rw [HA.out.len]; exact hr)) (by omega) (by omega) (by omega) (by omega))
      obtain ⟨L1, hL1⟩ : ∃ L, A.take a ++ B.drop b = L := ⟨_, rfl⟩
      obtain ⟨L2, hL2⟩ : ∃ L, B.take b ++ A.drop a = L := ⟨_, rfl⟩
      have HL1 : Hid (A.take a ++ (B.drop b ++ []) = L1) := by show _ = _; rw [List.append_nil]; exact hL1
      have HL2 : Hid (B.take b ++ (A.drop a ++ []) = L2) := by show _ = _; rw [List.append_nil]; exact hL2
      obtain ⟨p, hp⟩ : ∃ p, a + s + 0 = p := ⟨_, rfl⟩
      obtain ⟨q, hq⟩ : ∃ p, b + r + 0 = p := ⟨_, rfl⟩
      have HN1 := hide hp
      have HN2 := hide hq
      have hp9 : p ≤ 800 := by omega
      have hq9 : q ≤ 800 := by omega
      have HR : Hid (talM A B i j = (L1, L2, true)) := by
        show _ = _
        unfold talM
        have c3 : (!(i == (m : Int) && j == (n : Int))) = true := by
          cases hz : (i == (m : Int) && j == (n : Int)) with
          | false => rfl
          | true =>
            rw [Bool.and_eq_true] at hz
            have z1 : i = (m : Int) := by simpa using hz.1
            have z2 : j = (n : Int) := by simpa using hz.2
            omega
        rw [HA.out.len, HB.out.len, c3, if_pos (by simp only [witB, Bool.and_true, Bool.and_eq_true, decide_eq_true_eq]; omega), ha, hb, ← hL1, ← hL2]
        rfl
      have HE1 : Hid (L1.length = p) := by show _ = _; rw [← hL1]; simp only [List.length_append, List.length_take, List.length_drop, HA.out.len, HB.out.len]; omega
      have HE2 : Hid (L2.length = q) := by show _ = _; rw [← hL2]; simp only [List.length_append, List.length_take, List.length_drop, HA.out.len, HB.out.len]; omega
      clear hL1 hL2 hr hs ha hb hi hj hp hq
      go_enter Try.func24, Try.ntmps24
      go_wp2_with (first | (go_at_call 36; (with_reducible refine (join_at HN2.out HL2.out (Q4.out.on B5.out) (Q5.out.on (Below.refl _ _)) (nil_sl _) (by omega)).mono ?_); rintro e w6 ⟨a6, c6, rfl, r6, k6⟩; have R6 := hide (own_mono r6.1 (K5.out).size); have Q6 := hide r6.2; have B6 := hide k6; have K6 := hide (below_on K5.out k6); clear k6 r6) | (go_at_call 37; (with_reducible refine (HP4.out _ K4.out).mono ?_); rintro e w5 ⟨g5, c5, rfl, q5, k5⟩; have Q5 := hide q5; have B5 := hide k5; have K5 := hide (below_on K4.out k5); clear k5 q5) | (go_at_call 37; (with_reducible refine (HP3.out _ K3.out).mono ?_); rintro e w4 ⟨g4, c4, rfl, q4, k4⟩; have Q4 := hide q4; have B4 := hide k4; have K4 := hide (below_on K3.out k4); clear k4 q4) | (go_at_call 36; (with_reducible refine (join_at HN1.out HL1.out (Q1.out.on B2.out) (Q2.out.on (Below.refl _ _)) (nil_sl _) (by omega)).mono ?_); rintro e w3 ⟨a3, c3, rfl, r3, k3⟩; have R3 := hide (own_mono r3.1 (K2.out).size); have Q3 := hide r3.2; have B3 := hide k3; have K3 := hide (below_on K2.out k3); clear k3 r3) | (go_at_call 37; (with_reducible refine (HP2.out _ K1.out).mono ?_); rintro e w2 ⟨g2, c2, rfl, q2, k2⟩; have Q2 := hide q2; have B2 := hide k2; have K2 := hide (below_on K1.out k2); clear k2 q2) | (go_at_call 37; (with_reducible refine (HP1.out _ KZ.out).mono ?_); rintro e w1 ⟨g1, c1, rfl, q1, k1⟩; have Q1 := hide q1; have B1 := hide k1; have K1 := hide (below_on KZ.out k1); clear k1 q1) | fail)
      go_ret3
      exact itd_yes HR.out HE1.out HE2.out (VRow.later R3.out (Nat.le_refl _) (below_on (below_on B4.out B5.out) B6.out)) (VRow.later R6.out (Nat.le_refl _) (Below.refl _ _)) K6.out
    · have HR : Hid (talM A B i j = (A, B, false)) := by show _ = _; unfold talM; rw [HA.out.len, HB.out.len, if_neg (by rw [hi, hj]; simp)]
      have fi0 : 0 ≤ i := by omega
      have fi1 : ¬ i < (m : Int) := by omega
      have fi2 : i ≤ (m : Int) := by omega
      have fi3 : (m : Int) ≤ i := by omega
      have fi4 : ¬ i < 0 := by omega
      have fj0 : 0 ≤ j := by omega
      have fj1 : ¬ j < (n : Int) := by omega
      have fj2 : j ≤ (n : Int) := by omega
      have fj3 : (n : Int) ≤ j := by omega
      have fj4 : ¬ j < 0 := by omega
      clear hi hj
      go_enter Try.func24, Try.ntmps24
      go_wp2_with (first | (go_at_call 39; (with_reducible refine (copiedV_any (HB.out.on KX.out).vs HB.out.len (by omega) HB.out.nz).mono ?_); rintro e x2 ⟨y2, d2, rfl, r2, k2⟩; have RY := hide r2.1; have KY := hide k2; clear r2 k2) | (go_at_call 39; (with_reducible refine (copiedV_any HA.out.vs HA.out.len (by omega) HA.out.nz).mono ?_); rintro e x1 ⟨y1, d1, rfl, r1, k1⟩; have RX := hide r1.1; have KX := hide k1; clear r1 k1) | fail)
      go_ret3
      exact itd_no HR.out HA.out.len HB.out.len RX.out KX.out RY.out KY.out
set_option maxRecDepth 100000 in
set_option maxHeartbeats 12800000 in
theorem inter_turned {w : World} {va vb : Option Addr} {m vc n vd : Nat} {A B : List Vst} (hA : SlI w va m vc A) (hB : SlI w vb n vd B) (hm : m ≤ 400) (hn : n ≤ 400) (i j k : Int) : Calls Try.prog 24 #[.slice va m vc, .slice vb n vd, .int .i64 4, .int .i64 i, .int .i64 j, .int .i64 k] w (ItD w (trnM A B i j)) := by
  have HA := hide hA
  have HB := hide hB
  have KZ : Hid (Below w.heap.size w w) := Below.refl _ _
  clear hA hB
  rcases (show i < 0 ∨ (m : Int) < i ∨ (0 ≤ i ∧ i < (m : Int)) ∨ i = (m : Int) by omega) with hi | hi | hi | hi
  · have HR : Hid (trnM A B i j = (A, B, false)) := by show _ = _; unfold trnM; rw [HA.out.len, HB.out.len, if_neg (by simp only [witB, Bool.and_eq_true, decide_eq_true_eq]; omega)]
    have fi0 : i < 0 := by omega
    have fi1 : ¬ 0 ≤ i := by omega
    clear hi
    go_enter Try.func24, Try.ntmps24
    go_wp2_with (first | (go_at_call 39; (with_reducible refine (copiedV_any (HB.out.on KX.out).vs HB.out.len (by omega) HB.out.nz).mono ?_); rintro e x2 ⟨y2, d2, rfl, r2, k2⟩; have RY := hide r2.1; have KY := hide k2; clear r2 k2) | (go_at_call 39; (with_reducible refine (copiedV_any HA.out.vs HA.out.len (by omega) HA.out.nz).mono ?_); rintro e x1 ⟨y1, d1, rfl, r1, k1⟩; have RX := hide r1.1; have KX := hide k1; clear r1 k1) | fail)
    go_ret3
    exact itd_no HR.out HA.out.len HB.out.len RX.out KX.out RY.out KY.out
  · have HR : Hid (trnM A B i j = (A, B, false)) := by show _ = _; unfold trnM; rw [HA.out.len, HB.out.len, if_neg (by simp only [witB, Bool.and_eq_true, decide_eq_true_eq]; omega)]
    have fi0 : 0 ≤ i := by omega
    have fi1 : ¬ i < (m : Int) := by omega
    have fi2 : ¬ i ≤ (m : Int) := by omega
    have fi3 : (m : Int) < i := by omega
    have fi4 : (m : Int) ≤ i := by omega
    have fi5 : ¬ i < 0 := by omega
    clear hi
    go_enter Try.func24, Try.ntmps24
    go_wp2_with (first | (go_at_call 39; (with_reducible refine (copiedV_any (HB.out.on KX.out).vs HB.out.len (by omega) HB.out.nz).mono ?_); rintro e x2 ⟨y2, d2, rfl, r2, k2⟩; have RY := hide r2.1; have KY := hide k2; clear r2 k2) | (go_at_call 39; (with_reducible refine (copiedV_any HA.out.vs HA.out.len (by omega) HA.out.nz).mono ?_); rintro e x1 ⟨y1, d1, rfl, r1, k1⟩; have RX := hide r1.1; have KX := hide k1; clear r1 k1) | fail)
    go_ret3
    exact itd_no HR.out HA.out.len HB.out.len RX.out KX.out RY.out KY.out
  · rcases (show j < 0 ∨ (n : Int) < j ∨ (0 ≤ j ∧ j < (n : Int)) ∨ j = (n : Int) by omega) with hj | hj | hj | hj
    · have HR : Hid (trnM A B i j = (A, B, false)) := by show _ = _; unfold trnM; rw [HA.out.len, HB.out.len, if_neg (by simp only [witB, Bool.and_eq_true, decide_eq_true_eq]; omega)]
      have fi0 : 0 ≤ i := by omega
      have fi1 : i < (m : Int) := by omega
      have fi2 : i ≤ (m : Int) := by omega
      have fi3 : ¬ (m : Int) ≤ i := by omega
      have fi4 : ¬ (m : Int) < i := by omega
      have fi5 : ¬ i < 0 := by omega
      have fj0 : j < 0 := by omega
      have fj1 : ¬ 0 ≤ j := by omega
      clear hi hj
      go_enter Try.func24, Try.ntmps24
      go_wp2_with (first | (go_at_call 39; (with_reducible refine (copiedV_any (HB.out.on KX.out).vs HB.out.len (by omega) HB.out.nz).mono ?_); rintro e x2 ⟨y2, d2, rfl, r2, k2⟩; have RY := hide r2.1; have KY := hide k2; clear r2 k2) | (go_at_call 39; (with_reducible refine (copiedV_any HA.out.vs HA.out.len (by omega) HA.out.nz).mono ?_); rintro e x1 ⟨y1, d1, rfl, r1, k1⟩; have RX := hide r1.1; have KX := hide k1; clear r1 k1) | fail)
      go_ret3
      exact itd_no HR.out HA.out.len HB.out.len RX.out KX.out RY.out KY.out
    · have HR : Hid (trnM A B i j = (A, B, false)) := by show _ = _; unfold trnM; rw [HA.out.len, HB.out.len, if_neg (by simp only [witB, Bool.and_eq_true, decide_eq_true_eq]; omega)]
      have fi0 : 0 ≤ i := by omega
      have fi1 : i < (m : Int) := by omega
      have fi2 : i ≤ (m : Int) := by omega
      have fi3 : ¬ (m : Int) ≤ i := by omega
      have fi4 : ¬ (m : Int) < i := by omega
      have fi5 : ¬ i < 0 := by omega
      have fj0 : 0 ≤ j := by omega
      have fj1 : ¬ j < (n : Int) := by omega
      have fj2 : ¬ j ≤ (n : Int) := by omega
      have fj3 : (n : Int) < j := by omega
      have fj4 : (n : Int) ≤ j := by omega
      have fj5 : ¬ j < 0 := by omega
      clear hi hj
      go_enter Try.func24, Try.ntmps24
      go_wp2_with (first | (go_at_call 39; (with_reducible refine (copiedV_any (HB.out.on KX.out).vs HB.out.len (by omega) HB.out.nz).mono ?_); rintro e x2 ⟨y2, d2, rfl, r2, k2⟩; have RY := hide r2.1; have KY := hide k2; clear r2 k2) | (go_at_call 39; (with_reducible refine (copiedV_any HA.out.vs HA.out.len (by omega) HA.out.nz).mono ?_); rintro e x1 ⟨y1, d1, rfl, r1, k1⟩; have RX := hide r1.1; have KX := hide k1; clear r1 k1) | fail)
      go_ret3
      exact itd_no HR.out HA.out.len HB.out.len RX.out KX.out RY.out KY.out
    · have fi0 : 0 ≤ i := by omega
      have fi1 : i < (m : Int) := by omega
      have fi2 : i ≤ (m : Int) := by omega
      have fi3 : ¬ (m : Int) ≤ i := by omega
      have fi4 : ¬ (m : Int) < i := by omega
      have fi5 : ¬ i < 0 := by omega
      have fj0 : 0 ≤ j := by omega
      have fj1 : j < (n : Int) := by omega
      have fj2 : j ≤ (n : Int) := by omega
      have fj3 : ¬ (n : Int) ≤ j := by omega
      have fj4 : ¬ (n : Int) < j := by omega
      have fj5 : ¬ j < 0 := by omega
      obtain ⟨a, ha⟩ : ∃ a : Nat, i = a := ⟨i.toNat, by omega⟩
      obtain ⟨b, hb⟩ : ∃ b : Nat, j = b := ⟨j.toNat, by omega⟩
      obtain ⟨r, hr⟩ : ∃ r : Nat, a + r = m := ⟨m - a, by omega⟩
      obtain ⟨s, hs⟩ : ∃ s : Nat, b + s = n := ⟨n - b, by omega⟩
      have u0 : IntKind.i64.wrap ((m : Int) + (n : Int)) = (m : Int) + (n : Int) := by rw [IntKind.wrap_i64]; omega
      have u1 : (0 : Int) < (m : Int) + (n : Int) := by omega
      have u2 : (m : Int) + (n : Int) > 0 := by omega
      obtain ⟨A2, C2, e2, p2⟩ := sl_h HB.out (y := j) b hb (by omega)
      obtain ⟨A4, C4, e4, p4⟩ := sl_l HA.out (x := i) a r ha hr
      have HT1 := hide (turned_in p2 rfl (by omega))
      have HT2 := hide (turned_in p4 rfl (by omega))
      have HP1 := hide (part_in 0 a (P := A.take a) (x := 0) (y := i) HA.out part_low rfl (by omega) (by omega) (by omega))
      have HP2 := hide (part_in b s (P := B.drop b) (x := j) (y := (n : Int)) HB.out (part_high (by rw [HB.out.len]; exact hs)) (by omega) (by omega) (by omega) (by omega))
      obtain ⟨L1, hL1⟩ : ∃ L, A.take a ++ (B.take b).reverse = L := ⟨_, rfl⟩
      obtain ⟨L2, hL2⟩ : ∃ L, (A.drop a).reverse ++ B.drop b = L := ⟨_, rfl⟩
      have HL1 : Hid (A.take a ++ ((B.take b).reverse ++ []) = L1) := by show _ = _; rw [List.append_nil]; exact hL1
      have HL2 : Hid ((A.drop a).reverse ++ (B.drop b ++ []) = L2) := by show _ = _; rw [List.append_nil]; exact hL2
      obtain ⟨p, hp⟩ : ∃ p, a + b + 0 = p := ⟨_, rfl⟩
      obtain ⟨q, hq⟩ : ∃ p, r + s + 0 = p := ⟨_, rfl⟩
      have HN1 := hide hp
      have HN2 := hide hq
      have hp9 : p ≤ 800 := by omega
      have hq9 : q ≤ 800 := by omega
      have HR : Hid (trnM A B i j = (L1, L2, true)) := by
        show _ = _
        unfold trnM
        have c3 : (!((m : Int) + (n : Int) == 0)) = true := by
          cases hz : ((m : Int) + (n : Int) == 0) with
          | false => rfl
          | true =>
            have z1 : (m : Int) + (n : Int) = 0 := by simpa using hz
            omega
        rw [HA.out.len, HB.out.len, c3, if_pos (by simp only [witB, Bool.and_true, Bool.and_eq_true, decide_eq_true_eq]; omega), ha, hb, ← hL1, ← hL2]
        rfl
      have HE1 : Hid (L1.length = p) := by show _ = _; rw [← hL1]; simp only [List.length_append, List.length_take, List.length_reverse, HA.out.len, HB.out.len]; omega
      have HE2 : Hid (L2.length = q) := by show _ = _; rw [← hL2]; simp only [List.length_append, List.length_drop, List.length_reverse, HA.out.len, HB.out.len]; omega
      clear hL1 hL2 hr hs ha hb hi hj hp hq p2 p4
      go_enter Try.func24, Try.ntmps24
      go_wp2_with fail
      go_region_held3 (fun _ => True) (trivial) (first | (go_at_call 36; (with_reducible refine (join_at HN2.out HL2.out (Q4.out.on B5.out) (Q5.out.on (Below.refl _ _)) (nil_sl _) (by omega)).mono ?_); rintro e w6 ⟨a6, c6, rfl, r6, k6⟩; have R6 := hide (own_mono r6.1 (K5.out).size); have Q6 := hide r6.2; have B6 := hide k6; have K6 := hide (below_on K5.out k6); clear k6 r6) | (go_at_call 37; (with_reducible refine (HP2.out _ K4.out).mono ?_); rintro e w5 ⟨g5, c5, rfl, q5, k5⟩; have Q5 := hide q5; have B5 := hide k5; have K5 := hide (below_on K4.out k5); clear k5 q5) | (go_at_call 38; (with_reducible refine (HT2.out _ K3.out).mono ?_); rintro e w4 ⟨g4, c4, rfl, q4, k4⟩; have Q4 := hide q4; have B4 := hide k4; have K4 := hide (below_on K3.out k4); clear k4 q4) | (go_at_call 36; (with_reducible refine (join_at HN1.out HL1.out (Q1.out.on B2.out) (Q2.out.on (Below.refl _ _)) (nil_sl _) (by omega)).mono ?_); rintro e w3 ⟨a3, c3, rfl, r3, k3⟩; have R3 := hide (own_mono r3.1 (K2.out).size); have Q3 := hide r3.2; have B3 := hide k3; have K3 := hide (below_on K2.out k3); clear k3 r3) | (go_at_call 38; (with_reducible refine (HT1.out _ K1.out).mono ?_); rintro e w2 ⟨g2, c2, rfl, q2, k2⟩; have Q2 := hide q2; have B2 := hide k2; have K2 := hide (below_on K1.out k2); clear k2 q2) | (go_at_call 37; (with_reducible refine (HP1.out _ (low_drew KZ.out)).mono ?_); rintro e w1 ⟨g1, c1, rfl, q1, k1⟩; have Q1 := hide q1; have B1 := hide k1; have K1 := hide (below_on (low_drew KZ.out) k1); clear k1 q1) | fail)
      rename_i hHeld
      clear hHeld
      go_wp2_with fail
      go_ret3
      exact itd_yes HR.out HE1.out HE2.out (VRow.later R3.out (Nat.le_refl _) (below_on (below_on B4.out B5.out) B6.out)) (VRow.later R6.out (Nat.le_refl _) (Below.refl _ _)) K6.out
    · have fi0 : 0 ≤ i := by omega
      have fi1 : i < (m : Int) := by omega
      have fi2 : i ≤ (m : Int) := by omega
      have fi3 : ¬ (m : Int) ≤ i := by omega
      have fi4 : ¬ (m : Int) < i := by omega
      have fi5 : ¬ i < 0 := by omega
      have fj0 : 0 ≤ j := by omega
      have fj1 : ¬ j < (n : Int) := by omega
      have fj2 : j ≤ (n : Int) := by omega
      have fj3 : (n : Int) ≤ j := by omega
      have fj4 : ¬ j < 0 := by omega
      obtain ⟨a, ha⟩ : ∃ a : Nat, i = a := ⟨i.toNat, by omega⟩
      obtain ⟨b, hb⟩ : ∃ b : Nat, j = b := ⟨j.toNat, by omega⟩
      obtain ⟨r, hr⟩ : ∃ r : Nat, a + r = m := ⟨m - a, by omega⟩
      obtain ⟨s, hs⟩ : ∃ s : Nat, b + s = n := ⟨n - b, by omega⟩
      have u0 : IntKind.i64.wrap ((m : Int) + (n : Int)) = (m : Int) + (n : Int) := by rw [IntKind.wrap_i64]; omega
      have u1 : (0 : Int) < (m : Int) + (n : Int) := by omega
      have u2 : (m : Int) + (n : Int) > 0 := by omega
      obtain ⟨A2, C2, e2, p2⟩ := sl_h HB.out (y := j) b hb (by omega)
      obtain ⟨A4, C4, e4, p4⟩ := sl_l HA.out (x := i) a r ha hr
      have HT1 := hide (turned_in p2 rfl (by omega))
      have HT2 := hide (turned_in p4 rfl (by omega))
      have HP1 := hide (part_in 0 a (P := A.take a) (x := 0) (y := i) HA.out part_low rfl (by omega) (by omega) (by omega))
      have HP2 := hide (part_in b s (P := B.drop b) (x := j) (y := (n : Int)) HB.out (part_high (by rw [HB.out.len]; exact hs)) (by omega) (by omega) (by omega) (by omega))
      obtain ⟨L1, hL1⟩ : ∃ L, A.take a ++ (B.take b).reverse = L := ⟨_, rfl⟩
      obtain ⟨L2, hL2⟩ : ∃ L, (A.drop a).reverse ++ B.drop b = L := ⟨_, rfl⟩
      have HL1 : Hid (A.take a ++ ((B.take b).reverse ++ []) = L1) := by show _ = _; rw [List.append_nil]; exact hL1
      have HL2 : Hid ((A.drop a).reverse ++ (B.drop b ++ []) = L2) := by show _ = _; rw [List.append_nil]; exact hL2
      obtain ⟨p, hp⟩ : ∃ p, a + b + 0 = p := ⟨_, rfl⟩
      obtain ⟨q, hq⟩ : ∃ p, r + s + 0 = p := ⟨_, rfl⟩
      have HN1 := hide hp
      have HN2 := hide hq
      have hp9 : p ≤ 800 := by omega
      have hq9 : q ≤ 800 := by omega
      have HR : Hid (trnM A B i j = (L1, L2, true)) := by
        show _ = _
        unfold trnM
        have c3 : (!((m : Int) + (n : Int) == 0)) = true := by
          cases hz : ((m : Int) + (n : Int) == 0) with
          | false => rfl
          | true =>
            have z1 : (m : Int) + (n : Int) = 0 := by simpa using hz
            omega
        rw [HA.out.len, HB.out.len, c3, if_pos (by simp only [witB, Bool.and_true, Bool.and_eq_true, decide_eq_true_eq]; omega), ha, hb, ← hL1, ← hL2]
        rfl
      have HE1 : Hid (L1.length = p) := by show _ = _; rw [← hL1]; simp only [List.length_append, List.length_take, List.length_reverse, HA.out.len, HB.out.len]; omega
      have HE2 : Hid (L2.length = q) := by show _ = _; rw [← hL2]; simp only [List.length_append, List.length_drop, List.length_reverse, HA.out.len, HB.out.len]; omega
      clear hL1 hL2 hr hs ha hb hi hj hp hq p2 p4
      go_enter Try.func24, Try.ntmps24
      go_wp2_with fail
      go_region_held3 (fun _ => True) (trivial) (first | (go_at_call 36; (with_reducible refine (join_at HN2.out HL2.out (Q4.out.on B5.out) (Q5.out.on (Below.refl _ _)) (nil_sl _) (by omega)).mono ?_); rintro e w6 ⟨a6, c6, rfl, r6, k6⟩; have R6 := hide (own_mono r6.1 (K5.out).size); have Q6 := hide r6.2; have B6 := hide k6; have K6 := hide (below_on K5.out k6); clear k6 r6) | (go_at_call 37; (with_reducible refine (HP2.out _ K4.out).mono ?_); rintro e w5 ⟨g5, c5, rfl, q5, k5⟩; have Q5 := hide q5; have B5 := hide k5; have K5 := hide (below_on K4.out k5); clear k5 q5) | (go_at_call 38; (with_reducible refine (HT2.out _ K3.out).mono ?_); rintro e w4 ⟨g4, c4, rfl, q4, k4⟩; have Q4 := hide q4; have B4 := hide k4; have K4 := hide (below_on K3.out k4); clear k4 q4) | (go_at_call 36; (with_reducible refine (join_at HN1.out HL1.out (Q1.out.on B2.out) (Q2.out.on (Below.refl _ _)) (nil_sl _) (by omega)).mono ?_); rintro e w3 ⟨a3, c3, rfl, r3, k3⟩; have R3 := hide (own_mono r3.1 (K2.out).size); have Q3 := hide r3.2; have B3 := hide k3; have K3 := hide (below_on K2.out k3); clear k3 r3) | (go_at_call 38; (with_reducible refine (HT1.out _ K1.out).mono ?_); rintro e w2 ⟨g2, c2, rfl, q2, k2⟩; have Q2 := hide q2; have B2 := hide k2; have K2 := hide (below_on K1.out k2); clear k2 q2) | (go_at_call 37; (with_reducible refine (HP1.out _ (low_drew KZ.out)).mono ?_); rintro e w1 ⟨g1, c1, rfl, q1, k1⟩; have Q1 := hide q1; have B1 := hide k1; have K1 := hide (below_on (low_drew KZ.out) k1); clear k1 q1) | fail)
      rename_i hHeld
      clear hHeld
      go_wp2_with fail
      go_ret3
      exact itd_yes HR.out HE1.out HE2.out (VRow.later R3.out (Nat.le_refl _) (below_on (below_on B4.out B5.out) B6.out)) (VRow.later R6.out (Nat.le_refl _) (Below.refl _ _)) K6.out
  · rcases (show j < 0 ∨ (n : Int) < j ∨ (0 ≤ j ∧ j < (n : Int)) ∨ j = (n : Int) by omega) with hj | hj | hj | hj
    · have HR : Hid (trnM A B i j = (A, B, false)) := by show _ = _; unfold trnM; rw [HA.out.len, HB.out.len, if_neg (by simp only [witB, Bool.and_eq_true, decide_eq_true_eq]; omega)]
      have fi0 : 0 ≤ i := by omega
      have fi1 : ¬ i < (m : Int) := by omega
      have fi2 : i ≤ (m : Int) := by omega
      have fi3 : (m : Int) ≤ i := by omega
      have fi4 : ¬ i < 0 := by omega
      have fj0 : j < 0 := by omega
      have fj1 : ¬ 0 ≤ j := by omega
      clear hi hj
      go_enter Try.func24, Try.ntmps24
      go_wp2_with (first | (go_at_call 39; (with_reducible refine (copiedV_any (HB.out.on KX.out).vs HB.out.len (by omega) HB.out.nz).mono ?_); rintro e x2 ⟨y2, d2, rfl, r2, k2⟩; have RY := hide r2.1; have KY := hide k2; clear r2 k2) | (go_at_call 39; (with_reducible refine (copiedV_any HA.out.vs HA.out.len (by omega) HA.out.nz).mono ?_); rintro e x1 ⟨y1, d1, rfl, r1, k1⟩; have RX := hide r1.1; have KX := hide k1; clear r1 k1) | fail)
      go_ret3
      exact itd_no HR.out HA.out.len HB.out.len RX.out KX.out RY.out KY.out
    · have HR : Hid (trnM A B i j = (A, B, false)) := by show _ = _; unfold trnM; rw [HA.out.len, HB.out.len, if_neg (by simp only [witB, Bool.and_eq_true, decide_eq_true_eq]; omega)]
      have fi0 : 0 ≤ i := by omega
      have fi1 : ¬ i < (m : Int) := by omega
      have fi2 : i ≤ (m : Int) := by omega
      have fi3 : (m : Int) ≤ i := by omega
      have fi4 : ¬ i < 0 := by omega
      have fj0 : 0 ≤ j := by omega
      have fj1 : ¬ j < (n : Int) := by omega
      have fj2 : ¬ j ≤ (n : Int) := by omega
      have fj3 : (n : Int) < j := by omega
      have fj4 : (n : Int) ≤ j := by omega
      have fj5 : ¬ j < 0 := by omega
      clear hi hj
      go_enter Try.func24, Try.ntmps24
      go_wp2_with (first | (go_at_call 39; (with_reducible refine (copiedV_any (HB.out.on KX.out).vs HB.out.len (by omega) HB.out.nz).mono ?_); rintro e x2 ⟨y2, d2, rfl, r2, k2⟩; have RY := hide r2.1; have KY := hide k2; clear r2 k2) | (go_at_call 39; (with_reducible refine (copiedV_any HA.out.vs HA.out.len (by omega) HA.out.nz).mono ?_); rintro e x1 ⟨y1, d1, rfl, r1, k1⟩; have RX := hide r1.1; have KX := hide k1; clear r1 k1) | fail)
      go_ret3
      exact itd_no HR.out HA.out.len HB.out.len RX.out KX.out RY.out KY.out
    · have fi0 : 0 ≤ i := by omega
      have fi1 : ¬ i < (m : Int) := by omega
      have fi2 : i ≤ (m : Int) := by omega
      have fi3 : (m : Int) ≤ i := by omega
      have fi4 : ¬ i < 0 := by omega
      have fj0 : 0 ≤ j := by omega
      have fj1 : j < (n : Int) := by omega
      have fj2 : j ≤ (n : Int) := by omega
      have fj3 : ¬ (n : Int) ≤ j := by omega
      have fj4 : ¬ (n : Int) < j := by omega
      have fj5 : ¬ j < 0 := by omega
      obtain ⟨a, ha⟩ : ∃ a : Nat, i = a := ⟨i.toNat, by omega⟩
      obtain ⟨b, hb⟩ : ∃ b : Nat, j = b := ⟨j.toNat, by omega⟩
      obtain ⟨r, hr⟩ : ∃ r : Nat, a + r = m := ⟨m - a, by omega⟩
      obtain ⟨s, hs⟩ : ∃ s : Nat, b + s = n := ⟨n - b, by omega⟩
      have u0 : IntKind.i64.wrap ((m : Int) + (n : Int)) = (m : Int) + (n : Int) := by rw [IntKind.wrap_i64]; omega
      have u1 : (0 : Int) < (m : Int) + (n : Int) := by omega
      have u2 : (m : Int) + (n : Int) > 0 := by omega
      obtain ⟨A2, C2, e2, p2⟩ := sl_h HB.out (y := j) b hb (by omega)
      obtain ⟨A4, C4, e4, p4⟩ := sl_l HA.out (x := i) a r ha hr
      have HT1 := hide (turned_in p2 rfl (by omega))
      have HT2 := hide (turned_in p4 rfl (by omega))
      have HP1 := hide (part_in 0 a (P := A.take a) (x := 0) (y := i) HA.out part_low rfl (by omega) (by omega) (by omega))
      have HP2 := hide (part_in b s (P := B.drop b) (x := j) (y := (n : Int)) HB.out (part_high (by rw [HB.out.len]; exact hs)) (by omega) (by omega) (by omega) (by omega))
      obtain ⟨L1, hL1⟩ : ∃ L, A.take a ++ (B.take b).reverse = L := ⟨_, rfl⟩
      obtain ⟨L2, hL2⟩ : ∃ L, (A.drop a).reverse ++ B.drop b = L := ⟨_, rfl⟩
      have HL1 : Hid (A.take a ++ ((B.take b).reverse ++ []) = L1) := by show _ = _; rw [List.append_nil]; exact hL1
      have HL2 : Hid ((A.drop a).reverse ++ (B.drop b ++ []) = L2) := by show _ = _; rw [List.append_nil]; exact hL2
      obtain ⟨p, hp⟩ : ∃ p, a + b + 0 = p := ⟨_, rfl⟩
      obtain ⟨q, hq⟩ : ∃ p, r + s + 0 = p := ⟨_, rfl⟩
      have HN1 := hide hp
      have HN2 := hide hq
      have hp9 : p ≤ 800 := by omega
      have hq9 : q ≤ 800 := by omega
      have HR : Hid (trnM A B i j = (L1, L2, true)) := by
        show _ = _
        unfold trnM
        have c3 : (!((m : Int) + (n : Int) == 0)) = true := by
          cases hz : ((m : Int) + (n : Int) == 0) with
          | false => rfl
          | true =>
            have z1 : (m : Int) + (n : Int) = 0 := by simpa using hz
            omega
        rw [HA.out.len, HB.out.len, c3, if_pos (by simp only [witB, Bool.and_true, Bool.and_eq_true, decide_eq_true_eq]; omega), ha, hb, ← hL1, ← hL2]
        rfl
      have HE1 : Hid (L1.length = p) := by show _ = _; rw [← hL1]; simp only [List.length_append, List.length_take, List.length_reverse, HA.out.len, HB.out.len]; omega
      have HE2 : Hid (L2.length = q) := by show _ = _; rw [← hL2]; simp only [List.length_append, List.length_drop, List.length_reverse, HA.out.len, HB.out.len]; omega
      clear hL1 hL2 hr hs ha hb hi hj hp hq p2 p4
      go_enter Try.func24, Try.ntmps24
      go_wp2_with fail
      go_region_held3 (fun _ => True) (trivial) (first | (go_at_call 36; (with_reducible refine (join_at HN2.out HL2.out (Q4.out.on B5.out) (Q5.out.on (Below.refl _ _)) (nil_sl _) (by omega)).mono ?_); rintro e w6 ⟨a6, c6, rfl, r6, k6⟩; have R6 := hide (own_mono r6.1 (K5.out).size); have Q6 := hide r6.2; have B6 := hide k6; have K6 := hide (below_on K5.out k6); clear k6 r6) | (go_at_call 37; (with_reducible refine (HP2.out _ K4.out).mono ?_); rintro e w5 ⟨g5, c5, rfl, q5, k5⟩; have Q5 := hide q5; have B5 := hide k5; have K5 := hide (below_on K4.out k5); clear k5 q5) | (go_at_call 38; (with_reducible refine (HT2.out _ K3.out).mono ?_); rintro e w4 ⟨g4, c4, rfl, q4, k4⟩; have Q4 := hide q4; have B4 := hide k4; have K4 := hide (below_on K3.out k4); clear k4 q4) | (go_at_call 36; (with_reducible refine (join_at HN1.out HL1.out (Q1.out.on B2.out) (Q2.out.on (Below.refl _ _)) (nil_sl _) (by omega)).mono ?_); rintro e w3 ⟨a3, c3, rfl, r3, k3⟩; have R3 := hide (own_mono r3.1 (K2.out).size); have Q3 := hide r3.2; have B3 := hide k3; have K3 := hide (below_on K2.out k3); clear k3 r3) | (go_at_call 38; (with_reducible refine (HT1.out _ K1.out).mono ?_); rintro e w2 ⟨g2, c2, rfl, q2, k2⟩; have Q2 := hide q2; have B2 := hide k2; have K2 := hide (below_on K1.out k2); clear k2 q2) | (go_at_call 37; (with_reducible refine (HP1.out _ (low_drew KZ.out)).mono ?_); rintro e w1 ⟨g1, c1, rfl, q1, k1⟩; have Q1 := hide q1; have B1 := hide k1; have K1 := hide (below_on (low_drew KZ.out) k1); clear k1 q1) | fail)
      rename_i hHeld
      clear hHeld
      go_wp2_with fail
      go_ret3
      exact itd_yes HR.out HE1.out HE2.out (VRow.later R3.out (Nat.le_refl _) (below_on (below_on B4.out B5.out) B6.out)) (VRow.later R6.out (Nat.le_refl _) (Below.refl _ _)) K6.out
    · by_cases hz : 0 < m + n
      · have fi0 : 0 ≤ i := by omega
        have fi1 : ¬ i < (m : Int) := by omega
        have fi2 : i ≤ (m : Int) := by omega
        have fi3 : (m : Int) ≤ i := by omega
        have fi4 : ¬ i < 0 := by omega
        have fj0 : 0 ≤ j := by omega
        have fj1 : ¬ j < (n : Int) := by omega
        have fj2 : j ≤ (n : Int) := by omega
        have fj3 : (n : Int) ≤ j := by omega
        have fj4 : ¬ j < 0 := by omega
        obtain ⟨a, ha⟩ : ∃ a : Nat, i = a := ⟨i.toNat, by omega⟩
        obtain ⟨b, hb⟩ : ∃ b : Nat, j = b := ⟨j.toNat, by omega⟩
        obtain ⟨r, hr⟩ : ∃ r : Nat, a + r = m := ⟨m - a, by omega⟩
        obtain ⟨s, hs⟩ : ∃ s : Nat, b + s = n := ⟨n - b, by omega⟩
        have u0 : IntKind.i64.wrap ((m : Int) + (n : Int)) = (m : Int) + (n : Int) := by rw [IntKind.wrap_i64]; omega
        have u1 : (0 : Int) < (m : Int) + (n : Int) := by omega
        have u2 : (m : Int) + (n : Int) > 0 := by omega
        obtain ⟨A2, C2, e2, p2⟩ := sl_h HB.out (y := j) b hb (by omega)
        obtain ⟨A4, C4, e4, p4⟩ := sl_l HA.out (x := i) a r ha hr
        have HT1 := hide (turned_in p2 rfl (by omega))
        have HT2 := hide (turned_in p4 rfl (by omega))
        have HP1 := hide (part_in 0 a (P := A.take a) (x := 0) (y := i) HA.out part_low rfl (by omega) (by omega) (by omega))
        have HP2 := hide (part_in b s (P := B.drop b) (x := j) (y := (n : Int)) HB.out (part_high (by rw [HB.out.len]; exact hs)) (by omega) (by omega) (by omega) (by omega))
        obtain ⟨L1, hL1⟩ : ∃ L, A.take a ++ (B.take b).reverse = L := ⟨_, rfl⟩
        obtain ⟨L2, hL2⟩ : ∃ L, (A.drop a).reverse ++ B.drop b = L := ⟨_, rfl⟩
        have HL1 : Hid (A.take a ++ ((B.take b).reverse ++ []) = L1) := by show _ = _; rw [List.append_nil]; exact hL1
        have HL2 : Hid ((A.drop a).reverse ++ (B.drop b ++ []) = L2) := by show _ = _; rw [List.append_nil]; exact hL2
        obtain ⟨p, hp⟩ : ∃ p, a + b + 0 = p := ⟨_, rfl⟩
        obtain ⟨q, hq⟩ : ∃ p, r + s + 0 = p := ⟨_, rfl⟩
        have HN1 := hide hp
        have HN2 := hide hq
        have hp9 : p ≤ 800 := by omega
        have hq9 : q ≤ 800 := by omega
        have HR : Hid (trnM A B i j = (L1, L2, true)) := by
          show _ = _
          unfold trnM
          have c3 : (!((m : Int) + (n : Int) == 0)) = true := by
            cases hz : ((m : Int) + (n : Int) == 0) with
            | false => rfl
            | true =>
              have z1 : (m : Int) + (n : Int) = 0 := by simpa using hz
              omega
          rw [HA.out.len, HB.out.len, c3, if_pos (by simp only [witB, Bool.and_true, Bool.and_eq_true, decide_eq_true_eq]; omega), ha, hb, ← hL1, ← hL2]
          rfl
        have HE1 : Hid (L1.length = p) := by show _ = _; rw [← hL1]; simp only [List.length_append, List.length_take, List.length_reverse, HA.out.len, HB.out.len]; omega
        have HE2 : Hid (L2.length = q) := by show _ = _; rw [← hL2]; simp only [List.length_append, List.length_drop, List.length_reverse, HA.out.len, HB.out.len]; omega
        clear hL1 hL2 hr hs ha hb hi hj hp hq p2 p4
        go_enter Try.func24, Try.ntmps24
        go_wp2_with fail
        go_region_held3 (fun _ => True) (trivial) (first | (go_at_call 36; (with_reducible refine (join_at HN2.out HL2.out (Q4.out.on B5.out) (Q5.out.on (Below.refl _ _)) (nil_sl _) (by omega)).mono ?_); rintro e w6 ⟨a6, c6, rfl, r6, k6⟩; have R6 := hide (own_mono r6.1 (K5.out).size); have Q6 := hide r6.2; have B6 := hide k6; have K6 := hide (below_on K5.out k6); clear k6 r6) | (go_at_call 37; (with_reducible refine (HP2.out _ K4.out).mono ?_); rintro e w5 ⟨g5, c5, rfl, q5, k5⟩; have Q5 := hide q5; have B5 := hide k5; have K5 := hide (below_on K4.out k5); clear k5 q5) | (go_at_call 38; (with_reducible refine (HT2.out _ K3.out).mono ?_); rintro e w4 ⟨g4, c4, rfl, q4, k4⟩; have Q4 := hide q4; have B4 := hide k4; have K4 := hide (below_on K3.out k4); clear k4 q4) | (go_at_call 36; (with_reducible refine (join_at HN1.out HL1.out (Q1.out.on B2.out) (Q2.out.on (Below.refl _ _)) (nil_sl _) (by omega)).mono ?_); rintro e w3 ⟨a3, c3, rfl, r3, k3⟩; have R3 := hide (own_mono r3.1 (K2.out).size); have Q3 := hide r3.2; have B3 := hide k3; have K3 := hide (below_on K2.out k3); clear k3 r3) | (go_at_call 38; (with_reducible refine (HT1.out _ K1.out).mono ?_); rintro e w2 ⟨g2, c2, rfl, q2, k2⟩; have Q2 := hide q2; have B2 := hide k2; have K2 := hide (below_on K1.out k2); clear k2 q2) | (go_at_call 37; (with_reducible refine (HP1.out _ (low_drew KZ.out)).mono ?_); rintro e w1 ⟨g1, c1, rfl, q1, k1⟩; have Q1 := hide q1; have B1 := hide k1; have K1 := hide (below_on (low_drew KZ.out) k1); clear k1 q1) | fail)
        rename_i hHeld
        clear hHeld
        go_wp2_with fail
        go_ret3
        exact itd_yes HR.out HE1.out HE2.out (VRow.later R3.out (Nat.le_refl _) (below_on (below_on B4.out B5.out) B6.out)) (VRow.later R6.out (Nat.le_refl _) (Below.refl _ _)) K6.out
      · have HR : Hid (trnM A B i j = (A, B, false)) := by show _ = _; unfold trnM; rw [HA.out.len, HB.out.len, if_neg (by have z1 : (m : Int) + (n : Int) = 0 := (by omega); rw [z1]; simp)]
        have fi0 : 0 ≤ i := by omega
        have fi1 : ¬ i < (m : Int) := by omega
        have fi2 : i ≤ (m : Int) := by omega
        have fi3 : (m : Int) ≤ i := by omega
        have fi4 : ¬ i < 0 := by omega
        have fj0 : 0 ≤ j := by omega
        have fj1 : ¬ j < (n : Int) := by omega
        have fj2 : j ≤ (n : Int) := by omega
        have fj3 : (n : Int) ≤ j := by omega
        have fj4 : ¬ j < 0 := by omega
        have n0 : n = 0 := by omega
        have m0 : m = 0 := by omega
        have u0 : IntKind.i64.wrap ((m : Int) + (n : Int)) = 0 := by rw [IntKind.wrap_i64]; omega
        clear hi hj hz n0 m0
        go_enter Try.func24, Try.ntmps24
        go_wp2_with (first | (go_at_call 39; (with_reducible refine (copiedV_any (HB.out.on KX.out).vs HB.out.len (by omega) HB.out.nz).mono ?_); rintro e x2 ⟨y2, d2, rfl, r2, k2⟩; have RY := hide r2.1; have KY := hide k2; clear r2 k2) | (go_at_call 39; (with_reducible refine (copiedV_any HA.out.vs HA.out.len (by omega) HA.out.nz).mono ?_); rintro e x1 ⟨y1, d1, rfl, r1, k1⟩; have RX := hide r1.1; have KX := hide k1; clear r1 k1) | fail)
        go_ret3
        exact itd_no HR.out HA.out.len HB.out.len RX.out KX.out RY.out KY.out
end Go.Proofs.Ytdnkmjafkpnliaa
