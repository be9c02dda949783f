/-
  What the document's Inter answers: changes 1 to 4.
-/
import Derived.Test.YtdnkmjafkpnliaaDvE
import Derived.Test.YtdnkmjafkpnliaaPlS
namespace Go.Proofs.Ytdnkmjafkpnliaa
open Go.RowKit

/-- What the document's Inter answers. -/
def ItD (w : World) (r : List Vst × List Vst × Bool) (e : Ending) (w' : World) : Prop := ∃ a q c a' q' c', e = .returned (.tuple #[.slice a q c, .slice a' q' c', .bool r.2.2]) ∧ (r.1.length = q ∧ VRow w' w.heap.size (.slice a q c) r.1) ∧ (r.2.1.length = q' ∧ VRow w' w.heap.size (.slice a' q' c') r.2.1) ∧ Below w.heap.size w w'
theorem itd_no {w w1 w2 : World} {A B : List Vst} {r : List Vst × List Vst × Bool} {m n g1 c1 g2 c2 : Nat} (hr : r = (A, B, false)) (hA : A.length = m) (hB : B.length = n) (R1 : VRow w1 w.heap.size (.slice (some ⟨g1, 0, none⟩) m c1) A) (K1 : Below w.heap.size w w1) (R2 : VRow w2 w1.heap.size (.slice (some ⟨g2, 0, none⟩) n c2) B) (K2 : Below w1.heap.size w1 w2) : ItD w r (.returned (.tuple #[.slice (some ⟨g1, 0, none⟩) m c1, .slice (some ⟨g2, 0, none⟩) n c2, .bool false])) w2 := by
  subst hr
  exact ⟨_, _, _, _, _, _, rfl, ⟨hA, VRow.later R1 (Nat.le_refl _) K2⟩, ⟨hB, own_mono R2 K1.size⟩, below_on K1 K2⟩
theorem itd_yes {w w2 : World} {X Y : List Vst} {r : List Vst × List Vst × Bool} {p q c1 c2 : Nat} {a1 a2 : Option Addr} (hr : r = (X, Y, true)) (hX : X.length = p) (hY : Y.length = q) (R1 : VRow w2 w.heap.size (.slice a1 p c1) X) (R2 : VRow w2 w.heap.size (.slice a2 q c2) Y) (K : Below w.heap.size w w2) : ItD w r (.returned (.tuple #[.slice a1 p c1, .slice a2 q c2, .bool true])) w2 := by
  subst hr
  exact ⟨_, _, _, _, _, _, rfl, ⟨hX, R1⟩, ⟨hY, R2⟩, K⟩
theorem turned_in {w : World} {va : Option Addr} {m vc : Nat} {V P : List Vst} (h : SlI w va m vc V) (hP : V.reverse = P) (hm2 : m ≤ 900) : ∀ W, Below w.heap.size w W → Calls Try.prog 38 #[.slice va m vc] W fun e w' => ∃ a c, e = .returned (.slice a m c) ∧ SlI w' a m c P ∧ Below W.heap.size W w' := fun W hf => by
  subst hP
  refine (turned_any (PrV.on h.vs hf) h.len hm2).mono ?_
  rintro e w' ⟨a, c, rfl, r, k⟩
  exact ⟨a, c, rfl, SlI.row r (by rw [List.length_reverse]; exact h.len) (by omega), k⟩
set_option maxRecDepth 100000 in
set_option maxHeartbeats 12800000 in
theorem inter_trade1 {w : World} {va vb : Option Addr} {m vc n vd : Nat} {A B : List Vst} (hA : SlI w va m vc A) (hB : SlI w vb n vd B) (hm : m ≤ 400) (hn : n ≤ 400) (i j k : Int) : Calls Try.prog 24 #[.slice va m vc, .slice vb n vd, .int .i64 1, .int .i64 i, .int .i64 j, .int .i64 k] w (ItD w (trdM A B i j 1)) := by
  have HA := hide hA
  have HB := hide hB
  have KZ : Hid (Below w.heap.size w w) := Below.refl _ _
  clear hA hB
  rcases (show i < 0 ∨ (m : Int) < i ∨ (0 ≤ i ∧ i < (m : Int)) ∨ i = (m : Int) by omega) with hi | hi | hi | hi
  · have HR : Hid (trdM A B i j 1 = (A, B, false)) := by show _ = _; unfold trdM; rw [HA.out.len, HB.out.len, if_neg (by simp only [witB, Bool.and_eq_true, decide_eq_true_eq]; omega)]
    have fi0 : i < 0 := by omega
    have fi1 : ¬ 0 ≤ i := by omega
    clear hi
    go_enter Try.func24, Try.ntmps24
    go_wp2_with (first | (go_at_call 39; (with_reducible refine (copiedV_any (HB.out.on KX.out).vs HB.out.len (by omega) HB.out.nz).mono ?_); rintro e x2 ⟨y2, d2, rfl, r2, k2⟩; have RY := hide r2.1; have KY := hide k2; clear r2 k2) | (go_at_call 39; (with_reducible refine (copiedV_any HA.out.vs HA.out.len (by omega) HA.out.nz).mono ?_); rintro e x1 ⟨y1, d1, rfl, r1, k1⟩; have RX := hide r1.1; have KX := hide k1; clear r1 k1) | fail)
    go_ret3
    exact itd_no HR.out HA.out.len HB.out.len RX.out KX.out RY.out KY.out
  · have HR : Hid (trdM A B i j 1 = (A, B, false)) := by show _ = _; unfold trdM; rw [HA.out.len, HB.out.len, if_neg (by simp only [witB, Bool.and_eq_true, decide_eq_true_eq]; omega)]
    have fi0 : 0 ≤ i := by omega
    have fi1 : ¬ i < (m : Int) := by omega
    have fi2 : ¬ i ≤ (m : Int) := by omega
    have fi3 : (m : Int) < i := by omega
    have fi4 : (m : Int) ≤ i := by omega
    have fi5 : ¬ i < 0 := by omega
    clear hi
    go_enter Try.func24, Try.ntmps24
    go_wp2_with (first | (go_at_call 39; (with_reducible refine (copiedV_any (HB.out.on KX.out).vs HB.out.len (by omega) HB.out.nz).mono ?_); rintro e x2 ⟨y2, d2, rfl, r2, k2⟩; have RY := hide r2.1; have KY := hide k2; clear r2 k2) | (go_at_call 39; (with_reducible refine (copiedV_any HA.out.vs HA.out.len (by omega) HA.out.nz).mono ?_); rintro e x1 ⟨y1, d1, rfl, r1, k1⟩; have RX := hide r1.1; have KX := hide k1; clear r1 k1) | fail)
    go_ret3
    exact itd_no HR.out HA.out.len HB.out.len RX.out KX.out RY.out KY.out
  · rcases (show j < 0 ∨ (n : Int) < j ∨ (0 ≤ j ∧ j < (n : Int)) ∨ j = (n : Int) by omega) with hj | hj | hj | hj
    · have HR : Hid (trdM A B i j 1 = (A, B, false)) := by show _ = _; unfold trdM; rw [HA.out.len, HB.out.len, if_neg (by simp only [witB, Bool.and_eq_true, decide_eq_true_eq]; omega)]
      have fi0 : 0 ≤ i := by omega
      have fi1 : i < (m : Int) := by omega
      have fi2 : i ≤ (m : Int) := by omega
      have fi3 : ¬ (m : Int) ≤ i := by omega
      have fi4 : ¬ (m : Int) < i := by omega
      have fi5 : ¬ i < 0 := by omega
      have fj0 : j < 0 := by omega
      have fj1 : ¬ 0 ≤ j := by omega
      clear hi hj
      go_enter Try.func24, Try.ntmps24
      go_wp2_with (first | (go_at_call 39; (with_reducible refine (copiedV_any (HB.out.on KX.out).vs HB.out.len (by omega) HB.out.nz).mono ?_); rintro e x2 ⟨y2, d2, rfl, r2, k2⟩; have RY := hide r2.1; have KY := hide k2; clear r2 k2) | (go_at_call 39; (with_reducible refine (copiedV_any HA.out.vs HA.out.len (by omega) HA.out.nz).mono ?_); rintro e x1 ⟨y1, d1, rfl, r1, k1⟩; have RX := hide r1.1; have KX := hide k1; clear r1 k1) | fail)
      go_ret3
      exact itd_no HR.out HA.out.len HB.out.len RX.out KX.out RY.out KY.out
    · have HR : Hid (trdM A B i j 1 = (A, B, false)) := by show _ = _; unfold trdM; rw [HA.out.len, HB.out.len, if_neg (by simp only [witB, Bool.and_eq_true, decide_eq_true_eq]; omega)]
      have fi0 : 0 ≤ i := by omega
      have fi1 : i < (m : Int) := by omega
      have fi2 : i ≤ (m : Int) := by omega
      have fi3 : ¬ (m : Int) ≤ i := by omega
      have fi4 : ¬ (m : Int) < i := by omega
      have fi5 : ¬ i < 0 := by omega
      have fj0 : 0 ≤ j := by omega
      have fj1 : ¬ j < (n : Int) := by omega
      have fj2 : ¬ j ≤ (n : Int) := by omega
      have fj3 : (n : Int) < j := by omega
      have fj4 : (n : Int) ≤ j := by omega
      have fj5 : ¬ j < 0 := by omega
      clear hi hj
      go_enter Try.func24, Try.ntmps24
      go_wp2_with (first | (go_at_call 39; (with_reducible refine (copiedV_any (HB.out.on KX.out).vs HB.out.len (by omega) HB.out.nz).mono ?_); rintro e x2 ⟨y2, d2, rfl, r2, k2⟩; have RY := hide r2.1; have KY := hide k2; clear r2 k2) | (go_at_call 39; (with_reducible refine (copiedV_any HA.out.vs HA.out.len (by omega) HA.out.nz).mono ?_); rintro e x1 ⟨y1, d1, rfl, r1, k1⟩; have RX := hide r1.1; have KX := hide k1; clear r1 k1) | fail)
      go_ret3
      exact itd_no HR.out HA.out.len HB.out.len RX.out KX.out RY.out KY.out
    · have fi0 : 0 ≤ i := by omega
      have fi1 : i < (m : Int) := by omega
      have fi2 : i ≤ (m : Int) := by omega
      have fi3 : ¬ (m : Int) ≤ i := by omega
      have fi4 : ¬ (m : Int) < i := by omega
      have fi5 : ¬ i < 0 := by omega
      have fj0 : 0 ≤ j := by omega
      have fj1 : j < (n : Int) := by omega
      have fj2 : j ≤ (n : Int) := by omega
      have fj3 : ¬ (n : Int) ≤ j := by omega
      have fj4 : ¬ (n : Int) < j := by omega
      have fj5 : ¬ j < 0 := by omega
      obtain ⟨a, ha⟩ : ∃ a : Nat, i = a := ⟨i.toNat, by omega⟩
      obtain ⟨b, hb⟩ : ∃ b : Nat, j = b := ⟨j.toNat, by omega⟩
      obtain ⟨r, hr⟩ : ∃ r : Nat, a + 1 + r = m := ⟨m - (a + 1), by omega⟩
      obtain ⟨s, hs⟩ : ∃ s : Nat, b + 1 + s = n := ⟨n - (b + 1), by omega⟩
      have u1 : IntKind.i64.wrap (i + 1) = i + 1 := by rw [IntKind.wrap_i64]; omega
      have u2 : IntKind.i64.wrap (j + 1) = j + 1 := by rw [IntKind.wrap_i64]; omega
      have v1 : i + 1 ≤ (m : Int) := by omega
      have v2 : j + 1 ≤ (n : Int) := by omega
      have HP1 := hide (part_in 0 a (P := A.take a) (x := 0) (y := i) HA.out part_low rfl (by omega) (by omega) (by omega))
      have HP2 := hide (part_in b 1 (P := (B.drop b).take 1) (x := j) (y := j + 1) HB.out rfl (by omega) (by omega) (by omega) (by omega))
      have HP3 := hide (part_in (a + 1) r (P := A.drop (a + 1)) (x := i + 1) (y := (m : Int)) HA.out (part_high (by rw [HA.out.len]; exact hr)) (by omega) (by omega) (by omega) (by omega))
      have HP4 := hide (part_in 0 b (P := B.take b) (x := 0) (y := j) HB.out part_low rfl (by omega) (by omega) (by omega))
      have HP5 := hide (part_in a 1 (P := (A.drop a).take 1) (x := i) (y := i + 1) HA.out rfl (by omega) (by omega) (by omega) (by omega))
      have HP6 := hide (part_in (b + 1) s (P := B.drop (b + 1)) (x := j + 1) (y := (n : Int)) HB.out (part_high (by rw [HB.out.len]; exact hs)) (by omega) (by omega) (by omega) (by omega))
      obtain ⟨L1, hL1⟩ : ∃ L, A.take a ++ ((B.drop b).take 1 ++ A.drop (a + 1)) = L := ⟨_, rfl⟩
      obtain ⟨L2, hL2⟩ : ∃ L, B.take b ++ ((A.drop a).take 1 ++ B.drop (b + 1)) = L := ⟨_, rfl⟩
      have HL1 := hide hL1
      have HL2 := hide hL2
      have HN1 : Hid (a + 1 + r = m) := hr
      have HN2 : Hid (b + 1 + s = n) := hs
      have HR : Hid (trdM A B i j 1 = (L1, L2, true)) := by
        show _ = _
        unfold trdM
        rw [HA.out.len, HB.out.len, if_pos (by simp only [witB, Bool.and_eq_true, decide_eq_true_eq]; omega), ha, hb, ← hL1, ← hL2]
        rfl
      have HE1 : Hid (L1.length = m) := by show _ = _; rw [← hL1]; simp only [List.length_append, List.length_take, List.length_drop, HA.out.len, HB.out.len]; omega
      have HE2 : Hid (L2.length = n) := by show _ = _; rw [← hL2]; simp only [List.length_append, List.length_take, List.length_drop, HA.out.len, HB.out.len]; omega
      clear hL1 hL2 hr hs ha hb hi hj
      go_enter Try.func24, Try.ntmps24
      go_wp2_with (first | (go_at_call 36; (with_reducible refine (join_at HN2.out HL2.out (Q5.out.on (below_on B6.out B7.out)) (Q6.out.on B7.out) (Q7.out.on (Below.refl _ _)) (by omega)).mono ?_); rintro e w8 ⟨a8, c8, rfl, r8, k8⟩; have R8 := hide (own_mono r8.1 (K7.out).size); have Q8 := hide r8.2; have B8 := hide k8; have K8 := hide (below_on K7.out k8); clear k8 r8) | (go_at_call 37; (with_reducible refine (HP6.out _ K6.out).mono ?_); rintro e w7 ⟨g7, c7, rfl, q7, k7⟩; have Q7 := hide q7; have B7 := hide k7; have K7 := hide (below_on K6.out k7); clear k7 q7) | (go_at_call 37; (with_reducible refine (HP5.out _ K5.out).mono ?_); rintro e w6 ⟨g6, c6, rfl, q6, k6⟩; have Q6 := hide q6; have B6 := hide k6; have K6 := hide (below_on K5.out k6); clear k6 q6) | (go_at_call 37; (with_reducible refine (HP4.out _ K4.out).mono ?_); rintro e w5 ⟨g5, c5, rfl, q5, k5⟩; have Q5 := hide q5; have B5 := hide k5; have K5 := hide (below_on K4.out k5); clear k5 q5) | (go_at_call 36; (with_reducible refine (join_at HN1.out HL1.out (Q1.out.on (below_on B2.out B3.out)) (Q2.out.on B3.out) (Q3.out.on (Below.refl _ _)) (by omega)).mono ?_); rintro e w4 ⟨a4, c4, rfl, r4, k4⟩; have R4 := hide (own_mono r4.1 (K3.out).size); have Q4 := hide r4.2; have B4 := hide k4; have K4 := hide (below_on K3.out k4); clear k4 r4) | (go_at_call 37; (with_reducible refine (HP3.out _ K2.out).mono ?_); rintro e w3 ⟨g3, c3, rfl, q3, k3⟩; have Q3 := hide q3; have B3 := hide k3; have K3 := hide (below_on K2.out k3); clear k3 q3) | (go_at_call 37; (with_reducible refine (HP2.out _ K1.out).mono ?_); rintro e w2 ⟨g2, c2, rfl, q2, k2⟩; have Q2 := hide q2; have B2 := hide k2; have K2 := hide (below_on K1.out k2); clear k2 q2) | (go_at_call 37; (with_reducible refine (HP1.out _ KZ.out).mono ?_); rintro e w1 ⟨g1, c1, rfl, q1, k1⟩; have Q1 := hide q1; have B1 := hide k1; have K1 := hide (below_on KZ.out k1); clear k1 q1) | fail)
      go_ret3
      exact itd_yes HR.out HE1.out HE2.out (VRow.later R4.out (Nat.le_refl _) (below_on (below_on (below_on B5.out B6.out) B7.out) B8.out)) (VRow.later R8.out (Nat.le_refl _) (Below.refl _ _)) K8.out
    · have HR : Hid (trdM A B i j 1 = (A, B, false)) := by show _ = _; unfold trdM; rw [HA.out.len, HB.out.len, if_neg (by simp only [witB, Bool.and_eq_true, decide_eq_true_eq]; omega)]
      have fi0 : 0 ≤ i := by omega
      have fi1 : i < (m : Int) := by omega
      have fi2 : i ≤ (m : Int) := by omega
      have fi3 : ¬ (m : Int) ≤ i := by omega
      have fi4 : ¬ (m : Int) < i := by omega
      have fi5 : ¬ i < 0 := by omega
      have fj0 : 0 ≤ j := by omega
      have fj1 : ¬ j < (n : Int) := by omega
      have fj2 : j ≤ (n : Int) := by omega
      have fj3 : (n : Int) ≤ j := by omega
      have fj4 : ¬ j < 0 := by omega
      clear hi hj
      go_enter Try.func24, Try.ntmps24
      go_wp2_with (first | (go_at_call 39; (with_reducible refine (copiedV_any (HB.out.on KX.out).vs HB.out.len (by omega) HB.out.nz).mono ?_); rintro e x2 ⟨y2, d2, rfl, r2, k2⟩; have RY := hide r2.1; have KY := hide k2; clear r2 k2) | (go_at_call 39; (with_reducible refine (copiedV_any HA.out.vs HA.out.len (by omega) HA.out.nz).mono ?_); rintro e x1 ⟨y1, d1, rfl, r1, k1⟩; have RX := hide r1.1; have KX := hide k1; clear r1 k1) | fail)
      go_ret3
      exact itd_no HR.out HA.out.len HB.out.len RX.out KX.out RY.out KY.out
  · rcases (show j < 0 ∨ (n : Int) < j ∨ (0 ≤ j ∧ j < (n : Int)) ∨ j = (n : Int) by omega) with hj | hj | hj | hj
    · have HR : Hid (trdM A B i j 1 = (A, B, false)) := by show _ = _; unfold trdM; rw [HA.out.len, HB.out.len, if_neg (by simp only [witB, Bool.and_eq_true, decide_eq_true_eq]; omega)]
      have fi0 : 0 ≤ i := by omega
      have fi1 : ¬ i < (m : Int) := by omega
      have fi2 : i ≤ (m : Int) := by omega
      have fi3 : (m : Int) ≤ i := by omega
      have fi4 : ¬ i < 0 := by omega
      have fj0 : j < 0 := by omega
      have fj1 : ¬ 0 ≤ j := by omega
      clear hi hj
      go_enter Try.func24, Try.ntmps24
      go_wp2_with (first | (go_at_call 39; (with_reducible refine (copiedV_any (HB.out.on KX.out).vs HB.out.len (by omega) HB.out.nz).mono ?_); rintro e x2 ⟨y2, d2, rfl, r2, k2⟩; have RY := hide r2.1; have KY := hide k2; clear r2 k2) | (go_at_call 39; (with_reducible refine (copiedV_any HA.out.vs HA.out.len (by omega) HA.out.nz).mono ?_); rintro e x1 ⟨y1, d1, rfl, r1, k1⟩; have RX := hide r1.1; have KX := hide k1; clear r1 k1) | fail)
      go_ret3
      exact itd_no HR.out HA.out.len HB.out.len RX.out KX.out RY.out KY.out
    · have HR : Hid (trdM A B i j 1 = (A, B, false)) := by show _ = _; unfold trdM; rw [HA.out.len, HB.out.len, if_neg (by simp only [witB, Bool.and_eq_true, decide_eq_true_eq]; omega)]
      have fi0 : 0 ≤ i := by omega
      have fi1 : ¬ i < (m : Int) := by omega
      have fi2 : i ≤ (m : Int) := by omega
      have fi3 : (m : Int) ≤ i := by omega
      have fi4 : ¬ i < 0 := by omega
      have fj0 : 0 ≤ j := by omega
      have fj1 : ¬ j < (n : Int) := by omega
      have fj2 : ¬ j ≤ (n : Int) := by omega
      have fj3 : (n : Int) < j := by omega
      have fj4 : (n : Int) ≤ j := by omega
      have fj5 : ¬ j < 0 := by omega
      clear hi hj
      go_enter Try.func24, Try.ntmps24
      go_wp2_with (first | (go_at_call 39; (with_reducible refine (copiedV_any (HB.out.on KX.out).vs HB.out.len (by omega) HB.out.nz).mono ?_); rintro e x2 ⟨y2, d2, rfl, r2, k2⟩; have RY := hide r2.1; have KY := hide k2; clear r2 k2) | (go_at_call 39; (with_reducible refine (copiedV_any HA.out.vs HA.out.len (by omega) HA.out.nz).mono ?_); rintro e x1 ⟨y1, d1, rfl, r1, k1⟩; have RX := hide r1.1; have KX := hide k1; clear r1 k1) | fail)
      go_ret3
      exact itd_no HR.out HA.out.len HB.out.len RX.out KX.out RY.out KY.out
    · have HR : Hid (trdM A B i j 1 = (A, B, false)) := by show _ = _; unfold trdM; rw [HA.out.len, HB.out.len, if_neg (by simp only [witB, Bool.and_eq_true, decide_eq_true_eq]; omega)]
      have fi0 : 0 ≤ i := by omega
      have fi1 : ¬ i < (m : Int) := by omega
      have fi2 : i ≤ (m : Int) := by omega
      have fi3 : (m : Int) ≤ i := by omega
      have fi4 : ¬ i < 0 := by omega
      have fj0 : 0 ≤ j := by omega
      have fj1 : j < (n : Int) := by omega
      have fj2 : j ≤ (n : Int) := by omega
      have fj3 : ¬ (n : Int) ≤ j := by omega
      have fj4 : ¬ (n : Int) < j := by omega
      have fj5 : ¬ j < 0 := by omega
      clear hi hj
      go_enter Try.func24, Try.ntmps24
      go_wp2_with (first | (go_at_call 39; (with_reducible refine (copiedV_any (HB.out.on KX.out).vs HB.out.len (by omega) HB.out.nz).mono ?_); rintro e x2 ⟨y2, d2, rfl, r2, k2⟩; have RY := hide r2.1; have KY := hide k2; clear r2 k2) | (go_at_call 39; (with_reducible refine (copiedV_any HA.out.vs HA.out.len (by omega) HA.out.nz).mono ?_); rintro e x1 ⟨y1, d1, rfl, r1, k1⟩; have RX := hide r1.1; have KX := hide k1; clear r1 k1) | fail)
      go_ret3
      exact itd_no HR.out HA.out.len HB.out.len RX.out KX.out RY.out KY.out
    · have HR : Hid (trdM A B i j 1 = (A, B, false)) := by show _ = _; unfold trdM; rw [HA.out.len, HB.out.len, if_neg (by simp only [witB, Bool.and_eq_true, decide_eq_true_eq]; omega)]
      have fi0 : 0 ≤ i := by omega
      have fi1 : ¬ i < (m : Int) := by omega
      have fi2 : i ≤ (m : Int) := by omega
      have fi3 : (m : Int) ≤ i := by omega
      have fi4 : ¬ i < 0 := by omega
      have fj0 : 0 ≤ j := by omega
      have fj1 : ¬ j < (n : Int) := by omega
      have fj2 : j ≤ (n : Int) := by omega
      have fj3 : (n : Int) ≤ j := by omega
      have fj4 : ¬ j < 0 := by omega
      clear hi hj
      go_enter Try.func24, Try.ntmps24
      go_wp2_with (first | (go_at_call 39; (with_reducible refine (copiedV_any (HB.out.on KX.out).vs HB.out.len (by omega) HB.out.nz).mono ?_); rintro e x2 ⟨y2, d2, rfl, r2, k2⟩; have RY := hide r2.1; have KY := hide k2; clear r2 k2) | (go_at_call 39; (with_reducible refine (copiedV_any HA.out.vs HA.out.len (by omega) HA.out.nz).mono ?_); rintro e x1 ⟨y1, d1, rfl, r1, k1⟩; have RX := hide r1.1; have KX := hide k1; clear r1 k1) | fail)
      go_ret3
      exact itd_no HR.out HA.out.len HB.out.len RX.out KX.out RY.out KY.out
set_option maxRecDepth 100000 in
set_option maxHeartbeats 12800000 in
theorem inter_trade2 {w : World} {va vb : Option Addr} {m vc n vd : Nat} {A B : List Vst} (hA : SlI w va m vc A) (hB : SlI w vb n vd B) (hm : m ≤ 400) (hn : n ≤ 400) (i j k : Int) : Calls Try.prog 24 #[.slice va m vc, .slice vb n vd, .int .i64 2, .int .i64 i, .int .i64 j, .int .i64 k] w (ItD w (trdM A B i j 2)) := by
  have HA := hide hA
  have HB := hide hB
  have KZ : Hid (Below w.heap.size w w) := Below.refl _ _
  clear hA hB
  rcases (show i < 0 ∨ (m : Int) < i ∨ (0 ≤ i ∧ i < (m : Int)) ∨ i = (m : Int) by omega) with hi | hi | hi | hi
  · have HR : Hid (trdM A B i j 2 = (A, B, false)) := by show _ = _; unfold trdM; rw [HA.out.len, HB.out.len, if_neg (by simp only [witB, Bool.and_eq_true, decide_eq_true_eq]; omega)]
    have fi0 : i < 0 := by omega
    have fi1 : ¬ 0 ≤ i := by omega
    clear hi
    go_enter Try.func24, Try.ntmps24
    go_wp2_with (first | (go_at_call 39; (with_reducible refine (copiedV_any (HB.out.on KX.out).vs HB.out.len (by omega) HB.out.nz).mono ?_); rintro e x2 ⟨y2, d2, rfl, r2, k2⟩; have RY := hide r2.1; have KY := hide k2; clear r2 k2) | (go_at_call 39; (with_reducible refine (copiedV_any HA.out.vs HA.out.len (by omega) HA.out.nz).mono ?_); rintro e x1 ⟨y1, d1, rfl, r1, k1⟩; have RX := hide r1.1; have KX := hide k1; clear r1 k1) | fail)
    go_ret3
    exact itd_no HR.out HA.out.len HB.out.len RX.out KX.out RY.out KY.out
  · have HR : Hid (trdM A B i j 2 = (A, B, false)) := by show _ = _; unfold trdM; rw [HA.out.len, HB.out.len, if_neg (by simp only [witB, Bool.and_eq_true, decide_eq_true_eq]; omega)]
    have fi0 : 0 ≤ i := by omega
    have fi1 : ¬ i < (m : Int) := by omega
    have fi2 : ¬ i ≤ (m : Int) := by omega
    have fi3 : (m : Int) < i := by omega
    have fi4 : (m : Int) ≤ i := by omega
    have fi5 : ¬ i < 0 := by omega
    clear hi
    go_enter Try.func24, Try.ntmps24
    go_wp2_with (first | (go_at_call 39; (with_reducible refine (copiedV_any (HB.out.on KX.out).vs HB.out.len (by omega) HB.out.nz).mono ?_); rintro e x2 ⟨y2, d2, rfl, r2, k2⟩; have RY := hide r2.1; have KY := hide k2; clear r2 k2) | (go_at_call 39; (with_reducible refine (copiedV_any HA.out.vs HA.out.len (by omega) HA.out.nz).mono ?_); rintro e x1 ⟨y1, d1, rfl, r1, k1⟩; have RX := hide r1.1; have KX := hide k1; clear r1 k1) | fail)
    go_ret3
    exact itd_no HR.out HA.out.len HB.out.len RX.out KX.out RY.out KY.out
  · rcases (show j < 0 ∨ (n : Int) < j ∨ (0 ≤ j ∧ j < (n : Int)) ∨ j = (n : Int) by omega) with hj | hj | hj | hj
    · have HR : Hid (trdM A B i j 2 = (A, B, false)) := by show _ = _; unfold trdM; rw [HA.out.len, HB.out.len, if_neg (by simp only [witB, Bool.and_eq_true, decide_eq_true_eq]; omega)]
      have fi0 : 0 ≤ i := by omega
      have fi1 : i < (m : Int) := by omega
      have fi2 : i ≤ (m : Int) := by omega
      have fi3 : ¬ (m : Int) ≤ i := by omega
      have fi4 : ¬ (m : Int) < i := by omega
      have fi5 : ¬ i < 0 := by omega
      have fj0 : j < 0 := by omega
      have fj1 : ¬ 0 ≤ j := by omega
      clear hi hj
      go_enter Try.func24, Try.ntmps24
      go_wp2_with (first | (go_at_call 39; (with_reducible refine (copiedV_any (HB.out.on KX.out).vs HB.out.len (by omega) HB.out.nz).mono ?_); rintro e x2 ⟨y2, d2, rfl, r2, k2⟩; have RY := hide r2.1; have KY := hide k2; clear r2 k2) | (go_at_call 39; (with_reducible refine (copiedV_any HA.out.vs HA.out.len (by omega) HA.out.nz).mono ?_); rintro e x1 ⟨y1, d1, rfl, r1, k1⟩; have RX := hide r1.1; have KX := hide k1; clear r1 k1) | fail)
      go_ret3
      exact itd_no HR.out HA.out.len HB.out.len RX.out KX.out RY.out KY.out
    · have HR : Hid (trdM A B i j 2 = (A, B, false)) := by show _ = _; unfold trdM; rw [HA.out.len, HB.out.len, if_neg (by simp only [witB, Bool.and_eq_true, decide_eq_true_eq]; omega)]
      have fi0 : 0 ≤ i := by omega
      have fi1 : i < (m : Int) := by omega
      have fi2 : i ≤ (m : Int) := by omega
      have fi3 : ¬ (m : Int) ≤ i := by omega
      have fi4 : ¬ (m : Int) < i := by omega
      have fi5 : ¬ i < 0 := by omega
      have fj0 : 0 ≤ j := by omega
      have fj1 : ¬ j < (n : Int) := by omega
      have fj2 : ¬ j ≤ (n : Int) := by omega
      have fj3 : (n : Int) < j := by omega
      have fj4 : (n : Int) ≤ j := by omega
      have fj5 : ¬ j < 0 := by omega
      clear hi hj
      go_enter Try.func24, Try.ntmps24
      go_wp2_with (first | (go_at_call 39; (with_reducible refine (copiedV_any (HB.out.on KX.out).vs HB.out.len (by omega) HB.out.nz).mono ?_); rintro e x2 ⟨y2, d2, rfl, r2, k2⟩; have RY := hide r2.1; have KY := hide k2; clear r2 k2) | (go_at_call 39; (with_reducible refine (copiedV_any HA.out.vs HA.out.len (by omega) HA.out.nz).mono ?_); rintro e x1 ⟨y1, d1, rfl, r1, k1⟩; have RX := hide r1.1; have KX := hide k1; clear r1 k1) | fail)
      go_ret3
      exact itd_no HR.out HA.out.len HB.out.len RX.out KX.out RY.out KY.out
    · have u1 : IntKind.i64.wrap (i + 2) = i + 2 := by rw [IntKind.wrap_i64]; omega
      have u2 : IntKind.i64.wrap (j + 2) = j + 2 := by rw [IntKind.wrap_i64]; omega
      by_cases hx : i + 2 ≤ (m : Int)
      · by_cases hy : j + 2 ≤ (n : Int)
        · have fi0 : 0 ≤ i := by omega
          have fi1 : i < (m : Int) := by omega
          have fi2 : i ≤ (m : Int) := by omega
          have fi3 : ¬ (m : Int) ≤ i := by omega
          have fi4 : ¬ (m : Int) < i := by omega
          have fi5 : ¬ i < 0 := by omega
          have fj0 : 0 ≤ j := by omega
          have fj1 : j < (n : Int) := by omega
          have fj2 : j ≤ (n : Int) := by omega
          have fj3 : ¬ (n : Int) ≤ j := by omega
          have fj4 : ¬ (n : Int) < j := by omega
          have fj5 : ¬ j < 0 := by omega
          obtain ⟨a, ha⟩ : ∃ a : Nat, i = a := ⟨i.toNat, by omega⟩
          obtain ⟨b, hb⟩ : ∃ b : Nat, j = b := ⟨j.toNat, by omega⟩
          obtain ⟨r, hr⟩ : ∃ r : Nat, a + 2 + r = m := ⟨m - (a + 2), by omega⟩
          obtain ⟨s, hs⟩ : ∃ s : Nat, b + 2 + s = n := ⟨n - (b + 2), by omega⟩
          have u1 : IntKind.i64.wrap (i + 2) = i + 2 := by rw [IntKind.wrap_i64]; omega
          have u2 : IntKind.i64.wrap (j + 2) = j + 2 := by rw [IntKind.wrap_i64]; omega
          have v1 : i + 2 ≤ (m : Int) := by omega
          have v2 : j + 2 ≤ (n : Int) := by omega
          have HP1 := hide (part_in 0 a (P := A.take a) (x := 0) (y := i) HA.out part_low rfl (by omega) (by omega) (by omega))
          have HP2 := hide (part_in b 2 (P := (B.drop b).take 2) (x := j) (y := j + 2) HB.out rfl (by omega) (by omega) (by omega) (by omega))
          have HP3 := hide (part_in (a + 2) r (P := A.drop (a + 2)) (x := i + 2) (y := (m : Int)) HA.out (part_high (by rw [HA.out.len]; exact hr)) (by omega) (by omega) (by omega) (by omega))
          have HP4 := hide (part_in 0 b (P := B.take b) (x := 0) (y := j) HB.out part_low rfl (by omega) (by omega) (by omega))
          have HP5 := hide (part_in a 2 (P := (A.drop a).take 2) (x := i) (y := i + 2) HA.out rfl (by omega) (by omega) (by omega) (by omega))
          have HP6 := hide (part_in (b + 2) s (P := B.drop (b + 2)) (x := j + 2) (y := (n : Int)) HB.out (part_high (by rw [HB.out.len]; exact hs)) (by omega) (by omega) (by omega) (by omega))
          obtain ⟨L1, hL1⟩ : ∃ L, A.take a ++ ((B.drop b).take 2 ++ A.drop (a + 2)) = L := ⟨_, rfl⟩
          obtain ⟨L2, hL2⟩ : ∃ L, B.take b ++ ((A.drop a).take 2 ++ B.drop (b + 2)) = L := ⟨_, rfl⟩
          have HL1 := hide hL1
          have HL2 := hide hL2
          have HN1 : Hid (a + 2 + r = m) := hr
          have HN2 : Hid (b + 2 + s = n) := hs
          have HR : Hid (trdM A B i j 2 = (L1, L2, true)) := by
            show _ = _
            unfold trdM
            rw [HA.out.len, HB.out.len, if_pos (by simp only [witB, Bool.and_eq_true, decide_eq_true_eq]; omega), ha, hb, ← hL1, ← hL2]
            rfl
          have HE1 : Hid (L1.length = m) := by show _ = _; rw [← hL1]; simp only [List.length_append, List.length_take, List.length_drop, HA.out.len, HB.out.len]; omega
          have HE2 : Hid (L2.length = n) := by show _ = _; rw [← hL2]; simp only [List.length_append, List.length_take, List.length_drop, HA.out.len, HB.out.len]; omega
          clear hL1 hL2 hr hs ha hb hi hj
          go_enter Try.func24, Try.ntmps24
          go_wp2_with (first | (go_at_call 36; (with_reducible refine (join_at HN2.out HL2.out (Q5.out.on (below_on B6.out B7.out)) (Q6.out.on B7.out) (Q7.out.on (Below.refl _ _)) (by omega)).mono ?_); rintro e w8 ⟨a8, c8, rfl, r8, k8⟩; have R8 := hide (own_mono r8.1 (K7.out).size); have Q8 := hide r8.2; have B8 := hide k8; have K8 := hide (below_on K7.out k8); clear k8 r8) | (go_at_call 37; (with_reducible refine (HP6.out _ K6.out).mono ?_); rintro e w7 ⟨g7, c7, rfl, q7, k7⟩; have Q7 := hide q7; have B7 := hide k7; have K7 := hide (below_on K6.out k7); clear k7 q7) | (go_at_call 37; (with_reducible refine (HP5.out _ K5.out).mono ?_); rintro e w6 ⟨g6, c6, rfl, q6, k6⟩; have Q6 := hide q6; have B6 := hide k6; have K6 := hide (below_on K5.out k6); clear k6 q6) | (go_at_call 37; (with_reducible refine (HP4.out _ K4.out).mono ?_); rintro e w5 ⟨g5, c5, rfl, q5, k5⟩; have Q5 := hide q5; have B5 := hide k5; have K5 := hide (below_on K4.out k5); clear k5 q5) | (go_at_call 36; (with_reducible refine (join_at HN1.out HL1.out (Q1.out.on (below_on B2.out B3.out)) (Q2.out.on B3.out) (Q3.out.on (Below.refl _ _)) (by omega)).mono ?_); rintro e w4 ⟨a4, c4, rfl, r4, k4⟩; have R4 := hide (own_mono r4.1 (K3.out).size); have Q4 := hide r4.2; have B4 := hide k4; have K4 := hide (below_on K3.out k4); clear k4 r4) | (go_at_call 37; (with_reducible refine (HP3.out _ K2.out).mono ?_); rintro e w3 ⟨g3, c3, rfl, q3, k3⟩; have Q3 := hide q3; have B3 := hide k3; have K3 := hide (below_on K2.out k3); clear k3 q3) | (go_at_call 37; (with_reducible refine (HP2.out _ K1.out).mono ?_); rintro e w2 ⟨g2, c2, rfl, q2, k2⟩; have Q2 := hide q2; have B2 := hide k2; have K2 := hide (below_on K1.out k2); clear k2 q2) | (go_at_call 37; (with_reducible refine (HP1.out _ KZ.out).mono ?_); rintro e w1 ⟨g1, c1, rfl, q1, k1⟩; have Q1 := hide q1; have B1 := hide k1; have K1 := hide (below_on KZ.out k1); clear k1 q1) | fail)
          go_ret3
          exact itd_yes HR.out HE1.out HE2.out (VRow.later R4.out (Nat.le_refl _) (below_on (below_on (below_on B5.out B6.out) B7.out) B8.out)) (VRow.later R8.out (Nat.le_refl _) (Below.refl _ _)) K8.out
        · have HR : Hid (trdM A B i j 2 = (A, B, false)) := by show _ = _; unfold trdM; rw [HA.out.len, HB.out.len, if_neg (by simp only [witB, Bool.and_eq_true, decide_eq_true_eq]; omega)]
          have fi0 : 0 ≤ i := by omega
          have fi1 : i < (m : Int) := by omega
          have fi2 : i ≤ (m : Int) := by omega
          have fi3 : ¬ (m : Int) ≤ i := by omega
          have fi4 : ¬ (m : Int) < i := by omega
          have fi5 : ¬ i < 0 := by omega
          have fj0 : 0 ≤ j := by omega
          have fj1 : j < (n : Int) := by omega
          have fj2 : j ≤ (n : Int) := by omega
          have fj3 : ¬ (n : Int) ≤ j := by omega
          have fj4 : ¬ (n : Int) < j := by omega
          have fj5 : ¬ j < 0 := by omega
          clear hi hj
          go_enter Try.func24, Try.ntmps24
          go_wp2_with (first | (go_at_call 39; (with_reducible refine (copiedV_any (HB.out.on KX.out).vs HB.out.len (by omega) HB.out.nz).mono ?_); rintro e x2 ⟨y2, d2, rfl, r2, k2⟩; have RY := hide r2.1; have KY := hide k2; clear r2 k2) | (go_at_call 39; (with_reducible refine (copiedV_any HA.out.vs HA.out.len (by omega) HA.out.nz).mono ?_); rintro e x1 ⟨y1, d1, rfl, r1, k1⟩; have RX := hide r1.1; have KX := hide k1; clear r1 k1) | fail)
          go_ret3
          exact itd_no HR.out HA.out.len HB.out.len RX.out KX.out RY.out KY.out
      · have HR : Hid (trdM A B i j 2 = (A, B, false)) := by show _ = _; unfold trdM; rw [HA.out.len, HB.out.len, if_neg (by simp only [witB, Bool.and_eq_true, decide_eq_true_eq]; omega)]
        have fi0 : 0 ≤ i := by omega
        have fi1 : i < (m : Int) := by omega
        have fi2 : i ≤ (m : Int) := by omega
        have fi3 : ¬ (m : Int) ≤ i := by omega
        have fi4 : ¬ (m : Int) < i := by omega
        have fi5 : ¬ i < 0 := by omega
        have fj0 : 0 ≤ j := by omega
        have fj1 : j < (n : Int) := by omega
        have fj2 : j ≤ (n : Int) := by omega
        have fj3 : ¬ (n : Int) ≤ j := by omega
        have fj4 : ¬ (n : Int) < j := by omega
        have fj5 : ¬ j < 0 := by omega
        clear hi hj
        go_enter Try.func24, Try.ntmps24
        go_wp2_with (first | (go_at_call 39; (with_reducible refine (copiedV_any (HB.out.on KX.out).vs HB.out.len (by omega) HB.out.nz).mono ?_); rintro e x2 ⟨y2, d2, rfl, r2, k2⟩; have RY := hide r2.1; have KY := hide k2; clear r2 k2) | (go_at_call 39; (with_reducible refine (copiedV_any HA.out.vs HA.out.len (by omega) HA.out.nz).mono ?_); rintro e x1 ⟨y1, d1, rfl, r1, k1⟩; have RX := hide r1.1; have KX := hide k1; clear r1 k1) | fail)
        go_ret3
        exact itd_no HR.out HA.out.len HB.out.len RX.out KX.out RY.out KY.out
    · have HR : Hid (trdM A B i j 2 = (A, B, false)) := by show _ = _; unfold trdM; rw [HA.out.len, HB.out.len, if_neg (by simp only [witB, Bool.and_eq_true, decide_eq_true_eq]; omega)]
      have fi0 : 0 ≤ i := by omega
      have fi1 : i < (m : Int) := by omega
      have fi2 : i ≤ (m : Int) := by omega
      have fi3 : ¬ (m : Int) ≤ i := by omega
      have fi4 : ¬ (m : Int) < i := by omega
      have fi5 : ¬ i < 0 := by omega
      have fj0 : 0 ≤ j := by omega
      have fj1 : ¬ j < (n : Int) := by omega
      have fj2 : j ≤ (n : Int) := by omega
      have fj3 : (n : Int) ≤ j := by omega
      have fj4 : ¬ j < 0 := by omega
      clear hi hj
      go_enter Try.func24, Try.ntmps24
      go_wp2_with (first | (go_at_call 39; (with_reducible refine (copiedV_any (HB.out.on KX.out).vs HB.out.len (by omega) HB.out.nz).mono ?_); rintro e x2 ⟨y2, d2, rfl, r2, k2⟩; have RY := hide r2.1; have KY := hide k2; clear r2 k2) | (go_at_call 39; (with_reducible refine (copiedV_any HA.out.vs HA.out.len (by omega) HA.out.nz).mono ?_); rintro e x1 ⟨y1, d1, rfl, r1, k1⟩; have RX := hide r1.1; have KX := hide k1; clear r1 k1) | fail)
      go_ret3
      exact itd_no HR.out HA.out.len HB.out.len RX.out KX.out RY.out KY.out
  · rcases (show j < 0 ∨ (n : Int) < j ∨ (0 ≤ j ∧ j < (n : Int)) ∨ j = (n : Int) by omega) with hj | hj | hj | hj
    · have HR : Hid (trdM A B i j 2 = (A, B, false)) := by show _ = _; unfold trdM; rw [HA.out.len, HB.out.len, if_neg (by simp only [witB, Bool.and_eq_true, decide_eq_true_eq]; omega)]
      have fi0 : 0 ≤ i := by omega
      have fi1 : ¬ i < (m : Int) := by omega
      have fi2 : i ≤ (m : Int) := by omega
      have fi3 : (m : Int) ≤ i := by omega
      have fi4 : ¬ i < 0 := by omega
      have fj0 : j < 0 := by omega
      have fj1 : ¬ 0 ≤ j := by omega
      clear hi hj
      go_enter Try.func24, Try.ntmps24
      go_wp2_with (first | (go_at_call 39; (with_reducible refine (copiedV_any (HB.out.on KX.out).vs HB.out.len (by omega) HB.out.nz).mono ?_); rintro e x2 ⟨y2, d2, rfl, r2, k2⟩; have RY := hide r2.1; have KY := hide k2; clear r2 k2) | (go_at_call 39; (with_reducible refine (copiedV_any HA.out.vs HA.out.len (by omega) HA.out.nz).mono ?_); rintro e x1 ⟨y1, d1, rfl, r1, k1⟩; have RX := hide r1.1; have KX := hide k1; clear r1 k1) | fail)
      go_ret3
      exact itd_no HR.out HA.out.len HB.out.len RX.out KX.out RY.out KY.out
    · have HR : Hid (trdM A B i j 2 = (A, B, false)) := by show _ = _; unfold trdM; rw [HA.out.len, HB.out.len, if_neg (by simp only [witB, Bool.and_eq_true, decide_eq_true_eq]; omega)]
      have fi0 : 0 ≤ i := by omega
      have fi1 : ¬ i < (m : Int) := by omega
      have fi2 : i ≤ (m : Int) := by omega
      have fi3 : (m : Int) ≤ i := by omega
      have fi4 : ¬ i < 0 := by omega
      have fj0 : 0 ≤ j := by omega
      have fj1 : ¬ j < (n : Int) := by omega
      have fj2 : ¬ j ≤ (n : Int) := by omega
      have fj3 : (n : Int) < j := by omega
      have fj4 : (n : Int) ≤ j := by omega
      have fj5 : ¬ j < 0 := by omega
      clear hi hj
      go_enter Try.func24, Try.ntmps24
      go_wp2_with (first | (go_at_call 39; (with_reducible refine (copiedV_any (HB.out.on KX.out).vs HB.out.len (by omega) HB.out.nz).mono ?_); rintro e x2 ⟨y2, d2, rfl, r2, k2⟩; have RY := hide r2.1; have KY := hide k2; clear r2 k2) | (go_at_call 39; (with_reducible refine (copiedV_any HA.out.vs HA.out.len (by omega) HA.out.nz).mono ?_); rintro e x1 ⟨y1, d1, rfl, r1, k1⟩; have RX := hide r1.1; have KX := hide k1; clear r1 k1) | fail)
      go_ret3
      exact itd_no HR.out HA.out.len HB.out.len RX.out KX.out RY.out KY.out
    · have HR : Hid (trdM A B i j 2 = (A, B, false)) := by show _ = _; unfold trdM; rw [HA.out.len, HB.out.len, if_neg (by simp only [witB, Bool.and_eq_true, decide_eq_true_eq]; omega)]
      have fi0 : 0 ≤ i := by omega
      have fi1 : ¬ i < (m : Int) := by omega
      have fi2 : i ≤ (m : Int) := by omega
      have fi3 : (m : Int) ≤ i := by omega
      have fi4 : ¬ i < 0 := by omega
      have fj0 : 0 ≤ j := by omega
      have fj1 : j < (n : Int) := by omega
      have fj2 : j ≤ (n : Int) := by omega
      have fj3 : ¬ (n : Int) ≤ j := by omega
      have fj4 : ¬ (n : Int) < j := by omega
      have fj5 : ¬ j < 0 := by omega
      clear hi hj
      go_enter Try.func24, Try.ntmps24
      go_wp2_with (first | (go_at_call 39; (with_reducible refine (copiedV_any (HB.out.on KX.out).vs HB.out.len (by omega) HB.out.nz).mono ?_); rintro e x2 ⟨y2, d2, rfl, r2, k2⟩; have RY := hide r2.1; have KY := hide k2; clear r2 k2) | (go_at_call 39; (with_reducible refine (copiedV_any HA.out.vs HA.out.len (by omega) HA.out.nz).mono ?_); rintro e x1 ⟨y1, d1, rfl, r1, k1⟩; have RX := hide r1.1; have KX := hide k1; clear r1 k1) | fail)
      go_ret3
      exact itd_no HR.out HA.out.len HB.out.len RX.out KX.out RY.out KY.out
    · have HR : Hid (trdM A B i j 2 = (A, B, false)) := by show _ = _; unfold trdM; rw [HA.out.len, HB.out.len, if_neg (by simp only [witB, Bool.and_eq_true, decide_eq_true_eq]; omega)]
      have fi0 : 0 ≤ i := by omega
      have fi1 : ¬ i < (m : Int) := by omega
      have fi2 : i ≤ (m : Int) := by omega
      have fi3 : (m : Int) ≤ i := by omega
      have fi4 : ¬ i < 0 := by omega
      have fj0 : 0 ≤ j := by omega
      have fj1 : ¬ j < (n : Int) := by omega
      have fj2 : j ≤ (n : Int) := by omega
      have fj3 : (n : Int) ≤ j := by omega
      have fj4 : ¬ j < 0 := by omega
      clear hi hj
      go_enter Try.func24, Try.ntmps24
      go_wp2_with (first | (go_at_call 39; (with_reducible refine (copiedV_any (HB.out.on KX.out).vs HB.out.len (by omega) HB.out.nz).mono ?_); rintro e x2 ⟨y2, d2, rfl, r2, k2⟩; have RY := hide r2.1; have KY := hide k2; clear r2 k2) | (go_at_call 39; (with_reducible refine (copiedV_any HA.out.vs HA.out.len (by omega) HA.out.nz).mono ?_); rintro e x1 ⟨y1, d1, rfl, r1, k1⟩; have RX := hide r1.1; have KX := hide k1; clear r1 k1) | fail)
      go_ret3
      exact itd_no HR.out HA.out.len HB.out.len RX.out KX.out RY.out KY.out
end Go.Proofs.Ytdnkmjafkpnliaa
