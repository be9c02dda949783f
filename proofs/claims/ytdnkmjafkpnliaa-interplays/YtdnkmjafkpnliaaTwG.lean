/-
  What the calls of a Two's Relocate and Swap do.
-/
import Derived.Test.YtdnkmjafkpnliaaTwF
import Derived.Test.YtdnkmjafkpnliaaTwC
import Derived.Test.YtdnkmjafkpnliaaTwD
import Derived.Deep.RegionHeld3
namespace Go.Proofs.Ytdnkmjafkpnliaa
open Go.RowKit

def relM (A B : List Vst) (i j k : Int) : List Vst × List Vst × Bool := match whF A i with
  | none => (A, B, false)
  | some (s, it) => if fitB s B.length j k = true then (outM s it A, putL s it B j.toNat k.toNat, true) else (A, B, false)
def swpM (A B : List Vst) (i j k : Int) : List Vst × List Vst × Bool := match whF A i with
  | none => (A, B, false)
  | some (s, it) => match whF B j with
    | none => (A, B, false)
    | some (s', it') => if fitB s' (outM s it A).length (min i ((outM s it A).length : Int)) k = true then (putL s' it' (outM s it A) (min i ((outM s it A).length : Int)).toNat k.toNat, outM s' it' B ++ visL s it, true) else (A, B, false)
theorem whole_no {w : World} {va : Option Addr} {m vc : Nat} {V : List Vst} {i : Int} (h : SlI w va m vc V) (hm2 : m ≤ 900) (hw : whF V i = none) : Calls Try.prog 59 #[.slice va m vc, .int .i64 i] w fun e w' => e = .returned (.tuple #[.slice none 0 0, .bool false]) ∧ Below w.heap.size w w' := by
  refine (wholeAt_any h hm2 i).mono ?_
  rintro e w' ⟨h1, h2⟩
  rcases h1 with ⟨_, h1⟩ | ⟨s, it, a, c, h1, _⟩
  · exact ⟨h1, h2⟩
  · rw [hw] at h1; cases h1
theorem whole_yes {w : World} {va : Option Addr} {m vc : Nat} {V : List Vst} {i : Int} {s : Bool} {it : Int} (h : SlI w va m vc V) (hm2 : m ≤ 900) (hw : whF V i = some (s, it)) : Calls Try.prog 59 #[.slice va m vc, .int .i64 i] w fun e w' => ∃ a c, e = .returned (.tuple #[.slice a (visN s) c, .bool true]) ∧ SlI w' a (visN s) c (visL s it) ∧ Below w.heap.size w w' := by
  refine (wholeAt_any h hm2 i).mono ?_
  rintro e w' ⟨h1, h2⟩
  rcases h1 with ⟨h1, _⟩ | ⟨s', it', a, c, h1, h3, h4⟩
  · rw [hw] at h1; cases h1
  · rw [hw] at h1
    injection h1 with h1
    injection h1 with e1 e2
    subst e1 e2
    exact ⟨a, c, h3, h4, h2⟩
theorem whF_in {V : List Vst} {i : Int} {s : Bool} {it : Int} (h : whF V i = some (s, it)) : 0 ≤ i ∧ i ≤ (V.length : Int) - 1 := by
  unfold whF at h
  by_cases hc : witB i ((V.length : Int) - 1) = true
  · exact wit_ok hc
  · rw [if_neg hc] at h; cases h
set_option maxRecDepth 100000 in
set_option maxHeartbeats 12800000 in
theorem trelocate_any {w : World} {tb : Nat} {A B : List Vst} (h : TwoV w tb A B) (hA : A.length ≤ 400) (hB : B.length ≤ 400) (i j k : Int) : Calls Try.prog 43 #[.pointer (some ⟨tb, 0, none⟩), .int .i64 i, .int .i64 j, .int .i64 k] w (ChT w tb (relM A B i j k)) := by
  obtain ⟨n, hn⟩ : ∃ n, A.length = n := ⟨_, rfl⟩
  obtain ⟨m, hm⟩ : ∃ m, B.length = m := ⟨_, rfl⟩
  rw [hn] at hA
  rw [hm] at hB
  obtain ⟨ad, c, ad', c', h1, sA, sB⟩ := h.open hn hm (by omega) (by omega)
  have HL := hide h
  have HBX := hide h1
  have HTB := hide h.lt
  have HA := hide sA
  have HB := hide sB
  clear h h1 sA sB
  cases hw : whF A i with
  | none =>
    have HW := hide hw
    have HR : Hid (relM A B i j k = (A, B, false)) := by show _ = _; unfold relM; rw [hw]
    clear hw hn hm
    go_enter Try.func43, Try.ntmps43
    go_wp2_with (first | (go_at_call 59; (with_reducible refine (whole_no (HA.out.on K1.out) (by omega) HW.out).mono ?_); rintro e w2 ⟨rfl, k2⟩; have K2 := hide (below_on K1.out k2); clear k2 KK; have KK := K2) | (go_at_call 46; refine (tkept_any HBX.out).mono ?_; rintro e w1 ⟨rfl, k1⟩; have K1 := hide k1; have KK := K1; clear k1) | fail)
    go_ret
    exact cht_no HR.out HL.out KK.out
  | some st =>
    obtain ⟨s, it⟩ := st
    have HW := hide hw
    obtain ⟨f, hf⟩ : ∃ f, fitB s m j k = f := ⟨_, rfl⟩
    have HF := hide hf
    cases f with
    | false =>
      have HR : Hid (relM A B i j k = (A, B, false)) := by show _ = _; unfold relM; rw [hw]; simp only [hm, hf]; rfl
      clear hw hf hn hm
      go_enter Try.func43, Try.ntmps43
      go_wp2_with (first | (go_at_call 60; refine (fits_any _ _ _ _ _ _ s (by omega) j k).mono ?_; rintro e w3 ⟨rfl, k3⟩; rw [HF.out]; have B3 := hide k3; have K3 := hide (below_on K2.out k3); clear k3 KK; have KK := K3) | (go_at_call 59; (with_reducible refine (whole_yes (HA.out.on K1.out) (by omega) HW.out).mono ?_); rintro e w2 ⟨a2, c2, rfl, q2, k2⟩; have Q2 := hide q2; have B2 := hide k2; have K2 := hide (below_on K1.out k2); clear q2 k2 KK; have KK := K2) | (go_at_call 46; refine (tkept_any HBX.out).mono ?_; rintro e w1 ⟨rfl, k1⟩; have K1 := hide k1; have KK := K1; clear k1) | fail)
      go_ret
      exact cht_no HR.out HL.out KK.out
    | true =>
      have HR : Hid (relM A B i j k = (outM s it A, putL s it B j.toNat k.toNat, true)) := by show _ = _; unfold relM; rw [hw]; simp only [hm, hf]; rfl
      clear hw hf hn hm
      go_enter Try.func43, Try.ntmps43
      go_wp2_with (first | (go_at_call 62; refine (with_any (HB.out.on K4.out) (by omega) (Q2.out.on (below_on B3.out B4.out)) j k HF.out).mono ?_; rintro e w5 ⟨a5, c5, rfl, r5, k5⟩; have R5 := hide (own_mono r5 K4.out.size); have R6 := hide (VRow.later R4.out (Nat.le_refl _) k5); have K5 := hide (below_on K4.out k5); have HB5 := hide ((K5.out.block tb HTB.out).trans HBX.out); have x0 : w5.cell? ⟨tb, 0, none⟩ = some (.slice ad n c) := cell_of_row _ _ _ _ _ _ HB5.out; have x1 : w5.cell? ⟨tb, 1, none⟩ = some (.slice ad' m c') := cell_of_row _ _ _ _ _ _ HB5.out; have xf : w5.frozen? ⟨tb, 0, none⟩ = false := frz_row HB5.out; have xg : w5.frozen? ⟨tb, 1, none⟩ = false := frz_row HB5.out; clear r5 k5 KK; have KK := K5) | (go_at_call 61; refine (twithout_any (HA.out.on K3.out) (by omega) (Q2.out.on B3.out)).mono ?_; rintro e w4 ⟨a4, q4, c4, rfl, h4, r4, k4⟩; have R4 := hide (own_mono r4 K3.out.size); have B4 := hide k4; have K4 := hide (below_on K3.out k4); clear h4 r4 k4 KK; have KK := K4) | (go_at_call 60; refine (fits_any _ _ _ _ _ _ s (by omega) j k).mono ?_; rintro e w3 ⟨rfl, k3⟩; rw [HF.out]; have B3 := hide k3; have K3 := hide (below_on K2.out k3); clear k3 KK; have KK := K3) | (go_at_call 59; (with_reducible refine (whole_yes (HA.out.on K1.out) (by omega) HW.out).mono ?_); rintro e w2 ⟨a2, c2, rfl, q2, k2⟩; have Q2 := hide q2; have B2 := hide k2; have K2 := hide (below_on K1.out k2); clear q2 k2 KK; have KK := K2) | (go_at_call 46; refine (tkept_any HBX.out).mono ?_; rintro e w1 ⟨rfl, k1⟩; have K1 := hide k1; have KK := K1; clear k1) | fail)
      go_ret
      exact two_yes HB5.out HTB.out K5.out R6.out R5.out HR.out
set_option maxRecDepth 100000 in
set_option maxHeartbeats 12800000 in
theorem tswap_any {w : World} {tb : Nat} {A B : List Vst} (h : TwoV w tb A B) (hA : A.length ≤ 400) (hB : B.length ≤ 400) (i j k : Int) : Calls Try.prog 45 #[.pointer (some ⟨tb, 0, none⟩), .int .i64 i, .int .i64 j, .int .i64 k] w (ChT w tb (swpM A B i j k)) := by
  obtain ⟨n, hn⟩ : ∃ n, A.length = n := ⟨_, rfl⟩
  obtain ⟨m, hm⟩ : ∃ m, B.length = m := ⟨_, rfl⟩
  rw [hn] at hA
  rw [hm] at hB
  obtain ⟨ad, c, ad', c', h1, sA, sB⟩ := h.open hn hm (by omega) (by omega)
  have HL := hide h
  have HBX := hide h1
  have HTB := hide h.lt
  have HA := hide sA
  have HB := hide sB
  clear h h1 sA sB
  cases hw : whF A i with
  | none =>
    have HW := hide hw
    have HR : Hid (swpM A B i j k = (A, B, false)) := by show _ = _; unfold swpM; rw [hw]
    clear hw hn hm
    cases hw2 : whF B j with
    | none =>
      have HW2 := hide hw2
      clear hw2
      go_enter Try.func45, Try.ntmps45
      go_wp2_with (first | (go_at_call 59; (with_reducible refine (whole_no (HB.out.on K2.out) (by omega) HW2.out).mono ?_); rintro e w3 ⟨rfl, k3⟩; have K3 := hide (below_on K2.out k3); clear k3 KK; have KK := K3) | (go_at_call 59; (with_reducible refine (whole_no (HA.out.on K1.out) (by omega) HW.out).mono ?_); rintro e w2 ⟨rfl, k2⟩; have K2 := hide (below_on K1.out k2); clear k2 KK; have KK := K2) | (go_at_call 46; refine (tkept_any HBX.out).mono ?_; rintro e w1 ⟨rfl, k1⟩; have K1 := hide k1; have KK := K1; clear k1) | fail)
      go_ret
      exact cht_no HR.out HL.out KK.out
    | some st =>
      obtain ⟨s', it'⟩ := st
      have HW2 := hide hw2
      clear hw2
      go_enter Try.func45, Try.ntmps45
      go_wp2_with (first | (go_at_call 59; (with_reducible refine (whole_yes (HB.out.on K2.out) (by omega) HW2.out).mono ?_); rintro e w3 ⟨a3, c3, rfl, q3, k3⟩; have Q3 := hide q3; have B3 := hide k3; have K3 := hide (below_on K2.out k3); clear q3 k3 KK; have KK := K3) | (go_at_call 59; (with_reducible refine (whole_no (HA.out.on K1.out) (by omega) HW.out).mono ?_); rintro e w2 ⟨rfl, k2⟩; have K2 := hide (below_on K1.out k2); clear k2 KK; have KK := K2) | (go_at_call 46; refine (tkept_any HBX.out).mono ?_; rintro e w1 ⟨rfl, k1⟩; have K1 := hide k1; have KK := K1; clear k1) | fail)
      go_ret
      exact cht_no HR.out HL.out KK.out
  | some st =>
    obtain ⟨s, it⟩ := st
    have HW := hide hw
    cases hw2 : whF B j with
    | none =>
      have HW2 := hide hw2
      have HR : Hid (swpM A B i j k = (A, B, false)) := by show _ = _; unfold swpM; rw [hw]; simp only [hw2]
      clear hw2 hw hn hm
      go_enter Try.func45, Try.ntmps45
      go_wp2_with (first | (go_at_call 59; (with_reducible refine (whole_no (HB.out.on K2.out) (by omega) HW2.out).mono ?_); rintro e w3 ⟨rfl, k3⟩; have K3 := hide (below_on K2.out k3); clear k3 KK; have KK := K3) | (go_at_call 59; (with_reducible refine (whole_yes (HA.out.on K1.out) (by omega) HW.out).mono ?_); rintro e w2 ⟨a2, c2, rfl, q2, k2⟩; have Q2 := hide q2; have B2 := hide k2; have K2 := hide (below_on K1.out k2); clear q2 k2 KK; have KK := K2) | (go_at_call 46; refine (tkept_any HBX.out).mono ?_; rintro e w1 ⟨rfl, k1⟩; have K1 := hide k1; have KK := K1; clear k1) | fail)
      go_ret
      exact cht_no HR.out HL.out KK.out
    | some st =>
      obtain ⟨s', it'⟩ := st
      have HW2 := hide hw2
      obtain ⟨q, hq⟩ : ∃ q, (outM s it A).length = q := ⟨_, rfl⟩
      have HQ := hide hq
      have hql : q ≤ 400 := by
        have h9 := out_le s it A
        rw [hq, hn] at h9
        omega
      have hin := whF_in hw
      obtain ⟨ii, rfl⟩ : ∃ a : Nat, i = a := ⟨i.toNat, by omega⟩
      obtain ⟨f, hf⟩ : ∃ f : Nat, min (ii : Int) (q : Int) = (f : Int) := ⟨min ii q, by omega⟩
      have hfi : (ii ≤ q ∧ f = ii) ∨ (q < ii ∧ f = q) := by omega
      obtain ⟨fb, hfb⟩ : ∃ z, fitB s' q (f : Int) k = z := ⟨_, rfl⟩
      have HF := hide hfb
      obtain ⟨L2, hL2⟩ : ∃ L, outM s' it' B ++ visL s it = L := ⟨_, rfl⟩
      have H50 : Hid (∀ W X A5 C5 q5 A6 C6, Below w.heap.size w W → SlI W A5 q5 C5 (outM s' it' B) → SlI W A6 (visN s) C6 (visL s it) → W.heap[X]? = some (.cells #[.slice A5 q5 C5, .slice A6 (visN s) C6] 22) → Calls Try.prog 50 #[.slice (some ⟨X, 0, none⟩) 2 2] W fun e w' => ∃ v, e = .returned v ∧ VRow w' w.heap.size v L2 ∧ Below w.heap.size w w' ∧ Below W.heap.size W w') := fun W X A5 C5 q5 A6 C6 hf h5 h6 hX => by
        have h8 := out_le s' it' B
        have h7 : L2.length ≤ 1000 := by rw [← hL2, List.length_append, visL_len]; have := (visN_le s).2; omega
        have h9 := concat_all (n := 2) (c := 2) (cat_two hX h5 h6) (lt_of_block hX) rfl (by simp only [catL, List.map_cons, List.map_nil, List.flatten_cons, List.flatten_nil, List.append_nil, hL2]; exact h7) (by omega)
        simp only [catL, List.map_cons, List.map_nil, List.flatten_cons, List.flatten_nil, List.append_nil, hL2] at h9
        exact h9.mono fun e w' ⟨v, e1, e2, e3⟩ => ⟨v, e1, own_mono e2 hf.size, below_on hf e3, e3⟩
      cases fb with
      | false =>
        have HR : Hid (swpM A B ii j k = (A, B, false)) := by show _ = _; unfold swpM; rw [hw]; simp only [hw2, hq, hf, hfb]; rfl
        clear hw2 hw hn hm hf hfb hq hin hL2
        rcases hfi with ⟨g1, rfl⟩ | ⟨g1, rfl⟩
        · have g2 : (f : Int) ≤ (q : Int) := by omega
          have g3 : ¬ (q : Int) < (f : Int) := by omega
          have g4 : min (f : Int) (q : Int) = (f : Int) := by omega
          go_enter Try.func45, Try.ntmps45
          go_wp2_with (first | (go_at_call 60; refine (fits_any _ _ _ _ _ _ s' (by omega) (f : Int) k).mono ?_; rintro e w5 ⟨rfl, k5⟩; rw [HF.out]; have B5 := hide k5; have K5 := hide (below_on K4.out k5); clear k5 KK; have KK := K5) | (go_at_call 61; refine (twithout_any (HA.out.on K3.out) (by omega) (Q2.out.on B3.out)).mono ?_; rintro e w4 ⟨a4, q4, c4, rfl, h4, r4, k4⟩; rw [HQ.out] at h4; subst h4; have R4 := hide (own_mono r4 K3.out.size); have S4 := hide (SlI.row r4 HQ.out (by omega)); have B4 := hide k4; have K4 := hide (below_on K3.out k4); clear r4 k4 KK; have KK := K4) | (go_at_call 59; (with_reducible refine (whole_yes (HB.out.on K2.out) (by omega) HW2.out).mono ?_); rintro e w3 ⟨a3, c3, rfl, q3, k3⟩; have Q3 := hide q3; have B3 := hide k3; have K3 := hide (below_on K2.out k3); clear q3 k3 KK; have KK := K3) | (go_at_call 59; (with_reducible refine (whole_yes (HA.out.on K1.out) (by omega) HW.out).mono ?_); rintro e w2 ⟨a2, c2, rfl, q2, k2⟩; have Q2 := hide q2; have B2 := hide k2; have K2 := hide (below_on K1.out k2); clear q2 k2 KK; have KK := K2) | (go_at_call 46; refine (tkept_any HBX.out).mono ?_; rintro e w1 ⟨rfl, k1⟩; have K1 := hide k1; have KK := K1; clear k1) | fail)
          go_ret
          exact cht_no HR.out HL.out KK.out
        · have g2 : (f : Int) < (ii : Int) := by omega
          have g3 : ¬ (ii : Int) ≤ (f : Int) := by omega
          have g4 : min (ii : Int) (f : Int) = (f : Int) := by omega
          have g5 : ¬ (ii : Int) < (f : Int) := by omega
          go_enter Try.func45, Try.ntmps45
          go_wp2_with (first | (go_at_call 60; refine (fits_any _ _ _ _ _ _ s' (by omega) (f : Int) k).mono ?_; rintro e w5 ⟨rfl, k5⟩; rw [HF.out]; have B5 := hide k5; have K5 := hide (below_on K4.out k5); clear k5 KK; have KK := K5) | (go_at_call 61; refine (twithout_any (HA.out.on K3.out) (by omega) (Q2.out.on B3.out)).mono ?_; rintro e w4 ⟨a4, q4, c4, rfl, h4, r4, k4⟩; rw [HQ.out] at h4; subst h4; have R4 := hide (own_mono r4 K3.out.size); have S4 := hide (SlI.row r4 HQ.out (by omega)); have B4 := hide k4; have K4 := hide (below_on K3.out k4); clear r4 k4 KK; have KK := K4) | (go_at_call 59; (with_reducible refine (whole_yes (HB.out.on K2.out) (by omega) HW2.out).mono ?_); rintro e w3 ⟨a3, c3, rfl, q3, k3⟩; have Q3 := hide q3; have B3 := hide k3; have K3 := hide (below_on K2.out k3); clear q3 k3 KK; have KK := K3) | (go_at_call 59; (with_reducible refine (whole_yes (HA.out.on K1.out) (by omega) HW.out).mono ?_); rintro e w2 ⟨a2, c2, rfl, q2, k2⟩; have Q2 := hide q2; have B2 := hide k2; have K2 := hide (below_on K1.out k2); clear q2 k2 KK; have KK := K2) | (go_at_call 46; refine (tkept_any HBX.out).mono ?_; rintro e w1 ⟨rfl, k1⟩; have K1 := hide k1; have KK := K1; clear k1) | fail)
          go_ret
          exact cht_no HR.out HL.out KK.out
      | true =>
        have HR : Hid (swpM A B ii j k = (putL s' it' (outM s it A) (f : Int).toNat k.toNat, L2, true)) := by show _ = _; unfold swpM; rw [hw, ← hL2]; simp only [hw2, hq, hf, hfb]; rfl
        clear hw2 hw hn hm hf hfb hq hin hL2
        rcases hfi with ⟨g1, rfl⟩ | ⟨g1, rfl⟩
        · have g2 : (f : Int) ≤ (q : Int) := by omega
          have g3 : ¬ (q : Int) < (f : Int) := by omega
          have g4 : min (f : Int) (q : Int) = (f : Int) := by omega
          go_enter Try.func45, Try.ntmps45
          go_wp2_with (first | (go_at_call 50; refine (H50.out _ _ _ _ _ _ _ (low_alloc K7.out _) (S7.out.on ((Below.refl _ _).alloc (Nat.le_refl _) _)) (Q2.out.on (below_on (below_on (below_on (below_on (below_on B3.out B4.out) B5.out) B6.out) B7.out) ((Below.refl _ _).alloc (Nat.le_refl _) _))) at_new).mono ?_; rintro e w8 ⟨v8, rfl, r8, k8, k8b⟩; obtain ⟨a8, c8, rfl, _⟩ := r8.shape; have R8 := hide r8; have R9 := hide (VRow.later (VRow.later R6.out (Nat.le_refl _) B7.out) (Nat.le_refl _) (below_on ((Below.refl _ _).alloc (Nat.le_refl _) _) k8b)); have K8 := hide k8; have HB8 := hide ((K8.out.block tb HTB.out).trans HBX.out); have x0 : w8.cell? ⟨tb, 0, none⟩ = some (.slice ad n c) := cell_of_row _ _ _ _ _ _ HB8.out; have x1 : w8.cell? ⟨tb, 1, none⟩ = some (.slice ad' m c') := cell_of_row _ _ _ _ _ _ HB8.out; have xf : w8.frozen? ⟨tb, 0, none⟩ = false := frz_row HB8.out; have xg : w8.frozen? ⟨tb, 1, none⟩ = false := frz_row HB8.out; clear r8 k8 k8b KK; have KK := K8) | (go_at_call 61; (with_reducible refine (twithout_any (HB.out.on K6.out) (by omega) (Q3.out.on (below_on (below_on B4.out B5.out) B6.out))).mono ?_); rintro e w7 ⟨a7, q7, c7, rfl, h7, r7, k7⟩; have hle := out_le s' it' B; rw [h7] at hle; have S7 := hide (SlI.row r7 h7 (by have h9 := HB.out.len; omega)); have B7 := hide k7; have K7 := hide (below_on K6.out k7); have HQ7 := hide h7; clear h7 r7 k7 KK hle; have KK := K7) | (go_at_call 62; refine (with_any (S4.out.on B5.out) (by omega) (Q3.out.on (below_on B4.out B5.out)) (f : Int) k HF.out).mono ?_; rintro e w6 ⟨a6, c6, rfl, r6, k6⟩; have R6 := hide (own_mono r6 K5.out.size); have B6 := hide k6; have K6 := hide (below_on K5.out k6); clear r6 k6 KK; have KK := K6) | (go_at_call 60; refine (fits_any _ _ _ _ _ _ s' (by omega) (f : Int) k).mono ?_; rintro e w5 ⟨rfl, k5⟩; rw [HF.out]; have B5 := hide k5; have K5 := hide (below_on K4.out k5); clear k5 KK; have KK := K5) | (go_at_call 61; refine (twithout_any (HA.out.on K3.out) (by omega) (Q2.out.on B3.out)).mono ?_; rintro e w4 ⟨a4, q4, c4, rfl, h4, r4, k4⟩; rw [HQ.out] at h4; subst h4; have R4 := hide (own_mono r4 K3.out.size); have S4 := hide (SlI.row r4 HQ.out (by omega)); have B4 := hide k4; have K4 := hide (below_on K3.out k4); clear r4 k4 KK; have KK := K4) | (go_at_call 59; (with_reducible refine (whole_yes (HB.out.on K2.out) (by omega) HW2.out).mono ?_); rintro e w3 ⟨a3, c3, rfl, q3, k3⟩; have Q3 := hide q3; have B3 := hide k3; have K3 := hide (below_on K2.out k3); clear q3 k3 KK; have KK := K3) | (go_at_call 59; (with_reducible refine (whole_yes (HA.out.on K1.out) (by omega) HW.out).mono ?_); rintro e w2 ⟨a2, c2, rfl, q2, k2⟩; have Q2 := hide q2; have B2 := hide k2; have K2 := hide (below_on K1.out k2); clear q2 k2 KK; have KK := K2) | (go_at_call 46; refine (tkept_any HBX.out).mono ?_; rintro e w1 ⟨rfl, k1⟩; have K1 := hide k1; have KK := K1; clear k1) | fail)
          go_ret
          exact two_yes HB8.out HTB.out K8.out R9.out R8.out HR.out
        · have g2 : (f : Int) < (ii : Int) := by omega
          have g3 : ¬ (ii : Int) ≤ (f : Int) := by omega
          have g4 : min (ii : Int) (f : Int) = (f : Int) := by omega
          have g5 : ¬ (ii : Int) < (f : Int) := by omega
          go_enter Try.func45, Try.ntmps45
          go_wp2_with (first | (go_at_call 50; refine (H50.out _ _ _ _ _ _ _ (low_alloc K7.out _) (S7.out.on ((Below.refl _ _).alloc (Nat.le_refl _) _)) (Q2.out.on (below_on (below_on (below_on (below_on (below_on B3.out B4.out) B5.out) B6.out) B7.out) ((Below.refl _ _).alloc (Nat.le_refl _) _))) at_new).mono ?_; rintro e w8 ⟨v8, rfl, r8, k8, k8b⟩; obtain ⟨a8, c8, rfl, _⟩ := r8.shape; have R8 := hide r8; have R9 := hide (VRow.later (VRow.later R6.out (Nat.le_refl _) B7.out) (Nat.le_refl _) (below_on ((Below.refl _ _).alloc (Nat.le_refl _) _) k8b)); have K8 := hide k8; have HB8 := hide ((K8.out.block tb HTB.out).trans HBX.out); have x0 : w8.cell? ⟨tb, 0, none⟩ = some (.slice ad n c) := cell_of_row _ _ _ _ _ _ HB8.out; have x1 : w8.cell? ⟨tb, 1, none⟩ = some (.slice ad' m c') := cell_of_row _ _ _ _ _ _ HB8.out; have xf : w8.frozen? ⟨tb, 0, none⟩ = false := frz_row HB8.out; have xg : w8.frozen? ⟨tb, 1, none⟩ = false := frz_row HB8.out; clear r8 k8 k8b KK; have KK := K8) | (go_at_call 61; (with_reducible refine (twithout_any (HB.out.on K6.out) (by omega) (Q3.out.on (below_on (below_on B4.out B5.out) B6.out))).mono ?_); rintro e w7 ⟨a7, q7, c7, rfl, h7, r7, k7⟩; have hle := out_le s' it' B; rw [h7] at hle; have S7 := hide (SlI.row r7 h7 (by have h9 := HB.out.len; omega)); have B7 := hide k7; have K7 := hide (below_on K6.out k7); have HQ7 := hide h7; clear h7 r7 k7 KK hle; have KK := K7) | (go_at_call 62; refine (with_any (S4.out.on B5.out) (by omega) (Q3.out.on (below_on B4.out B5.out)) (f : Int) k HF.out).mono ?_; rintro e w6 ⟨a6, c6, rfl, r6, k6⟩; have R6 := hide (own_mono r6 K5.out.size); have B6 := hide k6; have K6 := hide (below_on K5.out k6); clear r6 k6 KK; have KK := K6) | (go_at_call 60; refine (fits_any _ _ _ _ _ _ s' (by omega) (f : Int) k).mono ?_; rintro e w5 ⟨rfl, k5⟩; rw [HF.out]; have B5 := hide k5; have K5 := hide (below_on K4.out k5); clear k5 KK; have KK := K5) | (go_at_call 61; refine (twithout_any (HA.out.on K3.out) (by omega) (Q2.out.on B3.out)).mono ?_; rintro e w4 ⟨a4, q4, c4, rfl, h4, r4, k4⟩; rw [HQ.out] at h4; subst h4; have R4 := hide (own_mono r4 K3.out.size); have S4 := hide (SlI.row r4 HQ.out (by omega)); have B4 := hide k4; have K4 := hide (below_on K3.out k4); clear r4 k4 KK; have KK := K4) | (go_at_call 59; (with_reducible refine (whole_yes (HB.out.on K2.out) (by omega) HW2.out).mono ?_); rintro e w3 ⟨a3, c3, rfl, q3, k3⟩; have Q3 := hide q3; have B3 := hide k3; have K3 := hide (below_on K2.out k3); clear q3 k3 KK; have KK := K3) | (go_at_call 59; (with_reducible refine (whole_yes (HA.out.on K1.out) (by omega) HW.out).mono ?_); rintro e w2 ⟨a2, c2, rfl, q2, k2⟩; have Q2 := hide q2; have B2 := hide k2; have K2 := hide (below_on K1.out k2); clear q2 k2 KK; have KK := K2) | (go_at_call 46; refine (tkept_any HBX.out).mono ?_; rintro e w1 ⟨rfl, k1⟩; have K1 := hide k1; have KK := K1; clear k1) | fail)
          go_ret
          exact two_yes HB8.out HTB.out K8.out R9.out R8.out HR.out
end Go.Proofs.Ytdnkmjafkpnliaa
