/-
  What the call of a Two's Tails does.
-/
import Derived.Test.YtdnkmjafkpnliaaTwB
namespace Go.Proofs.Ytdnkmjafkpnliaa
open Go.RowKit

set_option maxRecDepth 100000 in
set_option maxHeartbeats 12800000 in
theorem tails_any {w : World} {tb : Nat} {A B : List Vst} (h : TwoV w tb A B) (hA : A.length ≤ 400) (hB : B.length ≤ 400) (i j k : Int) : Calls Try.prog 28 #[.pointer (some ⟨tb, 0, none⟩), .int .i64 i, .int .i64 j, .int .i64 k] w (ChT w tb (talM A B i j)) := by
  obtain ⟨n, hn⟩ : ∃ n, A.length = n := ⟨_, rfl⟩
  obtain ⟨m, hm⟩ : ∃ m, B.length = m := ⟨_, rfl⟩
  rw [hn] at hA
  rw [hm] at hB
  obtain ⟨ad, c, ad', c', h1, sA, sB⟩ := h.open hn hm (by omega) (by omega)
  have HL := hide h
  have HBX := hide h1
  have HTB := hide h.lt
  have HA := hide sA
  have HB := hide sB
  clear h h1 sA sB
  obtain ⟨b1, hb1⟩ : ∃ b, witB i (n : Int) = b := ⟨_, rfl⟩
  have HB1 := hide hb1
  obtain ⟨b2, hb2⟩ : ∃ b, witB j (m : Int) = b := ⟨_, rfl⟩
  have HB2 := hide hb2
  cases b1 with
  | false =>
    have HR : Hid (talM A B i j = (A, B, false)) := by show _ = _; unfold talM; rw [hn, hm, hb1]; rfl
    clear hb1 hb2 hn hm
    go_enter Try.func28, Try.ntmps28
    go_wp2_with (first | (go_at_call 49; refine (twithin_any _ _ _).mono ?_; rintro e w3 ⟨rfl, k3⟩; rw [HB2.out]; have K3 := hide (below_on K2.out k3); clear k3 KK; have KK := K3) | (go_at_call 49; refine (twithin_any _ _ _).mono ?_; rintro e w2 ⟨rfl, k2⟩; rw [HB1.out]; have K2 := hide (below_on K1.out k2); clear k2 KK; have KK := K2) | (go_at_call 46; refine (tkept_any HBX.out).mono ?_; rintro e w1 ⟨rfl, k1⟩; have K1 := hide k1; have KK := K1; clear k1) | fail)
    go_ret
    exact cht_no HR.out HL.out KK.out
  | true =>
    cases b2 with
    | false =>
      have HR : Hid (talM A B i j = (A, B, false)) := by show _ = _; unfold talM; rw [hn, hm, hb1, hb2]; rfl
      clear hb1 hb2 hn hm
      go_enter Try.func28, Try.ntmps28
      go_wp2_with (first | (go_at_call 49; refine (twithin_any _ _ _).mono ?_; rintro e w3 ⟨rfl, k3⟩; rw [HB2.out]; have K3 := hide (below_on K2.out k3); clear k3 KK; have KK := K3) | (go_at_call 49; refine (twithin_any _ _ _).mono ?_; rintro e w2 ⟨rfl, k2⟩; rw [HB1.out]; have K2 := hide (below_on K1.out k2); clear k2 KK; have KK := K2) | (go_at_call 46; refine (tkept_any HBX.out).mono ?_; rintro e w1 ⟨rfl, k1⟩; have K1 := hide k1; have KK := K1; clear k1) | fail)
      go_ret
      exact cht_no HR.out HL.out KK.out
    | true =>
      by_cases hi : i = (n : Int)
      · have y1 : (i == (n : Int)) = true := by simpa using hi
        by_cases hj : j = (m : Int)
        · have y2 : (j == (m : Int)) = true := by simpa using hj
          clear hi hj
          have HR : Hid (talM A B i j = (A, B, false)) := by show _ = _; unfold talM; rw [hn, hm, hb1, hb2, y1, y2]; rfl
          clear hb1 hb2 hn hm
          go_enter Try.func28, Try.ntmps28
          go_wp2_with (first | (go_at_call 49; refine (twithin_any _ _ _).mono ?_; rintro e w3 ⟨rfl, k3⟩; rw [HB2.out]; have K3 := hide (below_on K2.out k3); clear k3 KK; have KK := K3) | (go_at_call 49; refine (twithin_any _ _ _).mono ?_; rintro e w2 ⟨rfl, k2⟩; rw [HB1.out]; have K2 := hide (below_on K1.out k2); clear k2 KK; have KK := K2) | (go_at_call 46; refine (tkept_any HBX.out).mono ?_; rintro e w1 ⟨rfl, k1⟩; have K1 := hide k1; have KK := K1; clear k1) | fail)
          go_ret
          exact cht_no HR.out HL.out KK.out
        · have y2 : (j == (m : Int)) = false := by simpa using hj
          clear hi hj
          have q1 := wit_ok hb1
          have q2 := wit_ok hb2
          obtain ⟨a, rfl⟩ : ∃ a : Nat, i = a := ⟨i.toNat, by omega⟩
          obtain ⟨b, rfl⟩ : ∃ b : Nat, j = b := ⟨j.toNat, by omega⟩
          obtain ⟨r, hr⟩ : ∃ r : Nat, a + r = n := ⟨n - a, by omega⟩
          obtain ⟨s, hs⟩ : ∃ s : Nat, b + s = m := ⟨m - b, by omega⟩
          obtain ⟨A1, C1, e1, p1⟩ := sl_h HA.out (y := (a : Int)) a rfl (by omega)
          obtain ⟨A2, C2, e2, p2⟩ := sl_l HB.out (x := (b : Int)) b s rfl hs
          obtain ⟨A3, C3, e3, p3⟩ := sl_h HB.out (y := (b : Int)) b rfl (by omega)
          obtain ⟨A4, C4, e4, p4⟩ := sl_l HA.out (x := (a : Int)) a r rfl hr
          obtain ⟨L1, hL1⟩ : ∃ L, A.take a ++ B.drop b = L := ⟨_, rfl⟩
          obtain ⟨L2, hL2⟩ : ∃ L, B.take b ++ A.drop a = L := ⟨_, rfl⟩
          have HR : Hid (talM A B a b = (L1, L2, true)) := by show _ = _; unfold talM; rw [hn, hm, hb1, hb2, y1, y2, ← hL1, ← hL2]; rfl
          have HE1 : Hid (L1.length ≤ 1000) := by show _ ≤ _; rw [← hL1, List.length_append, p1.len, p2.len]; omega
          have HE2 : Hid (L2.length ≤ 1000) := by show _ ≤ _; rw [← hL2, List.length_append, p3.len, p4.len]; omega
          have H50a : Hid (∀ W X, Below w.heap.size w W → W.heap[X]? = some (.cells #[.slice A1 a C1, .slice A2 s C2] 22) → Calls Try.prog 50 #[.slice (some ⟨X, 0, none⟩) 2 2] W fun e w' => ∃ v, e = .returned v ∧ VRow w' w.heap.size v L1 ∧ Below w.heap.size w w' ∧ Below W.heap.size W w') := fun W X hf hX => by
            have h9 := concat_all (n := 2) (c := 2) (cat_two hX (p1.on hf) (p2.on hf)) (lt_of_block hX) rfl (by simp only [catL, List.map_cons, List.map_nil, List.flatten_cons, List.flatten_nil, List.append_nil, hL1]; exact HE1.out) (by omega)
            simp only [catL, List.map_cons, List.map_nil, List.flatten_cons, List.flatten_nil, List.append_nil, hL1] at h9
            exact h9.mono fun e w' ⟨v, e1, e2, e3⟩ => ⟨v, e1, own_mono e2 hf.size, below_on hf e3, e3⟩
          have H50b : Hid (∀ W X, Below w.heap.size w W → W.heap[X]? = some (.cells #[.slice A3 b C3, .slice A4 r C4] 22) → Calls Try.prog 50 #[.slice (some ⟨X, 0, none⟩) 2 2] W fun e w' => ∃ v, e = .returned v ∧ VRow w' w.heap.size v L2 ∧ Below w.heap.size w w' ∧ Below W.heap.size W w') := fun W X hf hX => by
            have h9 := concat_all (n := 2) (c := 2) (cat_two hX (p3.on hf) (p4.on hf)) (lt_of_block hX) rfl (by simp only [catL, List.map_cons, List.map_nil, List.flatten_cons, List.flatten_nil, List.append_nil, hL2]; exact HE2.out) (by omega)
            simp only [catL, List.map_cons, List.map_nil, List.flatten_cons, List.flatten_nil, List.append_nil, hL2] at h9
            exact h9.mono fun e w' ⟨v, e1, e2, e3⟩ => ⟨v, e1, own_mono e2 hf.size, below_on hf e3, e3⟩
          clear hb1 hb2 hn hm q1 q2 hr hs p1 p2 p3 p4 hL1 hL2 hA hB
          go_enter Try.func28, Try.ntmps28
          go_wp2_with (first | (go_at_call 49; refine (twithin_any _ _ _).mono ?_; rintro e w3 ⟨rfl, k3⟩; rw [HB2.out]; have K3 := hide (below_on K2.out k3); clear k3 KK; have KK := K3) | (go_at_call 49; refine (twithin_any _ _ _).mono ?_; rintro e w2 ⟨rfl, k2⟩; rw [HB1.out]; have K2 := hide (below_on K1.out k2); clear k2 KK; have KK := K2) | (go_at_call 46; refine (tkept_any HBX.out).mono ?_; rintro e w1 ⟨rfl, k1⟩; have K1 := hide k1; have KK := K1; clear k1) | fail)
          go_region_held3 (fun _ => True) (trivial) (first | (go_at_call 50; have hh := R1.out; clear hh; (with_reducible refine (H50b.out _ _ (low_alloc K4.out _) at_new).mono ?_); rintro e w5 ⟨v2, rfl, r2, k5, k5b⟩; obtain ⟨a5, c5, rfl, _⟩ := r2.shape; have R2 := hide r2; have R3 : Hid (VRow w5 w.heap.size (.slice a4 L1.length c4) L1) := VRow.later R1.out (Nat.le_refl _) (below_on ((Below.refl _ _).alloc (Nat.le_refl _) _) k5b); have K5 := hide k5; have HB5 := hide ((K5.out.block tb HTB.out).trans HBX.out); have x0 : w5.cell? ⟨tb, 0, none⟩ = some (.slice ad n c) := cell_of_row _ _ _ _ _ _ HB5.out; have x1 : w5.cell? ⟨tb, 1, none⟩ = some (.slice ad' m c') := cell_of_row _ _ _ _ _ _ HB5.out; have xf : w5.frozen? ⟨tb, 0, none⟩ = false := frz_row HB5.out; have xg : w5.frozen? ⟨tb, 1, none⟩ = false := frz_row HB5.out; clear r2 k5 k5b) | (go_at_call 50; have hh := R1.out; clear hh; (with_reducible refine (H50b.out _ _ K4.out ((KB.out.block _ lt_twoD.2).trans at_twoD)).mono ?_); rintro e w5 ⟨v2, rfl, r2, k5, k5b⟩; obtain ⟨a5, c5, rfl, _⟩ := r2.shape; have R2 := hide r2; have R3 : Hid (VRow w5 w.heap.size (.slice a4 L1.length c4) L1) := VRow.later R1.out (Nat.le_refl _) k5b; have K5 := hide k5; have HB5 := hide ((K5.out.block tb HTB.out).trans HBX.out); have x0 : w5.cell? ⟨tb, 0, none⟩ = some (.slice ad n c) := cell_of_row _ _ _ _ _ _ HB5.out; have x1 : w5.cell? ⟨tb, 1, none⟩ = some (.slice ad' m c') := cell_of_row _ _ _ _ _ _ HB5.out; have xf : w5.frozen? ⟨tb, 0, none⟩ = false := frz_row HB5.out; have xg : w5.frozen? ⟨tb, 1, none⟩ = false := frz_row HB5.out; clear r2 k5 k5b) | (go_at_call 50; have hh := R1.out; clear hh; (with_reducible refine (H50b.out _ _ K4.out ((KB.out.block _ lt_twoD.1).trans at_oldD)).mono ?_); rintro e w5 ⟨v2, rfl, r2, k5, k5b⟩; obtain ⟨a5, c5, rfl, _⟩ := r2.shape; have R2 := hide r2; have R3 : Hid (VRow w5 w.heap.size (.slice a4 L1.length c4) L1) := VRow.later R1.out (Nat.le_refl _) k5b; have K5 := hide k5; have HB5 := hide ((K5.out.block tb HTB.out).trans HBX.out); have x0 : w5.cell? ⟨tb, 0, none⟩ = some (.slice ad n c) := cell_of_row _ _ _ _ _ _ HB5.out; have x1 : w5.cell? ⟨tb, 1, none⟩ = some (.slice ad' m c') := cell_of_row _ _ _ _ _ _ HB5.out; have xf : w5.frozen? ⟨tb, 0, none⟩ = false := frz_row HB5.out; have xg : w5.frozen? ⟨tb, 1, none⟩ = false := frz_row HB5.out; clear r2 k5 k5b) | (go_at_call 50; (with_reducible refine (H50a.out _ _ (by repeat (first | (with_reducible exact KK.out) | (with_reducible refine low_drew ?_) | (with_reducible refine low_alloc ?_ _))) at_newD).mono ?_); rintro e w4 ⟨v1, rfl, r1, k4, k4b⟩; obtain ⟨a4, c4, rfl, _⟩ := r1.shape; have R1 := hide r1; have KB := hide k4b; have K4 := hide k4; clear r1 k4 k4b) | (go_at_call 50; (with_reducible refine (H50a.out _ _ (by repeat (first | (with_reducible exact KK.out) | (with_reducible refine low_drew ?_) | (with_reducible refine low_alloc ?_ _))) at_oldD).mono ?_); rintro e w4 ⟨v1, rfl, r1, k4, k4b⟩; obtain ⟨a4, c4, rfl, _⟩ := r1.shape; have R1 := hide r1; have KB := hide k4b; have K4 := hide k4; clear r1 k4 k4b) | (go_at_call 50; (with_reducible refine (H50a.out _ _ (by repeat (first | (with_reducible exact KK.out) | (with_reducible refine low_drew ?_) | (with_reducible refine low_alloc ?_ _))) at_twoD).mono ?_); rintro e w4 ⟨v1, rfl, r1, k4, k4b⟩; obtain ⟨a4, c4, rfl, _⟩ := r1.shape; have R1 := hide r1; have KB := hide k4b; have K4 := hide k4; clear r1 k4 k4b) | fail)
          all_goals
            rename_i hHeld
            clear hHeld
            go_wp2_with fail
            go_ret
            exact two_yes HB5.out HTB.out K5.out R3.out R2.out HR.out
      · have y1 : (i == (n : Int)) = false := by simpa using hi
        clear hi
        have q1 := wit_ok hb1
        have q2 := wit_ok hb2
        obtain ⟨a, rfl⟩ : ∃ a : Nat, i = a := ⟨i.toNat, by omega⟩
        obtain ⟨b, rfl⟩ : ∃ b : Nat, j = b := ⟨j.toNat, by omega⟩
        obtain ⟨r, hr⟩ : ∃ r : Nat, a + r = n := ⟨n - a, by omega⟩
        obtain ⟨s, hs⟩ : ∃ s : Nat, b + s = m := ⟨m - b, by omega⟩
        obtain ⟨A1, C1, e1, p1⟩ := sl_h HA.out (y := (a : Int)) a rfl (by omega)
        obtain ⟨A2, C2, e2, p2⟩ := sl_l HB.out (x := (b : Int)) b s rfl hs
        obtain ⟨A3, C3, e3, p3⟩ := sl_h HB.out (y := (b : Int)) b rfl (by omega)
        obtain ⟨A4, C4, e4, p4⟩ := sl_l HA.out (x := (a : Int)) a r rfl hr
        obtain ⟨L1, hL1⟩ : ∃ L, A.take a ++ B.drop b = L := ⟨_, rfl⟩
        obtain ⟨L2, hL2⟩ : ∃ L, B.take b ++ A.drop a = L := ⟨_, rfl⟩
        have HR : Hid (talM A B a b = (L1, L2, true)) := by show _ = _; unfold talM; rw [hn, hm, hb1, hb2, y1, ← hL1, ← hL2]; rfl
        have HE1 : Hid (L1.length ≤ 1000) := by show _ ≤ _; rw [← hL1, List.length_append, p1.len, p2.len]; omega
        have HE2 : Hid (L2.length ≤ 1000) := by show _ ≤ _; rw [← hL2, List.length_append, p3.len, p4.len]; omega
        have H50a : Hid (∀ W X, Below w.heap.size w W → W.heap[X]? = some (.cells #[.slice A1 a C1, .slice A2 s C2] 22) → Calls Try.prog 50 #[.slice (some ⟨X, 0, none⟩) 2 2] W fun e w' => ∃ v, e = .returned v ∧ VRow w' w.heap.size v L1 ∧ Below w.heap.size w w' ∧ Below W.heap.size W w') := fun W X hf hX => by
          have h9 := concat_all (n := 2) (c := 2) (cat_two hX (p1.on hf) (p2.on hf)) (lt_of_block hX) rfl (by simp only [catL, List.map_cons, List.map_nil, List.flatten_cons, List.flatten_nil, List.append_nil, hL1]; exact HE1.out) (by omega)
          simp only [catL, List.map_cons, List.map_nil, List.flatten_cons, List.flatten_nil, List.append_nil, hL1] at h9
          exact h9.mono fun e w' ⟨v, e1, e2, e3⟩ => ⟨v, e1, own_mono e2 hf.size, below_on hf e3, e3⟩
        have H50b : Hid (∀ W X, Below w.heap.size w W → W.heap[X]? = some (.cells #[.slice A3 b C3, .slice A4 r C4] 22) → Calls Try.prog 50 #[.slice (some ⟨X, 0, none⟩) 2 2] W fun e w' => ∃ v, e = .returned v ∧ VRow w' w.heap.size v L2 ∧ Below w.heap.size w w' ∧ Below W.heap.size W w') := fun W X hf hX => by
          have h9 := concat_all (n := 2) (c := 2) (cat_two hX (p3.on hf) (p4.on hf)) (lt_of_block hX) rfl (by simp only [catL, List.map_cons, List.map_nil, List.flatten_cons, List.flatten_nil, List.append_nil, hL2]; exact HE2.out) (by omega)
          simp only [catL, List.map_cons, List.map_nil, List.flatten_cons, List.flatten_nil, List.append_nil, hL2] at h9
          exact h9.mono fun e w' ⟨v, e1, e2, e3⟩ => ⟨v, e1, own_mono e2 hf.size, below_on hf e3, e3⟩
        clear hb1 hb2 hn hm q1 q2 hr hs p1 p2 p3 p4 hL1 hL2 hA hB
        go_enter Try.func28, Try.ntmps28
        go_wp2_with (first | (go_at_call 49; refine (twithin_any _ _ _).mono ?_; rintro e w3 ⟨rfl, k3⟩; rw [HB2.out]; have K3 := hide (below_on K2.out k3); clear k3 KK; have KK := K3) | (go_at_call 49; refine (twithin_any _ _ _).mono ?_; rintro e w2 ⟨rfl, k2⟩; rw [HB1.out]; have K2 := hide (below_on K1.out k2); clear k2 KK; have KK := K2) | (go_at_call 46; refine (tkept_any HBX.out).mono ?_; rintro e w1 ⟨rfl, k1⟩; have K1 := hide k1; have KK := K1; clear k1) | fail)
        go_region_held3 (fun _ => True) (trivial) (first | (go_at_call 50; have hh := R1.out; clear hh; (with_reducible refine (H50b.out _ _ (low_alloc K4.out _) at_new).mono ?_); rintro e w5 ⟨v2, rfl, r2, k5, k5b⟩; obtain ⟨a5, c5, rfl, _⟩ := r2.shape; have R2 := hide r2; have R3 : Hid (VRow w5 w.heap.size (.slice a4 L1.length c4) L1) := VRow.later R1.out (Nat.le_refl _) (below_on ((Below.refl _ _).alloc (Nat.le_refl _) _) k5b); have K5 := hide k5; have HB5 := hide ((K5.out.block tb HTB.out).trans HBX.out); have x0 : w5.cell? ⟨tb, 0, none⟩ = some (.slice ad n c) := cell_of_row _ _ _ _ _ _ HB5.out; have x1 : w5.cell? ⟨tb, 1, none⟩ = some (.slice ad' m c') := cell_of_row _ _ _ _ _ _ HB5.out; have xf : w5.frozen? ⟨tb, 0, none⟩ = false := frz_row HB5.out; have xg : w5.frozen? ⟨tb, 1, none⟩ = false := frz_row HB5.out; clear r2 k5 k5b) | (go_at_call 50; have hh := R1.out; clear hh; (with_reducible refine (H50b.out _ _ K4.out ((KB.out.block _ lt_twoD.2).trans at_twoD)).mono ?_); rintro e w5 ⟨v2, rfl, r2, k5, k5b⟩; obtain ⟨a5, c5, rfl, _⟩ := r2.shape; have R2 := hide r2; have R3 : Hid (VRow w5 w.heap.size (.slice a4 L1.length c4) L1) := VRow.later R1.out (Nat.le_refl _) k5b; have K5 := hide k5; have HB5 := hide ((K5.out.block tb HTB.out).trans HBX.out); have x0 : w5.cell? ⟨tb, 0, none⟩ = some (.slice ad n c) := cell_of_row _ _ _ _ _ _ HB5.out; have x1 : w5.cell? ⟨tb, 1, none⟩ = some (.slice ad' m c') := cell_of_row _ _ _ _ _ _ HB5.out; have xf : w5.frozen? ⟨tb, 0, none⟩ = false := frz_row HB5.out; have xg : w5.frozen? ⟨tb, 1, none⟩ = false := frz_row HB5.out; clear r2 k5 k5b) | (go_at_call 50; have hh := R1.out; clear hh; (with_reducible refine (H50b.out _ _ K4.out ((KB.out.block _ lt_twoD.1).trans at_oldD)).mono ?_); rintro e w5 ⟨v2, rfl, r2, k5, k5b⟩; obtain ⟨a5, c5, rfl, _⟩ := r2.shape; have R2 := hide r2; have R3 : Hid (VRow w5 w.heap.size (.slice a4 L1.length c4) L1) := VRow.later R1.out (Nat.le_refl _) k5b; have K5 := hide k5; have HB5 := hide ((K5.out.block tb HTB.out).trans HBX.out); have x0 : w5.cell? ⟨tb, 0, none⟩ = some (.slice ad n c) := cell_of_row _ _ _ _ _ _ HB5.out; have x1 : w5.cell? ⟨tb, 1, none⟩ = some (.slice ad' m c') := cell_of_row _ _ _ _ _ _ HB5.out; have xf : w5.frozen? ⟨tb, 0, none⟩ = false := frz_row HB5.out; have xg : w5.frozen? ⟨tb, 1, none⟩ = false := frz_row HB5.out; clear r2 k5 k5b) | (go_at_call 50; (with_reducible refine (H50a.out _ _ (by repeat (first | (with_reducible exact KK.out) | (with_reducible refine low_drew ?_) | (with_reducible refine low_alloc ?_ _))) at_newD).mono ?_); rintro e w4 ⟨v1, rfl, r1, k4, k4b⟩; obtain ⟨a4, c4, rfl, _⟩ := r1.shape; have R1 := hide r1; have KB := hide k4b; have K4 := hide k4; clear r1 k4 k4b) | (go_at_call 50; (with_reducible refine (H50a.out _ _ (by repeat (first | (with_reducible exact KK.out) | (with_reducible refine low_drew ?_) | (with_reducible refine low_alloc ?_ _))) at_oldD).mono ?_); rintro e w4 ⟨v1, rfl, r1, k4, k4b⟩; obtain ⟨a4, c4, rfl, _⟩ := r1.shape; have R1 := hide r1; have KB := hide k4b; have K4 := hide k4; clear r1 k4 k4b) | (go_at_call 50; (with_reducible refine (H50a.out _ _ (by repeat (first | (with_reducible exact KK.out) | (with_reducible refine low_drew ?_) | (with_reducible refine low_alloc ?_ _))) at_twoD).mono ?_); rintro e w4 ⟨v1, rfl, r1, k4, k4b⟩; obtain ⟨a4, c4, rfl, _⟩ := r1.shape; have R1 := hide r1; have KB := hide k4b; have K4 := hide k4; clear r1 k4 k4b) | fail)
        all_goals
          rename_i hHeld
          clear hHeld
          go_wp2_with fail
          go_ret
          exact two_yes HB5.out HTB.out K5.out R3.out R2.out HR.out
end Go.Proofs.Ytdnkmjafkpnliaa
