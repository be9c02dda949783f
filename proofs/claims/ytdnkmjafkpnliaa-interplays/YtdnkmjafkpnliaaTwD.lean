/-
  What the calls of backwards and of a Two's Turned do.
-/
import Derived.Test.YtdnkmjafkpnliaaTwB
import Derived.Deep.RegionHeld3
namespace Go.Proofs.Ytdnkmjafkpnliaa
open Go.RowKit

set_option maxRecDepth 100000 in
set_option maxHeartbeats 6400000 in
theorem reverse_nil (w : World) : Calls Try.prog 54 #[.slice none 0 0] w fun e w' => e = .returned (.tuple #[]) ∧ Below w.heap.size w w' := by
  go_enter Try.func54, Try.ntmps54
  go_wp2_with fail
  go_loopw [2, 3] (fun vi vj wr => vi = .int .i64 0 ∧ vj = .int .i64 (-1) ∧ Hid (Below w.heap.size w wr)) (fun _ _ _ => 0)
  case atStart => exact ⟨rfl, by first | rfl | go_num, Below.refl _ _⟩
  case round =>
    obtain ⟨rfl, rfl, HB⟩ := hrel
    go_wp2_with fail
    go_end0
    exact ⟨rfl, HB.out⟩
theorem reverse_row {w : World} {base m c : Nat} {a : Option Addr} {L : List Vst} (h : VRow w base (.slice a m c) L) (hm : L.length = m) (hm2 : m ≤ 900) (hb : base ≤ w.heap.size) : Calls Try.prog 54 #[.slice a m c] w fun e w' => e = .returned (.tuple #[]) ∧ VRow w' base (.slice a m c) L.reverse ∧ Below base w w' := by
  rcases h.2 with ⟨e1, e2⟩ | ⟨g, cap, cur, e1, hg, _⟩
  · injection e1 with e3 e4 e5
    subst e3 e4 e5
    have hL : L = [] := List.eq_nil_of_length_eq_zero hm
    subst hL
    exact (reverse_nil w).mono fun e w' ⟨h1, h2⟩ => ⟨h1, World.ownsRow_nil _ _ 58 2, h2.mono hb⟩
  · injection e1 with e3 e4 e5
    subst e3 e5
    have h9 := reverse_any (a := 0) (n := m) (c := c) h hm (by omega) hm2
    rw [Nat.zero_mul] at h9
    refine h9.mono fun e w' ⟨h1, h2, h3⟩ => ⟨h1, ?_, grw_low h3 hg hb⟩
    have e9 : revM L 0 m = L.reverse := by
      unfold revM
      rw [List.take_zero, List.nil_append, List.drop_zero, Nat.zero_add, List.take_of_length_le (by omega), List.drop_of_length_le (by omega), List.append_nil]
    rw [← e9]
    exact h2
set_option maxRecDepth 100000 in
set_option maxHeartbeats 6400000 in
theorem backwards_any {w : World} {m c : Nat} {a : Option Addr} {V : List Vst} (h : SlI w a m c V) (hm : m ≤ 900) : Calls Try.prog 63 #[.slice a m c] w fun e w' => ∃ a2 c2, e = .returned (.slice a2 m c2) ∧ VRow w' w.heap.size (.slice a2 m c2) V.reverse ∧ Below w.heap.size w w' := by
  have H30 := hide (clone_any h.vs h.len hm h.nz)
  have HM := hide h.len
  clear h
  go_enter Try.func63, Try.ntmps63
  go_wp2_with (first | (go_at_call 54; refine (reverse_row R1.out HM.out hm K1.out.size).mono ?_; rintro e w2 ⟨rfl, r2, k2⟩; have R2 := hide r2; have K2 : Hid (Below w.heap.size w w2) := K1.out.trans k2; clear r2 k2) | (go_at_call 30; refine H30.out.mono ?_; rintro e w1 ⟨a1, c1, rfl, r1, k1⟩; have R1 := hide r1; have K1 := hide k1; clear r1 k1) | fail)
  go_ret
  exact ⟨a1, c1, rfl, R2.out, K2.out⟩
set_option maxRecDepth 100000 in
set_option maxHeartbeats 12800000 in
theorem tturned_any {w : World} {tb : Nat} {A B : List Vst} (h : TwoV w tb A B) (hA : A.length ≤ 400) (hB : B.length ≤ 400) (i j k : Int) : Calls Try.prog 44 #[.pointer (some ⟨tb, 0, none⟩), .int .i64 i, .int .i64 j, .int .i64 k] w (ChT w tb (trnM A B i j)) := by
  obtain ⟨n, hn⟩ : ∃ n, A.length = n := ⟨_, rfl⟩
  obtain ⟨m, hm⟩ : ∃ m, B.length = m := ⟨_, rfl⟩
  rw [hn] at hA
  rw [hm] at hB
  obtain ⟨ad, c, ad', c', h1, sA, sB⟩ := h.open hn hm (by omega) (by omega)
  have HL := hide h
  have HBX := hide h1
  have HTB := hide h.lt
  have HA := hide sA
  have HB := hide sB
  clear h h1 sA sB
  obtain ⟨b1, hb1⟩ : ∃ b, witB i (n : Int) = b := ⟨_, rfl⟩
  have HB1 := hide hb1
  obtain ⟨b2, hb2⟩ : ∃ b, witB j (m : Int) = b := ⟨_, rfl⟩
  have HB2 := hide hb2
  have w0 : IntKind.i64.wrap ((n : Int) + (m : Int)) = (n : Int) + (m : Int) := by rw [IntKind.wrap_i64]; omega
  cases b1 with
  | false =>
    have HR : Hid (trnM A B i j = (A, B, false)) := by show _ = _; unfold trnM; rw [hn, hm, hb1]; rfl
    clear hb1 hb2 hn hm
    go_enter Try.func44, Try.ntmps44
    go_wp2_with (first | (go_at_call 49; refine (twithin_any _ _ _).mono ?_; rintro e w3 ⟨rfl, k3⟩; rw [HB2.out]; have K3 := hide (below_on K2.out k3); clear k3 KK; have KK := K3) | (go_at_call 49; refine (twithin_any _ _ _).mono ?_; rintro e w2 ⟨rfl, k2⟩; rw [HB1.out]; have K2 := hide (below_on K1.out k2); clear k2 KK; have KK := K2) | (go_at_call 46; refine (tkept_any HBX.out).mono ?_; rintro e w1 ⟨rfl, k1⟩; have K1 := hide k1; have KK := K1; clear k1) | fail)
    go_ret
    exact cht_no HR.out HL.out KK.out
  | true =>
    cases b2 with
    | false =>
      have HR : Hid (trnM A B i j = (A, B, false)) := by show _ = _; unfold trnM; rw [hn, hm, hb1, hb2]; rfl
      clear hb1 hb2 hn hm
      go_enter Try.func44, Try.ntmps44
      go_wp2_with (first | (go_at_call 49; refine (twithin_any _ _ _).mono ?_; rintro e w3 ⟨rfl, k3⟩; rw [HB2.out]; have K3 := hide (below_on K2.out k3); clear k3 KK; have KK := K3) | (go_at_call 49; refine (twithin_any _ _ _).mono ?_; rintro e w2 ⟨rfl, k2⟩; rw [HB1.out]; have K2 := hide (below_on K1.out k2); clear k2 KK; have KK := K2) | (go_at_call 46; refine (tkept_any HBX.out).mono ?_; rintro e w1 ⟨rfl, k1⟩; have K1 := hide k1; have KK := K1; clear k1) | fail)
      go_ret
      exact cht_no HR.out HL.out KK.out
    | true =>
      obtain ⟨z, hz⟩ : ∃ z, ((n : Int) + (m : Int) == 0) = z := ⟨_, rfl⟩
      cases z with
      | true =>
        have y1 := hz
        have z1 : (n : Int) + (m : Int) = 0 := by simpa using hz
        have HR : Hid (trnM A B i j = (A, B, false)) := by show _ = _; unfold trnM; rw [hn, hm, hb1, hb2, y1]; rfl
        clear hb1 hb2 hn hm hz y1 hA hB
        go_enter Try.func44, Try.ntmps44
        go_wp2_with (first | (go_at_call 49; refine (twithin_any _ _ _).mono ?_; rintro e w3 ⟨rfl, k3⟩; rw [HB2.out]; have K3 := hide (below_on K2.out k3); clear k3 KK; have KK := K3) | (go_at_call 49; refine (twithin_any _ _ _).mono ?_; rintro e w2 ⟨rfl, k2⟩; rw [HB1.out]; have K2 := hide (below_on K1.out k2); clear k2 KK; have KK := K2) | (go_at_call 46; refine (tkept_any HBX.out).mono ?_; rintro e w1 ⟨rfl, k1⟩; have K1 := hide k1; have KK := K1; clear k1) | fail)
        go_ret
        exact cht_no HR.out HL.out KK.out
      | false =>
        have y1 := hz
        have y2 : ¬ (n : Int) + (m : Int) = 0 := by simpa using hz
        clear hz
        have q1 := wit_ok hb1
        have q2 := wit_ok hb2
        obtain ⟨a, rfl⟩ : ∃ a : Nat, i = a := ⟨i.toNat, by omega⟩
        obtain ⟨b, rfl⟩ : ∃ b : Nat, j = b := ⟨j.toNat, by omega⟩
        obtain ⟨r, hr⟩ : ∃ r : Nat, a + r = n := ⟨n - a, by omega⟩
        obtain ⟨s, hs⟩ : ∃ s : Nat, b + s = m := ⟨m - b, by omega⟩
        obtain ⟨A1, C1, e1, p1⟩ := sl_h HA.out (y := (a : Int)) a rfl (by omega)
        obtain ⟨A2, C2, e2, p2⟩ := sl_l HB.out (x := (b : Int)) b s rfl hs
        obtain ⟨A3, C3, e3, p3⟩ := sl_h HB.out (y := (b : Int)) b rfl (by omega)
        obtain ⟨A4, C4, e4, p4⟩ := sl_l HA.out (x := (a : Int)) a r rfl hr
        obtain ⟨L1, hL1⟩ : ∃ L, A.take a ++ (B.take b).reverse = L := ⟨_, rfl⟩
        obtain ⟨L2, hL2⟩ : ∃ L, (A.drop a).reverse ++ B.drop b = L := ⟨_, rfl⟩
        have HR : Hid (trnM A B a b = (L1, L2, true)) := by show _ = _; unfold trnM; rw [hn, hm, hb1, hb2, y1, ← hL1, ← hL2]; rfl
        have HE1 : Hid (L1.length ≤ 1000) := by show _ ≤ _; rw [← hL1, List.length_append, List.length_reverse, p1.len, p3.len]; omega
        have HE2 : Hid (L2.length ≤ 1000) := by show _ ≤ _; rw [← hL2, List.length_append, List.length_reverse, p4.len, p2.len]; omega
        have H63a : Hid (∀ W, Below w.heap.size w W → Calls Try.prog 63 #[.slice A3 b C3] W fun e w' => ∃ a2 c2, e = .returned (.slice a2 b c2) ∧ SlI w' a2 b c2 (B.take b).reverse ∧ Below w.heap.size w w') := fun W hf => (backwards_any (p3.on hf) (by omega)).mono fun e w' ⟨a2, c2, e1, e2, e3⟩ => ⟨a2, c2, e1, SlI.row e2 (by rw [List.length_reverse]; exact p3.len) (by omega), below_on hf e3⟩
        have H63b : Hid (∀ W, Below w.heap.size w W → Calls Try.prog 63 #[.slice A4 r C4] W fun e w' => ∃ a2 c2, e = .returned (.slice a2 r c2) ∧ SlI w' a2 r c2 (A.drop a).reverse ∧ Below w.heap.size w w' ∧ Below W.heap.size W w') := fun W hf => (backwards_any (p4.on hf) (by omega)).mono fun e w' ⟨a2, c2, e1, e2, e3⟩ => ⟨a2, c2, e1, SlI.row e2 (by rw [List.length_reverse]; exact p4.len) (by omega), below_on hf e3, e3⟩
        have H50a : Hid (∀ W X A5 C5, Below w.heap.size w W → SlI W A5 b C5 (B.take b).reverse → W.heap[X]? = some (.cells #[.slice A1 a C1, .slice A5 b C5] 22) → Calls Try.prog 50 #[.slice (some ⟨X, 0, none⟩) 2 2] W fun e w' => ∃ v, e = .returned v ∧ VRow w' w.heap.size v L1 ∧ Below w.heap.size w w' ∧ Below W.heap.size W w') := fun W X A5 C5 hf h5 hX => by
          have h9 := concat_all (n := 2) (c := 2) (cat_two hX (p1.on hf) h5) (lt_of_block hX) rfl (by simp only [catL, List.map_cons, List.map_nil, List.flatten_cons, List.flatten_nil, List.append_nil, hL1]; exact HE1.out) (by omega)
          simp only [catL, List.map_cons, List.map_nil, List.flatten_cons, List.flatten_nil, List.append_nil, hL1] at h9
          exact h9.mono fun e w' ⟨v, e1, e2, e3⟩ => ⟨v, e1, own_mono e2 hf.size, below_on hf e3, e3⟩
        have H50b : Hid (∀ W X A5 C5, Below w.heap.size w W → SlI W A5 r C5 (A.drop a).reverse → W.heap[X]? = some (.cells #[.slice A5 r C5, .slice A2 s C2] 22) → Calls Try.prog 50 #[.slice (some ⟨X, 0, none⟩) 2 2] W fun e w' => ∃ v, e = .returned v ∧ VRow w' w.heap.size v L2 ∧ Below w.heap.size w w' ∧ Below W.heap.size W w') := fun W X A5 C5 hf h5 hX => by
          have h9 := concat_all (n := 2) (c := 2) (cat_two hX h5 (p2.on hf)) (lt_of_block hX) rfl (by simp only [catL, List.map_cons, List.map_nil, List.flatten_cons, List.flatten_nil, List.append_nil, hL2]; exact HE2.out) (by omega)
          simp only [catL, List.map_cons, List.map_nil, List.flatten_cons, List.flatten_nil, List.append_nil, hL2] at h9
          exact h9.mono fun e w' ⟨v, e1, e2, e3⟩ => ⟨v, e1, own_mono e2 hf.size, below_on hf e3, e3⟩
        clear hb1 hb2 hn hm q1 q2 hr hs p1 p2 p3 p4 hL1 hL2 hA hB
        go_enter Try.func44, Try.ntmps44
        go_wp2_with (first | (go_at_call 49; refine (twithin_any _ _ _).mono ?_; rintro e w3 ⟨rfl, k3⟩; rw [HB2.out]; have K3 := hide (below_on K2.out k3); clear k3 KK; have KK := K3) | (go_at_call 49; refine (twithin_any _ _ _).mono ?_; rintro e w2 ⟨rfl, k2⟩; rw [HB1.out]; have K2 := hide (below_on K1.out k2); clear k2 KK; have KK := K2) | (go_at_call 46; refine (tkept_any HBX.out).mono ?_; rintro e w1 ⟨rfl, k1⟩; have K1 := hide k1; have KK := K1; clear k1) | fail)
        go_region_held3 (fun _ => True) (trivial) (first | (go_at_call 50; (with_reducible refine (H50b.out _ _ _ _ (low_alloc K6.out _) (Q6.out.on ((Below.refl _ _).alloc (Nat.le_refl _) _)) at_new).mono ?_); rintro e w7 ⟨v2, rfl, r2, k7, k7b⟩; obtain ⟨a7, c7, rfl, _⟩ := r2.shape; have R2 := hide r2; have R3 : Hid (VRow w7 w.heap.size (.slice a5 L1.length c5) L1) := VRow.later R5.out (Nat.le_refl _) (below_on ((Below.refl _ _).alloc (Nat.le_refl _) _) k7b); have K7 := hide k7; have HB7 := hide ((K7.out.block tb HTB.out).trans HBX.out); have x0 : w7.cell? ⟨tb, 0, none⟩ = some (.slice ad n c) := cell_of_row _ _ _ _ _ _ HB7.out; have x1 : w7.cell? ⟨tb, 1, none⟩ = some (.slice ad' m c') := cell_of_row _ _ _ _ _ _ HB7.out; have xf : w7.frozen? ⟨tb, 0, none⟩ = false := frz_row HB7.out; have xg : w7.frozen? ⟨tb, 1, none⟩ = false := frz_row HB7.out; clear r2 k7 k7b) | (go_at_call 63; (with_reducible refine (H63b.out _ K5.out).mono ?_); rintro e w6 ⟨a6, c6, rfl, q6, k6, k6b⟩; have Q6 := hide q6; have K6 := hide k6; have R5 : Hid (VRow w6 w.heap.size (.slice a5 L1.length c5) L1) := VRow.later R1.out (Nat.le_refl _) k6b; clear q6 k6 k6b) | (go_at_call 50; (with_reducible refine (H50a.out _ _ _ _ (low_alloc K4.out _) (Q4.out.on ((Below.refl _ _).alloc (Nat.le_refl _) _)) at_new).mono ?_); rintro e w5 ⟨v1, rfl, r1, k5, -⟩; obtain ⟨a5, c5, rfl, _⟩ := r1.shape; have R1 := hide r1; have K5 := hide k5; clear r1 k5) | (go_at_call 63; (with_reducible refine (H63a.out _ (low_drew KK.out)).mono ?_); rintro e w4 ⟨a4, c4, rfl, q4, k4⟩; have Q4 := hide q4; have K4 := hide k4; clear q4 k4) | fail)
        rename_i hHeld
        clear hHeld
        go_wp2_with fail
        go_ret
        exact two_yes HB7.out HTB.out K7.out R3.out R2.out HR.out
end Go.Proofs.Ytdnkmjafkpnliaa
