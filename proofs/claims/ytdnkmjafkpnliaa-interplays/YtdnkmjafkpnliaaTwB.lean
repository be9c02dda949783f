/-
  What the calls of a Two's trade, Exchange, Cross, Tails and Turned do.
-/
import Derived.Test.YtdnkmjafkpnliaaTwA
import Derived.Test.YtdnkmjafkpnliaaRev
import Derived.Test.YtdnkmjafkpnliaaLnC
namespace Go.Proofs.Ytdnkmjafkpnliaa
open Go.RowKit

def trdM (A B : List Vst) (i j k : Int) : List Vst × List Vst × Bool := if witB i ((A.length : Int) - k) && witB j ((B.length : Int) - k) then (A.take i.toNat ++ ((B.drop j.toNat).take k.toNat ++ A.drop (i.toNat + k.toNat)), B.take j.toNat ++ ((A.drop i.toNat).take k.toNat ++ B.drop (j.toNat + k.toNat)), true) else (A, B, false)
def talM (A B : List Vst) (i j : Int) : List Vst × List Vst × Bool := if witB i (A.length : Int) && (witB j (B.length : Int) && !(i == (A.length : Int) && j == (B.length : Int))) then (A.take i.toNat ++ B.drop j.toNat, B.take j.toNat ++ A.drop i.toNat, true) else (A, B, false)
def trnM (A B : List Vst) (i j : Int) : List Vst × List Vst × Bool := if witB i (A.length : Int) && (witB j (B.length : Int) && !((A.length : Int) + (B.length : Int) == 0)) then (A.take i.toNat ++ (B.take j.toNat).reverse, (A.drop i.toNat).reverse ++ B.drop j.toNat, true) else (A, B, false)
theorem at_new {W : World} {o : Obj} : (W.alloc o).heap[W.heap.size]? = some o := heap_alloc_new W o
theorem at_old {W : World} {o p : Obj} : ((W.alloc o).alloc p).heap[W.heap.size]? = some o := by rw [heap_alloc_old _ _ (by simp), heap_alloc_new]
theorem at_two {W : World} {o p : Obj} : ((W.alloc o).alloc p).heap[W.heap.size + 1]? = some p := heap_alloc2_new W o p
theorem at_newD {W : World} {o : Obj} : (W.alloc o).drew.heap[W.heap.size]? = some o := heap_alloc_new W o
theorem at_oldD {W : World} {o p : Obj} : ((W.alloc o).alloc p).drew.heap[W.heap.size]? = some o := at_old
theorem at_twoD {W : World} {o p : Obj} : ((W.alloc o).alloc p).drew.heap[W.heap.size + 1]? = some p := at_two
theorem lt_two {W : World} {o p : Obj} : W.heap.size < ((W.alloc o).alloc p).heap.size ∧ W.heap.size + 1 < ((W.alloc o).alloc p).heap.size := by simp; omega
theorem lt_twoD {W : World} {o p : Obj} : W.heap.size < ((W.alloc o).alloc p).drew.heap.size ∧ W.heap.size + 1 < ((W.alloc o).alloc p).drew.heap.size := lt_two
set_option maxRecDepth 100000 in
set_option maxHeartbeats 12800000 in
theorem trade_any {w : World} {tb : Nat} {A B : List Vst} (h : TwoV w tb A B) (hA : A.length ≤ 400) (hB : B.length ≤ 400) (i j kk : Int) (k : Nat) (hkk : kk = (k : Int)) (hk : k ≤ 2) : Calls Try.prog 48 #[.pointer (some ⟨tb, 0, none⟩), .int .i64 i, .int .i64 j, .int .i64 kk] w (ChT w tb (trdM A B i j kk)) := by
  obtain ⟨n, hn⟩ : ∃ n, A.length = n := ⟨_, rfl⟩
  obtain ⟨m, hm⟩ : ∃ m, B.length = m := ⟨_, rfl⟩
  rw [hn] at hA
  rw [hm] at hB
  obtain ⟨ad, c, ad', c', h1, sA, sB⟩ := h.open hn hm (by omega) (by omega)
  have HL := hide h
  have HBX := hide h1
  have HTB := hide h.lt
  have HA := hide sA
  have HB := hide sB
  clear h h1 sA sB
  obtain ⟨b1, hb1⟩ : ∃ b, witB i ((n : Int) - kk) = b := ⟨_, rfl⟩
  have HB1 := hide hb1
  obtain ⟨b2, hb2⟩ : ∃ b, witB j ((m : Int) - kk) = b := ⟨_, rfl⟩
  have HB2 := hide hb2
  have w0 : IntKind.i64.wrap ((n : Int) - kk) = (n : Int) - kk := by rw [IntKind.wrap_i64]; omega
  have w0' : IntKind.i64.wrap ((m : Int) - kk) = (m : Int) - kk := by rw [IntKind.wrap_i64]; omega
  cases b1 with
  | false =>
    have HR : Hid (trdM A B i j kk = (A, B, false)) := by show _ = _; unfold trdM; rw [hn, hm, hb1]; rfl
    clear hb1 hb2 hn hm hkk
    go_enter Try.func48, Try.ntmps48
    go_wp2_with (first | (go_at_call 49; refine (twithin_any _ _ _).mono ?_; rintro e w3 ⟨rfl, k3⟩; rw [HB2.out]; have K3 := hide (below_on K2.out k3); clear k3 KK; have KK := K3) | (go_at_call 49; refine (twithin_any _ _ _).mono ?_; rintro e w2 ⟨rfl, k2⟩; rw [HB1.out]; have K2 := hide (below_on K1.out k2); clear k2 KK; have KK := K2) | (go_at_call 46; refine (tkept_any HBX.out).mono ?_; rintro e w1 ⟨rfl, k1⟩; have K1 := hide k1; have KK := K1; clear k1) | fail)
    go_ret
    exact cht_no HR.out HL.out KK.out
  | true =>
    cases b2 with
    | false =>
      have HR : Hid (trdM A B i j kk = (A, B, false)) := by show _ = _; unfold trdM; rw [hn, hm, hb1, hb2]; rfl
      clear hb1 hb2 hn hm hkk
      go_enter Try.func48, Try.ntmps48
      go_wp2_with (first | (go_at_call 49; refine (twithin_any _ _ _).mono ?_; rintro e w3 ⟨rfl, k3⟩; rw [HB2.out]; have K3 := hide (below_on K2.out k3); clear k3 KK; have KK := K3) | (go_at_call 49; refine (twithin_any _ _ _).mono ?_; rintro e w2 ⟨rfl, k2⟩; rw [HB1.out]; have K2 := hide (below_on K1.out k2); clear k2 KK; have KK := K2) | (go_at_call 46; refine (tkept_any HBX.out).mono ?_; rintro e w1 ⟨rfl, k1⟩; have K1 := hide k1; have KK := K1; clear k1) | fail)
      go_ret
      exact cht_no HR.out HL.out KK.out
    | true =>
      have q1 := wit_ok hb1
      have q2 := wit_ok hb2
      obtain ⟨a, rfl⟩ : ∃ a : Nat, i = a := ⟨i.toNat, by omega⟩
      obtain ⟨b, rfl⟩ : ∃ b : Nat, j = b := ⟨j.toNat, by omega⟩
      obtain ⟨r, hr⟩ : ∃ r : Nat, a + k + r = n := ⟨n - (a + k), by omega⟩
      obtain ⟨s, hs⟩ : ∃ s : Nat, b + k + s = m := ⟨m - (b + k), by omega⟩
      obtain ⟨A1, C1, e1, p1⟩ := sl_h HA.out (y := (a : Int)) a rfl (by omega)
      obtain ⟨A2, C2, e2, p2⟩ := sl_lh HB.out (x := (b : Int)) (y := (b : Int) + kk) b k rfl (by omega) (by omega)
      obtain ⟨A3, C3, e3, p3⟩ := sl_l HA.out (x := (a : Int) + kk) (a + k) r (by omega) hr
      obtain ⟨A4, C4, e4, p4⟩ := sl_h HB.out (y := (b : Int)) b rfl (by omega)
      obtain ⟨A5, C5, e5, p5⟩ := sl_lh HA.out (x := (a : Int)) (y := (a : Int) + kk) a k rfl (by omega) (by omega)
      obtain ⟨A6, C6, e6, p6⟩ := sl_l HB.out (x := (b : Int) + kk) (b + k) s (by omega) hs
      obtain ⟨L1, hL1⟩ : ∃ L, A.take a ++ ((B.drop b).take k ++ A.drop (a + k)) = L := ⟨_, rfl⟩
      obtain ⟨L2, hL2⟩ : ∃ L, B.take b ++ ((A.drop a).take k ++ B.drop (b + k)) = L := ⟨_, rfl⟩
      have HR : Hid (trdM A B a b kk = (L1, L2, true)) := by show _ = _; unfold trdM; rw [hn, hm, hb1, hb2, ← hL1, ← hL2, hkk]; rfl
      have w1 : IntKind.i64.wrap ((a : Int) + kk) = (a : Int) + kk := by rw [IntKind.wrap_i64]; omega
      have w2 : IntKind.i64.wrap ((b : Int) + kk) = (b : Int) + kk := by rw [IntKind.wrap_i64]; omega
      have HE1 : Hid (L1.length ≤ 1000) := by show _ ≤ _; rw [← hL1, List.length_append, List.length_append, p1.len, p2.len, p3.len]; omega
      have HE2 : Hid (L2.length ≤ 1000) := by show _ ≤ _; rw [← hL2, List.length_append, List.length_append, p4.len, p5.len, p6.len]; omega
      have H50a : Hid (∀ W X, Below w.heap.size w W → W.heap[X]? = some (.cells #[.slice A1 a C1, .slice A2 k C2, .slice A3 r C3] 22) → Calls Try.prog 50 #[.slice (some ⟨X, 0, none⟩) 3 3] W fun e w' => ∃ v, e = .returned v ∧ VRow w' w.heap.size v L1 ∧ Below w.heap.size w w' ∧ Below W.heap.size W w') := fun W X hf hX => by
        have h9 := concat_all (n := 3) (c := 3) (cat_three hX (p1.on hf) (p2.on hf) (p3.on hf)) (lt_of_block hX) rfl (by simp only [catL, List.map_cons, List.map_nil, List.flatten_cons, List.flatten_nil, List.append_nil, hL1]; exact HE1.out) (by omega)
        simp only [catL, List.map_cons, List.map_nil, List.flatten_cons, List.flatten_nil, List.append_nil, hL1] at h9
        exact h9.mono fun e w' ⟨v, e1, e2, e3⟩ => ⟨v, e1, own_mono e2 hf.size, below_on hf e3, e3⟩
      have H50b : Hid (∀ W X, Below w.heap.size w W → W.heap[X]? = some (.cells #[.slice A4 b C4, .slice A5 k C5, .slice A6 s C6] 22) → Calls Try.prog 50 #[.slice (some ⟨X, 0, none⟩) 3 3] W fun e w' => ∃ v, e = .returned v ∧ VRow w' w.heap.size v L2 ∧ Below w.heap.size w w' ∧ Below W.heap.size W w') := fun W X hf hX => by
        have h9 := concat_all (n := 3) (c := 3) (cat_three hX (p4.on hf) (p5.on hf) (p6.on hf)) (lt_of_block hX) rfl (by simp only [catL, List.map_cons, List.map_nil, List.flatten_cons, List.flatten_nil, List.append_nil, hL2]; exact HE2.out) (by omega)
        simp only [catL, List.map_cons, List.map_nil, List.flatten_cons, List.flatten_nil, List.append_nil, hL2] at h9
        exact h9.mono fun e w' ⟨v, e1, e2, e3⟩ => ⟨v, e1, own_mono e2 hf.size, below_on hf e3, e3⟩
      clear hb1 hb2 hn hm q1 q2 hr hs p1 p2 p3 p4 p5 p6 hL1 hL2 hA hB hkk hk
      go_enter Try.func48, Try.ntmps48
      go_wp2_with (first | (go_at_call 49; refine (twithin_any _ _ _).mono ?_; rintro e w3 ⟨rfl, k3⟩; rw [HB2.out]; have K3 := hide (below_on K2.out k3); clear k3 KK; have KK := K3) | (go_at_call 49; refine (twithin_any _ _ _).mono ?_; rintro e w2 ⟨rfl, k2⟩; rw [HB1.out]; have K2 := hide (below_on K1.out k2); clear k2 KK; have KK := K2) | (go_at_call 46; refine (tkept_any HBX.out).mono ?_; rintro e w1 ⟨rfl, k1⟩; have K1 := hide k1; have KK := K1; clear k1) | fail)
      go_region_held3 (fun _ => True) (trivial) (first | (go_at_call 50; have hh := R1.out; clear hh; (with_reducible refine (H50b.out _ _ (low_alloc K4.out _) at_new).mono ?_); rintro e w5 ⟨v2, rfl, r2, k5, k5b⟩; obtain ⟨a5, c5, rfl, _⟩ := r2.shape; have R2 := hide r2; have R3 : Hid (VRow w5 w.heap.size (.slice a4 L1.length c4) L1) := VRow.later R1.out (Nat.le_refl _) (below_on ((Below.refl _ _).alloc (Nat.le_refl _) _) k5b); have K5 := hide k5; have HB5 := hide ((K5.out.block tb HTB.out).trans HBX.out); have x0 : w5.cell? ⟨tb, 0, none⟩ = some (.slice ad n c) := cell_of_row _ _ _ _ _ _ HB5.out; have x1 : w5.cell? ⟨tb, 1, none⟩ = some (.slice ad' m c') := cell_of_row _ _ _ _ _ _ HB5.out; have xf : w5.frozen? ⟨tb, 0, none⟩ = false := frz_row HB5.out; have xg : w5.frozen? ⟨tb, 1, none⟩ = false := frz_row HB5.out; clear r2 k5 k5b) | (go_at_call 50; have hh := R1.out; clear hh; (with_reducible refine (H50b.out _ _ K4.out ((KB.out.block _ lt_twoD.2).trans at_twoD)).mono ?_); rintro e w5 ⟨v2, rfl, r2, k5, k5b⟩; obtain ⟨a5, c5, rfl, _⟩ := r2.shape; have R2 := hide r2; have R3 : Hid (VRow w5 w.heap.size (.slice a4 L1.length c4) L1) := VRow.later R1.out (Nat.le_refl _) k5b; have K5 := hide k5; have HB5 := hide ((K5.out.block tb HTB.out).trans HBX.out); have x0 : w5.cell? ⟨tb, 0, none⟩ = some (.slice ad n c) := cell_of_row _ _ _ _ _ _ HB5.out; have x1 : w5.cell? ⟨tb, 1, none⟩ = some (.slice ad' m c') := cell_of_row _ _ _ _ _ _ HB5.out; have xf : w5.frozen? ⟨tb, 0, none⟩ = false := frz_row HB5.out; have xg : w5.frozen? ⟨tb, 1, none⟩ = false := frz_row HB5.out; clear r2 k5 k5b) | (go_at_call 50; have hh := R1.out; clear hh; (with_reducible refine (H50b.out _ _ K4.out ((KB.out.block _ lt_twoD.1).trans at_oldD)).mono ?_); rintro e w5 ⟨v2, rfl, r2, k5, k5b⟩; obtain ⟨a5, c5, rfl, _⟩ := r2.shape; have R2 := hide r2; have R3 : Hid (VRow w5 w.heap.size (.slice a4 L1.length c4) L1) := VRow.later R1.out (Nat.le_refl _) k5b; have K5 := hide k5; have HB5 := hide ((K5.out.block tb HTB.out).trans HBX.out); have x0 : w5.cell? ⟨tb, 0, none⟩ = some (.slice ad n c) := cell_of_row _ _ _ _ _ _ HB5.out; have x1 : w5.cell? ⟨tb, 1, none⟩ = some (.slice ad' m c') := cell_of_row _ _ _ _ _ _ HB5.out; have xf : w5.frozen? ⟨tb, 0, none⟩ = false := frz_row HB5.out; have xg : w5.frozen? ⟨tb, 1, none⟩ = false := frz_row HB5.out; clear r2 k5 k5b) | (go_at_call 50; (with_reducible refine (H50a.out _ _ (by repeat (first | (with_reducible exact KK.out) | (with_reducible refine low_drew ?_) | (with_reducible refine low_alloc ?_ _))) at_newD).mono ?_); rintro e w4 ⟨v1, rfl, r1, k4, k4b⟩; obtain ⟨a4, c4, rfl, _⟩ := r1.shape; have R1 := hide r1; have KB := hide k4b; have K4 := hide k4; clear r1 k4 k4b) | (go_at_call 50; (with_reducible refine (H50a.out _ _ (by repeat (first | (with_reducible exact KK.out) | (with_reducible refine low_drew ?_) | (with_reducible refine low_alloc ?_ _))) at_oldD).mono ?_); rintro e w4 ⟨v1, rfl, r1, k4, k4b⟩; obtain ⟨a4, c4, rfl, _⟩ := r1.shape; have R1 := hide r1; have KB := hide k4b; have K4 := hide k4; clear r1 k4 k4b) | (go_at_call 50; (with_reducible refine (H50a.out _ _ (by repeat (first | (with_reducible exact KK.out) | (with_reducible refine low_drew ?_) | (with_reducible refine low_alloc ?_ _))) at_twoD).mono ?_); rintro e w4 ⟨v1, rfl, r1, k4, k4b⟩; obtain ⟨a4, c4, rfl, _⟩ := r1.shape; have R1 := hide r1; have KB := hide k4b; have K4 := hide k4; clear r1 k4 k4b) | fail)
      all_goals
        rename_i hHeld
        clear hHeld
        go_wp2_with fail
        go_ret
        exact two_yes HB5.out HTB.out K5.out R3.out R2.out HR.out
set_option maxRecDepth 100000 in
set_option maxHeartbeats 6400000 in
theorem texchange_any {w : World} {tb : Nat} {A B : List Vst} (h : TwoV w tb A B) (hA : A.length ≤ 400) (hB : B.length ≤ 400) (i j k : Int) : Calls Try.prog 26 #[.pointer (some ⟨tb, 0, none⟩), .int .i64 i, .int .i64 j, .int .i64 k] w (ChT w tb (trdM A B i j 1)) := by
  have H48 := hide (trade_any h hA hB i j 1 1 rfl (by omega))
  clear h hA hB
  go_enter Try.func26, Try.ntmps26
  go_wp2_with (first | (go_at_call 48; refine H48.out.mono ?_; rintro e w1 ⟨rfl, k1, k2⟩; have K1 := hide k1; have K2 := hide k2; clear k1 k2) | fail)
  go_ret
  exact ⟨rfl, K1.out, K2.out⟩
set_option maxRecDepth 100000 in
set_option maxHeartbeats 6400000 in
theorem tcross_any {w : World} {tb : Nat} {A B : List Vst} (h : TwoV w tb A B) (hA : A.length ≤ 400) (hB : B.length ≤ 400) (i j k : Int) : Calls Try.prog 27 #[.pointer (some ⟨tb, 0, none⟩), .int .i64 i, .int .i64 j, .int .i64 k] w (ChT w tb (trdM A B i j 2)) := by
  have H48 := hide (trade_any h hA hB i j 2 2 rfl (by omega))
  clear h hA hB
  go_enter Try.func27, Try.ntmps27
  go_wp2_with (first | (go_at_call 48; refine H48.out.mono ?_; rintro e w1 ⟨rfl, k1, k2⟩; have K1 := hide k1; have K2 := hide k2; clear k1 k2) | fail)
  go_ret
  exact ⟨rfl, K1.out, K2.out⟩
end Go.Proofs.Ytdnkmjafkpnliaa
