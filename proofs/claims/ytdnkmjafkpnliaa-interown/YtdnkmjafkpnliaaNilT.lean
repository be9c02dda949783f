/-
  What a nil Two answers; what the law InterOwn does.
-/
import Derived.Test.YtdnkmjafkpnliaaPlS
import Derived.Deep.RegionHeld3
namespace Go.Proofs.Ytdnkmjafkpnliaa
open Go.RowKit

theorem wit_low {i l : Int} (h : l < 0) : witB i l = false := by
  unfold witB
  by_cases h0 : 0 ≤ i
  · rw [decide_eq_false (p := i ≤ l) (by omega), Bool.and_false]
  · rw [decide_eq_false h0]; rfl
theorem whF_nil (i : Int) : whF [] i = none := by
  unfold whF
  rw [if_neg]
  rw [wit_low (by simp)]
  simp
set_option maxRecDepth 100000 in
set_option maxHeartbeats 6400000 in
theorem trade_nil (w : World) (i j : Int) (kk : Nat) (hk : 1 ≤ kk ∧ kk ≤ 2) : Calls Try.prog 48 #[.pointer none, .int .i64 i, .int .i64 j, .int .i64 (kk : Int)] w fun e w' => e = .returned (.bool false) ∧ Below w.heap.size w w' := by
  have w0 : IntKind.i64.wrap (-(kk : Int)) = -(kk : Int) := by rw [IntKind.wrap_i64]; omega
  have w1' : IntKind.i64.wrap (0 - (kk : Int)) = -(kk : Int) := by rw [IntKind.wrap_i64]; omega
  have HB1 : Hid (witB i (-(kk : Int)) = false) := wit_low (by omega)
  go_enter Try.func48, Try.ntmps48
  go_wp2_with (first | (go_at_call 49; refine (twithin_any _ _ _).mono ?_; rintro e w2 ⟨rfl, k2⟩; rw [HB1.out]; have K2 := hide (below_on K1.out k2); clear k2 KK; have KK := K2) | (go_at_call 46; refine (tkept_nil _).mono ?_; rintro e w1 ⟨rfl, k1⟩; have K1 := hide k1; have KK := K1; clear k1) | fail)
  go_ret
  exact ⟨rfl, KK.out⟩
set_option maxRecDepth 100000 in
set_option maxHeartbeats 6400000 in
theorem texchange_nil (w : World) (i j k : Int) : Calls Try.prog 26 #[.pointer none, .int .i64 i, .int .i64 j, .int .i64 k] w fun e w' => e = .returned (.bool false) ∧ Below w.heap.size w w' := by
  have H48 := hide (trade_nil w i j 1 (by omega))
  go_enter Try.func26, Try.ntmps26
  go_wp2_with (first | (go_at_call 48; refine H48.out.mono ?_; rintro e w1 ⟨rfl, k1⟩; have KK := hide k1; clear k1) | fail)
  go_ret
  exact ⟨rfl, KK.out⟩
set_option maxRecDepth 100000 in
set_option maxHeartbeats 6400000 in
theorem tcross_nil (w : World) (i j k : Int) : Calls Try.prog 27 #[.pointer none, .int .i64 i, .int .i64 j, .int .i64 k] w fun e w' => e = .returned (.bool false) ∧ Below w.heap.size w w' := by
  have H48 := hide (trade_nil w i j 2 (by omega))
  go_enter Try.func27, Try.ntmps27
  go_wp2_with (first | (go_at_call 48; refine H48.out.mono ?_; rintro e w1 ⟨rfl, k1⟩; have KK := hide k1; clear k1) | fail)
  go_ret
  exact ⟨rfl, KK.out⟩
set_option maxRecDepth 100000 in
set_option maxHeartbeats 6400000 in
theorem tails_nil (w : World) (i j k : Int) : Calls Try.prog 28 #[.pointer none, .int .i64 i, .int .i64 j, .int .i64 k] w fun e w' => e = .returned (.bool false) ∧ Below w.heap.size w w' := by
  obtain ⟨b1, hb1⟩ : ∃ b, witB i 0 = b := ⟨_, rfl⟩
  have HB1 := hide hb1
  obtain ⟨b2, hb2⟩ : ∃ b, witB j 0 = b := ⟨_, rfl⟩
  have HB2 := hide hb2
  cases b1 with
  | false =>
    clear hb1 hb2
    go_enter Try.func28, Try.ntmps28
    go_wp2_with (first | (go_at_call 49; refine (twithin_any _ _ _).mono ?_; rintro e w2 ⟨rfl, k2⟩; rw [HB1.out]; have K2 := hide (below_on K1.out k2); clear k2 KK; have KK := K2) | (go_at_call 46; refine (tkept_nil _).mono ?_; rintro e w1 ⟨rfl, k1⟩; have K1 := hide k1; have KK := K1; clear k1) | fail)
    go_ret
    exact ⟨rfl, KK.out⟩
  | true =>
    cases b2 with
    | false =>
      clear hb1 hb2
      go_enter Try.func28, Try.ntmps28
      go_wp2_with (first | (go_at_call 49; refine (twithin_any _ _ _).mono ?_; rintro e w3 ⟨rfl, k3⟩; rw [HB2.out]; have K3 := hide (below_on K2.out k3); clear k3 KK; have KK := K3) | (go_at_call 49; refine (twithin_any _ _ _).mono ?_; rintro e w2 ⟨rfl, k2⟩; rw [HB1.out]; have K2 := hide (below_on K1.out k2); clear k2 KK; have KK := K2) | (go_at_call 46; refine (tkept_nil _).mono ?_; rintro e w1 ⟨rfl, k1⟩; have K1 := hide k1; have KK := K1; clear k1) | fail)
      go_ret
      exact ⟨rfl, KK.out⟩
    | true =>
      have q1 := wit_ok hb1
      have q2 := wit_ok hb2
      have i0 : i = 0 := by omega
      have j0 : j = 0 := by omega
      subst i0 j0
      clear hb1 hb2 q1 q2
      go_enter Try.func28, Try.ntmps28
      go_wp2_with (first | (go_at_call 49; refine (twithin_any _ _ _).mono ?_; rintro e w3 ⟨rfl, k3⟩; rw [HB2.out]; have K3 := hide (below_on K2.out k3); clear k3 KK; have KK := K3) | (go_at_call 49; refine (twithin_any _ _ _).mono ?_; rintro e w2 ⟨rfl, k2⟩; rw [HB1.out]; have K2 := hide (below_on K1.out k2); clear k2 KK; have KK := K2) | (go_at_call 46; refine (tkept_nil _).mono ?_; rintro e w1 ⟨rfl, k1⟩; have K1 := hide k1; have KK := K1; clear k1) | fail)
      go_ret
      exact ⟨rfl, KK.out⟩
set_option maxRecDepth 100000 in
set_option maxHeartbeats 6400000 in
theorem tturned_nil (w : World) (i j k : Int) : Calls Try.prog 44 #[.pointer none, .int .i64 i, .int .i64 j, .int .i64 k] w fun e w' => e = .returned (.bool false) ∧ Below w.heap.size w w' := by
  obtain ⟨b1, hb1⟩ : ∃ b, witB i 0 = b := ⟨_, rfl⟩
  have HB1 := hide hb1
  obtain ⟨b2, hb2⟩ : ∃ b, witB j 0 = b := ⟨_, rfl⟩
  have HB2 := hide hb2
  cases b1 with
  | false =>
    clear hb1 hb2
    go_enter Try.func44, Try.ntmps44
    go_wp2_with (first | (go_at_call 49; refine (twithin_any _ _ _).mono ?_; rintro e w2 ⟨rfl, k2⟩; rw [HB1.out]; have K2 := hide (below_on K1.out k2); clear k2 KK; have KK := K2) | (go_at_call 46; refine (tkept_nil _).mono ?_; rintro e w1 ⟨rfl, k1⟩; have K1 := hide k1; have KK := K1; clear k1) | fail)
    go_ret
    exact ⟨rfl, KK.out⟩
  | true =>
    cases b2 with
    | false =>
      clear hb1 hb2
      go_enter Try.func44, Try.ntmps44
      go_wp2_with (first | (go_at_call 49; refine (twithin_any _ _ _).mono ?_; rintro e w3 ⟨rfl, k3⟩; rw [HB2.out]; have K3 := hide (below_on K2.out k3); clear k3 KK; have KK := K3) | (go_at_call 49; refine (twithin_any _ _ _).mono ?_; rintro e w2 ⟨rfl, k2⟩; rw [HB1.out]; have K2 := hide (below_on K1.out k2); clear k2 KK; have KK := K2) | (go_at_call 46; refine (tkept_nil _).mono ?_; rintro e w1 ⟨rfl, k1⟩; have K1 := hide k1; have KK := K1; clear k1) | fail)
      go_ret
      exact ⟨rfl, KK.out⟩
    | true =>
      have q1 := wit_ok hb1
      have q2 := wit_ok hb2
      have i0 : i = 0 := by omega
      have j0 : j = 0 := by omega
      subst i0 j0
      clear hb1 hb2 q1 q2
      go_enter Try.func44, Try.ntmps44
      go_wp2_with (first | (go_at_call 49; refine (twithin_any _ _ _).mono ?_; rintro e w3 ⟨rfl, k3⟩; rw [HB2.out]; have K3 := hide (below_on K2.out k3); clear k3 KK; have KK := K3) | (go_at_call 49; refine (twithin_any _ _ _).mono ?_; rintro e w2 ⟨rfl, k2⟩; rw [HB1.out]; have K2 := hide (below_on K1.out k2); clear k2 KK; have KK := K2) | (go_at_call 46; refine (tkept_nil _).mono ?_; rintro e w1 ⟨rfl, k1⟩; have K1 := hide k1; have KK := K1; clear k1) | fail)
      go_ret
      exact ⟨rfl, KK.out⟩
set_option maxRecDepth 100000 in
set_option maxHeartbeats 6400000 in
theorem trelocate_nil (w : World) (i j k : Int) : Calls Try.prog 43 #[.pointer none, .int .i64 i, .int .i64 j, .int .i64 k] w fun e w' => e = .returned (.bool false) ∧ Below w.heap.size w w' := by
  go_enter Try.func43, Try.ntmps43
  go_wp2_with (first | (go_at_call 59; (with_reducible refine (whole_no (nil_sl _) (by omega) (whF_nil _)).mono ?_); rintro e w2 ⟨rfl, k2⟩; have K2 := hide (below_on K1.out k2); clear k2 KK; have KK := K2) | (go_at_call 46; refine (tkept_nil _).mono ?_; rintro e w1 ⟨rfl, k1⟩; have K1 := hide k1; have KK := K1; clear k1) | fail)
  go_ret
  exact ⟨rfl, KK.out⟩
set_option maxRecDepth 100000 in
set_option maxHeartbeats 6400000 in
theorem tswap_nil (w : World) (i j k : Int) : Calls Try.prog 45 #[.pointer none, .int .i64 i, .int .i64 j, .int .i64 k] w fun e w' => e = .returned (.bool false) ∧ Below w.heap.size w w' := by
  go_enter Try.func45, Try.ntmps45
  go_wp2_with (first | (go_at_call 59; have hh := K2.out; clear hh; (with_reducible refine (whole_no (nil_sl _) (by omega) (whF_nil _)).mono ?_); rintro e w3 ⟨rfl, k3⟩; have K3 := hide (below_on K2.out k3); clear k3 KK; have KK := K3) | (go_at_call 59; (with_reducible refine (whole_no (nil_sl _) (by omega) (whF_nil _)).mono ?_); rintro e w2 ⟨rfl, k2⟩; have K2 := hide (below_on K1.out k2); clear k2 KK; have KK := K2) | (go_at_call 46; refine (tkept_nil _).mono ?_; rintro e w1 ⟨rfl, k1⟩; have K1 := hide k1; have KK := K1; clear k1) | fail)
  go_ret
  exact ⟨rfl, KK.out⟩
set_option maxRecDepth 100000 in
set_option maxHeartbeats 12800000 in
theorem tplay_nil (w : World) (c : Nat) (hc : c < 6) (i j k : Int) : Calls Try.prog 22 #[.pointer none, .int .i64 (c : Int), .int .i64 i, .int .i64 j, .int .i64 k] w fun e w' => e = .returned (.bool false) ∧ Below w.heap.size w w' := by
  rcases (show c = 0 ∨ c = 1 ∨ c = 2 ∨ c = 3 ∨ c = 4 ∨ c = 5 by omega) with rfl | rfl | rfl | rfl | rfl | rfl
  · go_enter Try.func22, Try.ntmps22
    go_wp2_with (first | (go_at_call 43; refine (trelocate_nil _ _ _ _).mono ?_; rintro e w1 ⟨rfl, k1⟩; have KK := hide k1; clear k1) | fail)
    go_ret
    exact ⟨rfl, KK.out⟩
  · go_enter Try.func22, Try.ntmps22
    go_wp2_with (first | (go_at_call 26; refine (texchange_nil _ _ _ _).mono ?_; rintro e w1 ⟨rfl, k1⟩; have KK := hide k1; clear k1) | fail)
    go_ret
    exact ⟨rfl, KK.out⟩
  · go_enter Try.func22, Try.ntmps22
    go_wp2_with (first | (go_at_call 27; refine (tcross_nil _ _ _ _).mono ?_; rintro e w1 ⟨rfl, k1⟩; have KK := hide k1; clear k1) | fail)
    go_ret
    exact ⟨rfl, KK.out⟩
  · go_enter Try.func22, Try.ntmps22
    go_wp2_with (first | (go_at_call 28; refine (tails_nil _ _ _ _).mono ?_; rintro e w1 ⟨rfl, k1⟩; have KK := hide k1; clear k1) | fail)
    go_ret
    exact ⟨rfl, KK.out⟩
  · go_enter Try.func22, Try.ntmps22
    go_wp2_with (first | (go_at_call 44; refine (tturned_nil _ _ _ _).mono ?_; rintro e w1 ⟨rfl, k1⟩; have KK := hide k1; clear k1) | fail)
    go_ret
    exact ⟨rfl, KK.out⟩
  · go_enter Try.func22, Try.ntmps22
    go_wp2_with (first | (go_at_call 45; refine (tswap_nil _ _ _ _).mono ?_; rintro e w1 ⟨rfl, k1⟩; have KK := hide k1; clear k1) | fail)
    go_ret
    exact ⟨rfl, KK.out⟩
end Go.Proofs.Ytdnkmjafkpnliaa
