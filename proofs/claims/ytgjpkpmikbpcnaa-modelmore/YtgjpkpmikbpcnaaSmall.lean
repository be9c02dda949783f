/-
  What the small calls do: within, below, number, priority, Valid, place, amount, open, stop, rest, and the document's up, windows and stop.
-/
import Derived.Test.YtgjpkpmikbpcnaaChkA
namespace Go.Proofs.Ytgjpkpmikbpcnaa
open Go.RowKit

set_option maxHeartbeats 800000 in
theorem within_any (x l m : Int) (w : World) : Calls Try.prog 88 #[.int .i64 x, .int .i64 l, .int .i64 m] w fun e w' => e = .returned (.bool (inB x l m)) ∧ w' = w := by
  by_cases h1 : l ≤ x
  · by_cases h2 : x ≤ m
    · rw [inB_yes h1 h2]
      go_enter Try.func88, Try.ntmps88
      go_wp2
      go_ret
      exact ⟨rfl, rfl⟩
    · rw [inB_hi h2]
      go_enter Try.func88, Try.ntmps88
      go_wp2
      go_ret
      exact ⟨rfl, rfl⟩
  · rw [inB_lo h1]
    go_enter Try.func88, Try.ntmps88
    go_wp2
    go_ret
    exact ⟨rfl, rfl⟩
set_option maxHeartbeats 800000 in
theorem below_any (x m : Int) (w : World) : Calls Try.prog 58 #[.int .i64 x, .int .i64 m] w fun e w' => e = .returned (.bool (upB x (m - 1))) ∧ w' = w := by
  by_cases h1 : 0 ≤ x
  · by_cases h2 : x < m
    · rw [upB_yes h1 (by omega)]
      go_enter Try.func58, Try.ntmps58
      go_wp2
      go_ret
      exact ⟨rfl, rfl⟩
    · rw [upB_hi (by omega)]
      go_enter Try.func58, Try.ntmps58
      go_wp2
      go_ret
      exact ⟨rfl, rfl⟩
  · rw [upB_lo h1]
    go_enter Try.func58, Try.ntmps58
    go_wp2
    go_ret
    exact ⟨rfl, rfl⟩
set_option maxHeartbeats 800000 in
theorem up_any (x m : Int) (w : World) : Calls Try.prog 59 #[.int .i64 x, .int .i64 m] w fun e w' => e = .returned (.bool (upB x m)) ∧ w' = w := by
  by_cases h1 : 0 ≤ x
  · by_cases h2 : x ≤ m
    · rw [upB_yes h1 h2]
      go_enter Try.func59, Try.ntmps59
      go_wp2
      go_ret
      exact ⟨rfl, rfl⟩
    · rw [upB_hi h2]
      go_enter Try.func59, Try.ntmps59
      go_wp2
      go_ret
      exact ⟨rfl, rfl⟩
  · rw [upB_lo h1]
    go_enter Try.func59, Try.ntmps59
    go_wp2
    go_ret
    exact ⟨rfl, rfl⟩
set_option maxHeartbeats 800000 in
theorem number_any (x : Int) (w : World) : Calls Try.prog 93 #[.int .i64 x] w fun e w' => e = .returned (.bool (upB x 1000000)) ∧ w' = w := by
  go_enter Try.func93, Try.ntmps93
  go_wp2_with (go_at_call 88; refine (within_any _ _ _ _).mono ?_; rintro e w' ⟨rfl, rfl⟩)
  go_ret
  exact ⟨rfl, rfl⟩
set_option maxHeartbeats 800000 in
theorem priority_any (x : Int) (w : World) : Calls Try.prog 97 #[.int .i64 x] w fun e w' => e = .returned (.bool (upB x 100)) ∧ w' = w := by
  go_enter Try.func97, Try.ntmps97
  go_wp2_with (go_at_call 88; refine (within_any _ _ _ _).mono ?_; rintro e w' ⟨rfl, rfl⟩)
  go_ret
  exact ⟨rfl, rfl⟩
theorem shr62 {x : Int} (h : Wd x) : (x / 4611686018427387904 == 0) = sklB x := by
  obtain ⟨h0, h1⟩ := h
  unfold sklB
  by_cases hx : x < 4611686018427387904
  · rw [decide_eq_true hx]; simp; omega
  · rw [decide_eq_false hx]; simp; omega
set_option maxHeartbeats 800000 in
theorem valid_any {x : Int} (h : Wd x) (w : World) : Calls Try.prog 91 #[.int .u64 x] w fun e w' => e = .returned (.bool (sklB x)) ∧ w' = w := by
  have HX := hide (shr62 h)
  have h0 := h.1
  have h1 := h.2
  clear h
  go_enter Try.func91, Try.ntmps91
  go_wp2
  go_ret
  exact ⟨by rw [← HX.out]; rfl, rfl⟩
set_option maxHeartbeats 800000 in
theorem place_any (n d x : Int) (w : World) : Calls Try.prog 89 #[.agg #[.int .i64 n, .int .i64 d], .int .i64 x] w fun e w' => e = .returned (.bool (upB x (n - 1))) ∧ Below w.heap.size w w' := by
  go_enter Try.func89, Try.ntmps89
  go_wp2_with (go_at_call 58; refine (below_any _ _ _).mono ?_; rintro e w' ⟨rfl, rfl⟩)
  go_ret
  exact ⟨rfl, (Below.refl _ _).alloc (Nat.le_refl _) _⟩
set_option maxHeartbeats 800000 in
theorem amount_any {w : World} (n d : Int) {v : Value} {L : List Int} (h : IntsV w v L) : Calls Try.prog 90 #[.agg #[.int .i64 n, .int .i64 d], v] w fun e w' => e = .returned (.bool (amtB L d)) ∧ Below w.heap.size w w' := by
  obtain ⟨a, c, rfl, _, hl, hA⟩ := h
  have HA := hide hA
  obtain ⟨m, hm⟩ : ∃ m, L.length = m := ⟨_, rfl⟩
  have HM := hide hm
  rw [hm] at hl ⊢
  obtain ⟨z, hz⟩ : ∃ z, checkE L d = z := ⟨_, rfl⟩
  have HZ := hide hz
  unfold amtB
  rw [hz]
  have hd : (z == 0) = decide (z = 0) := by by_cases e : z = 0 <;> simp [e]
  clear hA hm hz
  go_enter Try.func90, Try.ntmps90
  go_wp2_with (go_at_call 121; refine (lcheck_any _ (HA.out.alloc _) HM.out (by omega)).mono ?_; rintro e w' ⟨rfl, rfl⟩; rw [HZ.out])
  go_ret
  exact ⟨rfl, (Below.refl _ _).alloc (Nat.le_refl _) _⟩
set_option maxHeartbeats 800000 in
theorem open_any {w : World} {v : Value} {L : List Win} (h : WinsV w v L) : Calls Try.prog 92 #[v] w fun e w' => e = .returned (.bool (winB L)) ∧ Below w.heap.size w w' := by
  obtain ⟨a, c, rfl, _, hA⟩ := h
  obtain ⟨y, hy⟩ : ∃ y, (chk L).1 = y := ⟨_, rfl⟩
  obtain ⟨z, hz⟩ : ∃ z, (chk L).2 = z := ⟨_, rfl⟩
  have HC := hide (hcheck_any (c := c) hA)
  rw [hy, hz] at HC
  unfold winB
  rw [hz]
  have hd : (z == 0) = decide (z = 0) := by by_cases e : z = 0 <;> simp [e]
  clear hA hy hz
  go_enter Try.func92, Try.ntmps92
  go_wp2_with (go_at_call 122; refine HC.out.mono ?_; rintro e w' ⟨rfl, hb⟩; have HB := hide hb; clear hb)
  go_ret
  exact ⟨rfl, HB.out⟩
set_option maxHeartbeats 800000 in
theorem rwins_any {w : World} {v : Value} {L : List Win} (h : WinsV w v L) : Calls Try.prog 118 #[v] w fun e w' => e = .returned (.bool (winB L)) ∧ Below w.heap.size w w' := by
  obtain ⟨a, c, rfl, _, hA⟩ := h
  obtain ⟨y, hy⟩ : ∃ y, (chk L).1 = y := ⟨_, rfl⟩
  obtain ⟨z, hz⟩ : ∃ z, (chk L).2 = z := ⟨_, rfl⟩
  have HC := hide (rwindows_any (c := c) hA)
  rw [hy, hz] at HC
  unfold winB
  rw [hz]
  have hd : (z == 0) = decide (z = 0) := by by_cases e : z = 0 <;> simp [e]
  clear hA hy hz
  go_enter Try.func118, Try.ntmps118
  go_wp2_with (go_at_call 132; refine HC.out.mono ?_; rintro e w' ⟨rfl, q, hb⟩; have HB := hide hb; clear hb)
  go_ret
  exact ⟨rfl, by rw [HB.out]; exact below_drewN (Below.refl _ _) q⟩
set_option maxRecDepth 100000 in
set_option maxHeartbeats 1600000 in
theorem stop_any {w : World} (n d : Int) {x : Value} {s : Stp} (h : WinsV w x s.wins) : Calls Try.prog 96 #[.agg #[.int .i64 n, .int .i64 d], .agg #[.int .i64 s.place, .int .i64 s.serv, x]] w fun e w' => e = .returned (.bool (stpB n s)) ∧ Below w.heap.size w w' := by
  have HA := hide h
  have HB0 : Hid (∀ A B, Below w.heap.size w ((w.alloc A).alloc B)) := fun A B => ((Below.refl _ _).alloc (Nat.le_refl _) A).alloc (by simp) B
  unfold stpB
  obtain ⟨s1, s2, s3⟩ := s
  simp only at HA ⊢
  clear h
  obtain ⟨b1, h1⟩ : ∃ b, upB s1 (n - 1) = b := ⟨_, rfl⟩
  obtain ⟨b2, h2⟩ : ∃ b, upB s2 1000000 = b := ⟨_, rfl⟩
  obtain ⟨b3, h3⟩ : ∃ b, winB s3 = b := ⟨_, rfl⟩
  have H1 := hide h1
  have H2 := hide h2
  have H3 := hide h3
  rw [h1, h2, h3]
  clear h1 h2 h3
  cases b1
  all_goals cases b2
  all_goals
    go_enter Try.func96, Try.ntmps96
    go_wp2_with (first
      | (go_at_call 92; refine (open_any (HA.out.on (below_on (HB0.out _ _) K1.out))).mono ?_; rintro e w2 ⟨rfl, k2⟩; rw [H3.out]; have K2 := hide (below_on K1.out k2); clear k2)
      | (go_at_call 93; refine (number_any _ _).mono ?_; rintro e w' ⟨rfl, rfl⟩; rw [H2.out])
      | (go_at_call 89; refine (place_any _ _ _ _).mono ?_; rintro e w1 ⟨rfl, k1⟩; rw [H1.out]; obtain ⟨hc1, hf1⟩ := bcell k1; have K1 := hide k1; clear k1))
    go_ret
    first
      | exact ⟨by simp, below_on (HB0.out _ _) K2.out⟩
      | exact ⟨by simp, below_on (HB0.out _ _) K1.out⟩
end Go.Proofs.Ytgjpkpmikbpcnaa
