/-
  What the calls of json.sixteen and the reader's four, escaped, coded, escape do.
-/
import Derived.Test.YtpffhckimilppaaDoorJScanB
namespace Go.Proofs.YtpffhckimilppaaDoor.Js
open Go.RowKit

set_option maxRecDepth 100000 in
set_option maxHeartbeats 800000 in
theorem sixteen_any (c : Nat) (hc : c < 256) (w : World) : Calls Tryd.prog 90 #[.int .u8 c] w fun e w' => e = .returned (.int .i32 (sixteenM c)) ∧ w' = w := by
  have hc' : (c : Int) < 256 := by omega
  cases h0 : digN c
  · by_cases h1 : 97 ≤ c ∧ c ≤ 102
    · have g1 : (97 : Int) ≤ (c : Int) := by omega
      have g2 : (c : Int) ≤ 102 := by omega
      have HF : Hid (sixteenM c = (c : Int) - 87) := by show _ = _; simp [sixteenM, h0, h1]
      clear h1
      go_enter Tryd.func90, Tryd.ntmps90
      go_wp2_with (go_at_call 58; refine (digit_any _ _).mono ?_; rintro e w' ⟨rfl, rfl⟩)
      go_ret
      exact ⟨by rw [HF.out]; go_num, rfl⟩
    · by_cases h2 : 65 ≤ c ∧ c ≤ 70
      · have g1 : ¬ (97 : Int) ≤ (c : Int) := by omega
        have g2 : (65 : Int) ≤ (c : Int) := by omega
        have g3 : (c : Int) ≤ 70 := by omega
        have HF : Hid (sixteenM c = (c : Int) - 55) := by show _ = _; simp [sixteenM, h0, h1, h2]
        clear h1 h2
        go_enter Tryd.func90, Tryd.ntmps90
        go_wp2_with (go_at_call 58; refine (digit_any _ _).mono ?_; rintro e w' ⟨rfl, rfl⟩)
        go_ret
        exact ⟨by rw [HF.out]; go_num, rfl⟩
      · have HF : Hid (sixteenM c = -1) := by show _ = _; simp [sixteenM, h0, h1, h2]
        have hh : (c : Int) < 65 ∨ ((70 : Int) < c ∧ (c : Int) < 97) ∨ (102 : Int) < c := by omega
        clear h1 h2
        rcases hh with g1 | ⟨g1, g2⟩ | g1
        all_goals
          go_enter Tryd.func90, Tryd.ntmps90
          go_wp2_with (go_at_call 58; refine (digit_any _ _).mono ?_; rintro e w' ⟨rfl, rfl⟩)
          go_ret
          exact ⟨by rw [HF.out]; rfl, rfl⟩
  · have HF : Hid (sixteenM c = (c : Int) - 48) := by show _ = _; simp [sixteenM, h0]
    have hd : 48 ≤ c ∧ c ≤ 57 := by simpa [digN] using h0
    have g1 : (48 : Int) ≤ (c : Int) := by omega
    have g2 : (c : Int) ≤ 57 := by omega
    clear hd
    go_enter Tryd.func90, Tryd.ntmps90
    go_wp2_with (go_at_call 58; refine (digit_any _ _).mono ?_; rintro e w' ⟨rfl, rfl⟩)
    go_ret
    exact ⟨by rw [HF.out]; go_num, rfl⟩

theorem sixteenM_bd (c : Nat) : -1 ≤ sixteenM c ∧ sixteenM c ≤ 15 := by
  unfold sixteenM digN
  split
  · rename_i h; simp at h; omega
  · split
    · omega
    · split <;> omega

section
variable {B : List UInt8} {R tb toff cap : Nat} {w0 w : World} {a d : Nat} {v : Value}

set_option maxHeartbeats 1600000 in
theorem four_any (E : Env B R tb toff cap w0) (h : Sc B R tb toff cap w0 w a d v) (f : Nat) :
    Calls Tryd.prog 88 #[.pointer (some ⟨R, 0, none⟩), .int .i64 f] w (DoneS B R tb toff cap w0 w d v runev (hexM B f 4 0 a)) := by
  have hl := E.len
  have HE : Hid (Env B R tb toff cap w0) := E
  clear E
  go_enter Tryd.func88, Tryd.ntmps88
  go_wp2
  go_loopw [5, 7] (fun l i wr => ∃ k n p : Nat, k ≤ 4 ∧ i = .int .i64 k ∧ l = .int .i32 n ∧ n < 16 ^ k ∧ hexM B f (4 - k) n p = hexM B f 4 0 a ∧ Sc B R tb toff cap w0 wr p d v ∧ Fr R none w wr) (fun _ i _ => 4 - (intOf i).toNat)
  case atStart => exact ⟨0, 0, a, by omega, rfl, rfl, by omega, rfl, h, Fr.refl _ _ _⟩
  case round =>
    obtain ⟨k, n, p, hk, rfl, rfl, hn, hw, hs, hf⟩ := hrel
    have HW : Hid (hexM B f (4 - k) n p = hexM B f 4 0 a) := hw
    clear hw
    have hn' : n < 65536 := by
      have : 16 ^ k ≤ 16 ^ 4 := Nat.pow_le_pow_right (by omega) hk
      omega
    by_cases hlt : k < 4
    · have hn4 : n < 4096 := by
        have : 16 ^ k ≤ 16 ^ 3 := Nat.pow_le_pow_right (by omega) (by omega)
        omega
      have HD : Hid (hexM B f (4 - k) n p = if p < B.length then (if sixteenM (byteAt B p) < 0 then .bad f 24 else hexM B f (4 - (k + 1)) (16 * n + (sixteenM (byteAt B p)).toNat) (p + 1)) else .bad p 21) := by
        show _ = _
        rw [show 4 - k = (4 - (k + 1)) + 1 by omega]; rfl
      have HP : Hid (n < 16 ^ k) := hn
      clear hn
      by_cases hp : p < B.length
      · obtain ⟨z, hz⟩ : ∃ z, Hid (sixteenM (byteAt B p) = z) := ⟨_, rfl⟩
        have hzb := sixteenM_bd (byteAt B p)
        rw [hz.out] at hzb
        obtain ⟨hz1, hz2⟩ := hzb
        have H16 : Hid (∀ w, Calls Tryd.prog 90 #[.int .u8 (byteAt B p)] w fun e w' => e = .returned (.int .i32 z) ∧ w' = w) := by
          intro w; rw [← hz.out]; exact sixteen_any _ (byteAt_lt _ _) w
        have c1 := hs.rd.c1; have f1 := hs.rd.f 1
        by_cases hneg : z < 0
        · have HN : Hid (hexM B f 4 0 a = .bad f 24) := by show _ = _; rw [← HW.out, HD.out, if_pos hp, hz.out, if_pos hneg]
          go_wp2_with (first | (go_at_call 55; refine (peek_ok HE.out hs hp).mono ?_; rintro e w1 ⟨rfl, m, rfl⟩) | (go_at_call 90; refine (H16.out _).mono ?_; rintro e w' ⟨rfl, rfl⟩) | (go_at_call 43; refine (fail_any _ _ _).mono ?_; rintro e w' ⟨rfl, rfl⟩))
          refine ⟨rfl, ?_⟩
          rw [HN.out]
          exact ⟨rfl, hf.drewN _⟩
        · have HN : Hid (hexM B f (4 - (k + 1)) (16 * n + z.toNat) (p + 1) = hexM B f 4 0 a) := by show _ = _; rw [← HW.out, HD.out, if_pos hp, hz.out, if_neg hneg]
          go_wp2_with (first | (go_at_call 55; refine (peek_ok HE.out hs hp).mono ?_; rintro e w1 ⟨rfl, m, rfl⟩) | (go_at_call 90; refine (H16.out _).mono ?_; rintro e w' ⟨rfl, rfl⟩))
          go_roundw
          case rel => exact ⟨k + 1, 16 * n + z.toNat, p + 1, by omega, by go_num, by go_num, by have := HP.out; rw [Nat.pow_succ]; omega, HN.out, (hs.drewN m).stepZ (by omega) (by omega), (hf.drewN m).setR _ _⟩
          case measure => simp [intOf]; omega
      · have HN : Hid (hexM B f 4 0 a = .bad p 21) := by show _ = _; rw [← HW.out, HD.out, if_neg hp]
        go_wp2_with (go_at_call 55; refine (peek_end HE.out hs hp).mono ?_; rintro e w1 ⟨rfl, m, rfl⟩)
        refine ⟨rfl, ?_⟩
        rw [HN.out]
        exact ⟨rfl, hf.drewN _⟩
    · obtain rfl : k = 4 := by omega
      have HN : Hid (hexM B f 4 0 a = .ok n p) := by show _ = _; rw [← HW.out]; rfl
      clear hn
      go_wp2
      go_ret
      rw [HN.out]
      exact ⟨rfl, hs, hf⟩

set_option maxHeartbeats 1600000 in
theorem escaped_any (E : Env B R tb toff cap w0) (h : Sc B R tb toff cap w0 w a d v) :
    Calls Tryd.prog 89 #[.pointer (some ⟨R, 0, none⟩)] w fun e w' => e = .returned (.bool (escapedB B a)) ∧ ∃ n, w' = w.drewN n := by
  have hl := E.len
  have c0 := h.rd.c0; have c1 := h.rd.c1
  have hle := h.at_le
  by_cases h1 : a + 1 < B.length
  · have hlt' : (a : Int) + 1 < (B.length : Int) := by omega
    have cb := h.byte E a (by omega)
    have cb2 := h.byte E (a + 1) h1
    by_cases h2 : byteAt B a = 92
    · by_cases h3 : byteAt B (a + 1) = 117
      · have HF : Hid (escapedB B a = true) := by show _ = _; simp [escapedB, h1, h2, h3]
        rw [h2] at cb; rw [h3] at cb2
        clear h2 h3
        go_enter Tryd.func89, Tryd.ntmps89
        go_wp2
        go_quiet (fail)
        go_wp2
        go_ret
        exact ⟨by rw [HF.out]; rfl, _, rfl⟩
      · have HF : Hid (escapedB B a = false) := by show _ = _; simp [escapedB, h1, h2, h3]
        have h3' : ((byteAt B (a + 1) : Int) == 117) = false := by simp; omega
        rw [h2] at cb
        clear h2 h3
        go_enter Tryd.func89, Tryd.ntmps89
        go_wp2
        go_quiet (fail)
        go_wp2
        go_ret
        exact ⟨by rw [HF.out]; rfl, _, rfl⟩
    · have HF : Hid (escapedB B a = false) := by show _ = _; simp [escapedB, h1, h2]
      have h3' : ((byteAt B a : Int) == 92) = false := by simp; omega
      clear h2
      go_enter Tryd.func89, Tryd.ntmps89
      go_wp2
      go_quiet (fail)
      go_wp2
      go_ret
      exact ⟨by rw [HF.out]; rfl, _, rfl⟩
  · have HF : Hid (escapedB B a = false) := by show _ = _; simp [escapedB, h1]
    have hlt' : ((a : Int) + 1 < (B.length : Int)) = False := eq_false (by omega)
    clear h1
    go_enter Tryd.func89, Tryd.ntmps89
    go_wp2
    go_quiet (fail)
    go_wp2
    go_ret
    exact ⟨by rw [HF.out]; rfl, _, rfl⟩
end
end Go.Proofs.YtpffhckimilppaaDoor.Js