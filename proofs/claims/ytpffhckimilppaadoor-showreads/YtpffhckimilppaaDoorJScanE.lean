/-
  What the calls of the reader's escape and letter do.
-/
import Derived.Test.YtpffhckimilppaaDoorJScanD
import Derived.Test.YtpffhckimilppaaDoorJShelf
namespace Go.Proofs.YtpffhckimilppaaDoor.Js
open Go.RowKit

section
variable {B : List UInt8} {R tb toff cap : Nat} {w0 w : World} {a d : Nat} {v : Value}

set_option maxRecDepth 100000 in
set_option maxHeartbeats 3200000 in
theorem escape_any (E : Env B R tb toff cap w0) (h : Sc B R tb toff cap w0 w a d v) (hlt : a < B.length) :
    Calls Tryd.prog 75 #[.pointer (some ⟨R, 0, none⟩)] w (DoneS B R tb toff cap w0 w d v runev (escapeM B a)) := by
  have hl := E.len
  have HE : Hid (Env B R tb toff cap w0) := E
  clear E
  have c1 := h.rd.c1; have f1 := h.rd.f 1
  by_cases hn : a + 1 < B.length
  · obtain ⟨c, hc⟩ : ∃ c, Hid (byteAt B (a + 1) = c) := ⟨_, rfl⟩
    have H38 : Hid (∀ w, Sc B R tb toff cap w0 w (a + 1) d v → Calls Tryd.prog 55 #[.pointer (some ⟨R, 0, none⟩)] w fun e w' => e = .returned (.int .u8 c) ∧ ∃ n, w' = w.drewN n) := by
      intro w hw; rw [← hc.out]; exact peek_ok HE.out hw hn
    have hcs : c = 34 ∨ c = 92 ∨ c = 47 ∨ c = 98 ∨ c = 102 ∨ c = 110 ∨ c = 114 ∨ c = 116 ∨ c = 117 ∨ (¬ c = 34 ∧ ¬ c = 92 ∧ ¬ c = 47 ∧ ¬ c = 98 ∧ ¬ c = 102 ∧ ¬ c = 110 ∧ ¬ c = 114 ∧ ¬ c = 116 ∧ ¬ c = 117) := by omega
    rcases hcs with rfl | rfl | rfl | rfl | rfl | rfl | rfl | rfl | rfl | ⟨n1, n2, n3, n4, n5, n6, n7, n8, n9⟩
    · have HR : Hid (escapeM B a = .ok 34 (a + 2)) := by show _ = _; simp [escapeM, peekM, hn, hc.out, Res.andThen]
      go_enter Tryd.func75, Tryd.ntmps75
      go_wp2_with (go_at_call 55; refine (H38.out _ (h.stepZ (a' := a + 1) (by omega) (by omega))).mono ?_; rintro e w1 ⟨rfl, m, rfl⟩)
      go_ret
      rw [HR.out]
      exact ⟨rfl, ((h.stepZ (a' := a + 1) (by omega) (by omega)).drewN m).stepZ (by omega) (by omega), (((Fr.refl _ _ _).setR _ _).drewN m).setR _ _⟩
    · have HR : Hid (escapeM B a = .ok 92 (a + 2)) := by show _ = _; simp [escapeM, peekM, hn, hc.out, Res.andThen]
      go_enter Tryd.func75, Tryd.ntmps75
      go_wp2_with (go_at_call 55; refine (H38.out _ (h.stepZ (a' := a + 1) (by omega) (by omega))).mono ?_; rintro e w1 ⟨rfl, m, rfl⟩)
      go_ret
      rw [HR.out]
      exact ⟨rfl, ((h.stepZ (a' := a + 1) (by omega) (by omega)).drewN m).stepZ (by omega) (by omega), (((Fr.refl _ _ _).setR _ _).drewN m).setR _ _⟩
    · have HR : Hid (escapeM B a = .ok 47 (a + 2)) := by show _ = _; simp [escapeM, peekM, hn, hc.out, Res.andThen]
      go_enter Tryd.func75, Tryd.ntmps75
      go_wp2_with (go_at_call 55; refine (H38.out _ (h.stepZ (a' := a + 1) (by omega) (by omega))).mono ?_; rintro e w1 ⟨rfl, m, rfl⟩)
      go_ret
      rw [HR.out]
      exact ⟨rfl, ((h.stepZ (a' := a + 1) (by omega) (by omega)).drewN m).stepZ (by omega) (by omega), (((Fr.refl _ _ _).setR _ _).drewN m).setR _ _⟩
    · have HR : Hid (escapeM B a = .ok 8 (a + 2)) := by show _ = _; simp [escapeM, peekM, hn, hc.out, Res.andThen]
      go_enter Tryd.func75, Tryd.ntmps75
      go_wp2_with (go_at_call 55; refine (H38.out _ (h.stepZ (a' := a + 1) (by omega) (by omega))).mono ?_; rintro e w1 ⟨rfl, m, rfl⟩)
      go_ret
      rw [HR.out]
      exact ⟨rfl, ((h.stepZ (a' := a + 1) (by omega) (by omega)).drewN m).stepZ (by omega) (by omega), (((Fr.refl _ _ _).setR _ _).drewN m).setR _ _⟩
    · have HR : Hid (escapeM B a = .ok 12 (a + 2)) := by show _ = _; simp [escapeM, peekM, hn, hc.out, Res.andThen]
      go_enter Tryd.func75, Tryd.ntmps75
      go_wp2_with (go_at_call 55; refine (H38.out _ (h.stepZ (a' := a + 1) (by omega) (by omega))).mono ?_; rintro e w1 ⟨rfl, m, rfl⟩)
      go_ret
      rw [HR.out]
      exact ⟨rfl, ((h.stepZ (a' := a + 1) (by omega) (by omega)).drewN m).stepZ (by omega) (by omega), (((Fr.refl _ _ _).setR _ _).drewN m).setR _ _⟩
    · have HR : Hid (escapeM B a = .ok 10 (a + 2)) := by show _ = _; simp [escapeM, peekM, hn, hc.out, Res.andThen]
      go_enter Tryd.func75, Tryd.ntmps75
      go_wp2_with (go_at_call 55; refine (H38.out _ (h.stepZ (a' := a + 1) (by omega) (by omega))).mono ?_; rintro e w1 ⟨rfl, m, rfl⟩)
      go_ret
      rw [HR.out]
      exact ⟨rfl, ((h.stepZ (a' := a + 1) (by omega) (by omega)).drewN m).stepZ (by omega) (by omega), (((Fr.refl _ _ _).setR _ _).drewN m).setR _ _⟩
    · have HR : Hid (escapeM B a = .ok 13 (a + 2)) := by show _ = _; simp [escapeM, peekM, hn, hc.out, Res.andThen]
      go_enter Tryd.func75, Tryd.ntmps75
      go_wp2_with (go_at_call 55; refine (H38.out _ (h.stepZ (a' := a + 1) (by omega) (by omega))).mono ?_; rintro e w1 ⟨rfl, m, rfl⟩)
      go_ret
      rw [HR.out]
      exact ⟨rfl, ((h.stepZ (a' := a + 1) (by omega) (by omega)).drewN m).stepZ (by omega) (by omega), (((Fr.refl _ _ _).setR _ _).drewN m).setR _ _⟩
    · have HR : Hid (escapeM B a = .ok 9 (a + 2)) := by show _ = _; simp [escapeM, peekM, hn, hc.out, Res.andThen]
      go_enter Tryd.func75, Tryd.ntmps75
      go_wp2_with (go_at_call 55; refine (H38.out _ (h.stepZ (a' := a + 1) (by omega) (by omega))).mono ?_; rintro e w1 ⟨rfl, m, rfl⟩)
      go_ret
      rw [HR.out]
      exact ⟨rfl, ((h.stepZ (a' := a + 1) (by omega) (by omega)).drewN m).stepZ (by omega) (by omega), (((Fr.refl _ _ _).setR _ _).drewN m).setR _ _⟩
    · have HR : Hid (escapeM B a = codedM B a (a + 2)) := by show _ = _; simp [escapeM, peekM, hn, hc.out, Res.andThen]
      cases hM : codedM B a (a + 2) with
      | ok x a1 =>
        have HM : Hid (codedM B a (a + 2) = .ok x a1) := hM
        clear hM
        go_enter Tryd.func75, Tryd.ntmps75
        go_wp2_with (first | (go_at_call 55; refine (H38.out _ (h.stepZ (a' := a + 1) (by omega) (by omega))).mono ?_; rintro e w1 ⟨rfl, m, rfl⟩) | (go_at_call 84; refine (okS (coded_any HE.out (((h.stepZ (a' := a + 1) (by omega) (by omega)).drewN m).stepZ (a' := a + 2) (by omega) (by omega)) a) HM.out).mono ?_; rintro e w2 ⟨rfl, hs2, hf2⟩; simp only [runev]))
        go_ret
        rw [HR.out, HM.out]
        exact ⟨rfl, hs2, ((((Fr.refl _ _ _).setR _ _).drewN m).setR _ _).trans0 hf2⟩
      | bad a1 k =>
        have HM : Hid (codedM B a (a + 2) = .bad a1 k) := hM
        clear hM
        go_enter Tryd.func75, Tryd.ntmps75
        go_wp2_with (first | (go_at_call 55; refine (H38.out _ (h.stepZ (a' := a + 1) (by omega) (by omega))).mono ?_; rintro e w1 ⟨rfl, m, rfl⟩) | (go_at_call 84; refine (badS (coded_any HE.out (((h.stepZ (a' := a + 1) (by omega) (by omega)).drewN m).stepZ (a' := a + 2) (by omega) (by omega)) a) HM.out).mono ?_; rintro e w2 ⟨rfl, hf2⟩))
        refine ⟨rfl, ?_⟩
        rw [HR.out, HM.out]
        exact ⟨rfl, ((((Fr.refl _ _ _).setR _ _).drewN m).setR _ _).trans0 hf2⟩
    · have HR : Hid (escapeM B a = .bad a 24) := by show _ = _; simp [escapeM, peekM, hn, hc.out, Res.andThen, n1, n2, n3, n4, n5, n6, n7, n8, n9]
      have m1 : ((c : Int) == 34) = false := by simp; omega
      have m2 : ((c : Int) == 92) = false := by simp; omega
      have m3 : ((c : Int) == 47) = false := by simp; omega
      have m4 : ((c : Int) == 98) = false := by simp; omega
      have m5 : ((c : Int) == 102) = false := by simp; omega
      have m6 : ((c : Int) == 110) = false := by simp; omega
      have m7 : ((c : Int) == 114) = false := by simp; omega
      have m8 : ((c : Int) == 116) = false := by simp; omega
      have m9 : ((c : Int) == 117) = false := by simp; omega
      clear n1 n2 n3 n4 n5 n6 n7 n8 n9
      go_enter Tryd.func75, Tryd.ntmps75
      go_wp2_with (first | (go_at_call 55; refine (H38.out _ (h.stepZ (a' := a + 1) (by omega) (by omega))).mono ?_; rintro e w1 ⟨rfl, m, rfl⟩) | (go_at_call 43; refine (fail_any _ _ _).mono ?_; rintro e w' ⟨rfl, rfl⟩))
      refine ⟨rfl, ?_⟩
      rw [HR.out]
      exact ⟨rfl, (((Fr.refl _ _ _).setR _ _).drewN m).setR _ _⟩
  · have HR : Hid (escapeM B a = .bad (a + 1) 21) := by show _ = _; simp [escapeM, peekM, hn, Res.andThen]
    go_enter Tryd.func75, Tryd.ntmps75
    go_wp2_with (first | (go_at_call 55; refine (peek_end HE.out (h.stepZ (a' := a + 1) (by omega) (by omega)) hn).mono ?_; rintro e w1 ⟨rfl, m, rfl⟩))
    refine ⟨rfl, ?_⟩
    rw [HR.out]
    exact ⟨rfl, ((Fr.refl _ _ _).setR _ _).drewN m⟩
end
end Go.Proofs.YtpffhckimilppaaDoor.Js