/-
  What the calls of json.fail, blank, digit, numeral, sixteen and the reader's peek, blanks, ahead, want do.
-/
import Derived.Test.YtpffhckimilppaaDoorJBase
import Derived.Deep.LoopGhost
namespace Go.Proofs.YtpffhckimilppaaDoor.Js
open Go.RowKit

theorem fail_any (a c : Int) (w : World) : Calls Tryd.prog 43 #[.int .i64 a, .int .i64 c] w fun e w' => e = .panicked (flt a c) ∧ w' = w := by
  go_enter Tryd.func43, Tryd.ntmps43
  go_wp2
  exact ⟨rfl, rfl, rfl⟩

def blankB (c : Nat) : Bool := c == 32 || c == 9 || c == 10 || c == 13

set_option maxHeartbeats 400000 in
theorem blank_any (c : Nat) (w : World) : Calls Tryd.prog 52 #[.int .u8 c] w fun e w' => e = .returned (.bool (blankB c)) ∧ w' = w := by
  by_cases h1 : c = 32
  · subst h1; go_enter Tryd.func52, Tryd.ntmps52; go_wp2; go_ret; exact ⟨by simp [blankB], rfl⟩
  by_cases h2 : c = 9
  · subst h2; go_enter Tryd.func52, Tryd.ntmps52; go_wp2; go_ret; exact ⟨by simp [blankB], rfl⟩
  by_cases h3 : c = 10
  · subst h3; go_enter Tryd.func52, Tryd.ntmps52; go_wp2; go_ret; exact ⟨by simp [blankB], rfl⟩
  by_cases h4 : c = 13
  · subst h4; go_enter Tryd.func52, Tryd.ntmps52; go_wp2; go_ret; exact ⟨by simp [blankB], rfl⟩
  have g1 : ((c : Int) == 32) = false := by simp; omega
  have g2 : ((c : Int) == 9) = false := by simp; omega
  have g3 : ((c : Int) == 10) = false := by simp; omega
  have g4 : ((c : Int) == 13) = false := by simp; omega
  have HF : Hid (blankB c = false) := by show _ = _; simp [blankB, h1, h2, h3, h4]
  clear h1 h2 h3 h4
  go_enter Tryd.func52, Tryd.ntmps52
  go_wp2
  go_ret
  exact ⟨by rw [HF.out]; rfl, rfl⟩

def digN (c : Nat) : Bool := 48 ≤ c && c ≤ 57
set_option maxHeartbeats 400000 in
theorem digit_any (c : Nat) (w : World) : Calls Tryd.prog 58 #[.int .u8 c] w fun e w' => e = .returned (.bool (digN c)) ∧ w' = w := by
  by_cases h1 : 48 ≤ c
  · by_cases h2 : c ≤ 57
    · have g1 : (48 : Int) ≤ (c : Int) := by omega
      have g2 : (c : Int) ≤ 57 := by omega
      have HF : Hid (digN c = true) := by show _ = _; simp [digN, h1, h2]
      go_enter Tryd.func58, Tryd.ntmps58
      go_wp2
      go_ret
      exact ⟨by rw [HF.out]; rfl, rfl⟩
    · have g1 : (48 : Int) ≤ (c : Int) := by omega
      have g2 : ¬ (c : Int) ≤ 57 := by omega
      have HF : Hid (digN c = false) := by show _ = _; simp [digN, h1, h2]
      go_enter Tryd.func58, Tryd.ntmps58
      go_wp2
      go_ret
      exact ⟨by rw [HF.out]; rfl, rfl⟩
  · have g1 : ¬ (48 : Int) ≤ (c : Int) := by omega
    have HF : Hid (digN c = false) := by show _ = _; simp [digN, h1]
    go_enter Tryd.func58, Tryd.ntmps58
    go_wp2
    go_ret
    exact ⟨by rw [HF.out]; rfl, rfl⟩

section
variable {B : List UInt8} {R tb toff cap : Nat} {w0 w : World} {a d : Nat} {v : Value}
set_option maxHeartbeats 800000 in
theorem peek_ok (E : Env B R tb toff cap w0) (h : Sc B R tb toff cap w0 w a d v) (hlt : a < B.length) :
    Calls Tryd.prog 55 #[.pointer (some ⟨R, 0, none⟩)] w fun e w' => e = .returned (.int .u8 (byteAt B a)) ∧ ∃ n, w' = w.drewN n := by
  have c0 := h.rd.c0; have c1 := h.rd.c1
  have cb := h.byte E a hlt
  have hl := E.len
  have hne : ((a : Int) == (B.length : Int)) = false := by simp; omega
  go_enter Tryd.func55, Tryd.ntmps55
  go_wp2
  go_quiet (fail)
  go_wp2
  go_quiet (fail)
  go_wp2
  go_ret
  exact ⟨rfl, ⟨_, World.drewN_drewN _ _ _⟩⟩

set_option maxHeartbeats 800000 in
theorem peek_end (E : Env B R tb toff cap w0) (h : Sc B R tb toff cap w0 w a d v) (hlt : ¬ a < B.length) :
    Calls Tryd.prog 55 #[.pointer (some ⟨R, 0, none⟩)] w fun e w' => e = .panicked (flt a 21) ∧ ∃ n, w' = w.drewN n := by
  have c0 := h.rd.c0; have c1 := h.rd.c1
  have hl := E.len
  have hle := h.at_le
  have hne : ((a : Int) == (B.length : Int)) = true := by simp; omega
  go_enter Tryd.func55, Tryd.ntmps55
  go_wp2
  go_quiet (fail)
  go_wp2_with (go_at_call 43; refine (fail_any _ _ _).mono ?_; rintro e w' ⟨rfl, rfl⟩)
  exact ⟨rfl, rfl, ⟨_, rfl⟩⟩

/-- Bytes of one kind gone over. -/
def run (p : Nat → Bool) (B : List UInt8) (a : Nat) : Nat := a + ((B.drop a).takeWhile (fun c => p c.toNat)).length
theorem byteAt_get (B : List UInt8) (a : Nat) (h : a < B.length) : byteAt B a = (B[a]).toNat := by simp [byteAt, List.getD_eq_getElem?_getD, List.getElem?_eq_getElem h]
theorem run_yes (p : Nat → Bool) (B : List UInt8) (a : Nat) (h : a < B.length) (hb : p (byteAt B a) = true) : run p B a = run p B (a + 1) := by
  unfold run
  rw [List.drop_eq_getElem_cons h]
  rw [byteAt_get B a h] at hb
  simp only [List.takeWhile_cons, hb, if_true, List.length_cons]; omega
theorem run_no (p : Nat → Bool) (B : List UInt8) (a : Nat) (hb : a < B.length → p (byteAt B a) = false) : run p B a = a := by
  unfold run
  by_cases h : a < B.length
  · rw [List.drop_eq_getElem_cons h]
    have hb := hb h
    rw [byteAt_get B a h] at hb
    simp only [List.takeWhile_cons, hb]; rfl
  · rw [List.drop_eq_nil_of_le (by omega)]; simp
theorem run_ge (p : Nat → Bool) (B : List UInt8) (a : Nat) : a ≤ run p B a := Nat.le_add_right _ _
theorem takeWhile_le (p : UInt8 → Bool) : ∀ l : List UInt8, (l.takeWhile p).length ≤ l.length
  | [] => by simp
  | x :: l => by
    rw [List.takeWhile_cons]
    split
    · simp only [List.length_cons]; have := takeWhile_le p l; omega
    · simp
theorem run_le (p : Nat → Bool) (B : List UInt8) (a : Nat) (h : a ≤ B.length) : run p B a ≤ B.length := by
  unfold run
  have := takeWhile_le (fun c : UInt8 => p c.toNat) (B.drop a)
  simp only [List.length_drop] at this; omega
def skip (B : List UInt8) (a : Nat) : Nat := run blankB B a

set_option maxHeartbeats 1600000 in
theorem blanks_any (E : Env B R tb toff cap w0) (h : Sc B R tb toff cap w0 w a d v) :
    Calls Tryd.prog 42 #[.pointer (some ⟨R, 0, none⟩)] w fun e w' => e = .returned (.tuple #[]) ∧ Sc B R tb toff cap w0 w' (skip B a) d v ∧ Fr R none w w' := by
  have hl := E.len
  have HE : Hid (Env B R tb toff cap w0) := E
  clear E
  go_enter Tryd.func42, Tryd.ntmps42
  go_wp2
  go_loopg [] (B.length - a) (fun k wr => ∃ i, i + k = B.length ∧ skip B i = skip B a ∧ Sc B R tb toff cap w0 wr i d v ∧ Fr R none w wr)
  case atStart => exact ⟨a, by have := h.at_le; omega, rfl, h, Fr.refl _ _ _⟩
  case round =>
    obtain ⟨i, hi, hsk, hs, hf⟩ := hrel
    have HK : Hid (skip B i = skip B a) := hsk
    clear hsk
    have c0 := hs.rd.c0; have c1 := hs.rd.c1; have f1 := hs.rd.f 1
    by_cases hlt : i < B.length
    · have cb := hs.byte HE.out i hlt
      have hlt' : (i : Int) < (B.length : Int) := by omega
      cases hb : blankB (byteAt B i)
      · have HS : Hid (skip B a = i) := by show _ = _; rw [← HK.out]; exact run_no _ _ _ (fun _ => hb)
        go_wp2
        go_quiet (first | (go_at_call 52; exact Calls.quiet_of_same (blank_any _ _)))
        go_wp2
        go_end0
        exact ⟨rfl, by rw [HS.out]; exact hs.drewN nq, hf.drewN nq⟩
      · have HS : Hid (skip B (i + 1) = skip B a) := by show _ = _; rw [← HK.out]; exact (run_yes _ _ _ hlt hb).symm
        go_wp2
        go_quiet (first | (go_at_call 52; exact Calls.quiet_of_same (blank_any _ _)))
        go_wp2
        go_roundg (gk - 1)
        case measure => omega
        case rel => exact ⟨i + 1, by omega, HS.out, (hs.drewN nq).stepZ (by omega) (by omega), (hf.drewN nq).setR _ _⟩
    · have hlt' : ¬ ((i : Int) < (B.length : Int)) := by omega
      have HS : Hid (skip B a = i) := by show _ = _; rw [← HK.out]; exact run_no _ _ _ (fun h => absurd h hlt)
      go_wp2
      go_quiet (fail)
      go_wp2
      go_end0
      exact ⟨rfl, by rw [HS.out]; exact hs.drewN nq, hf.drewN nq⟩
end
end Go.Proofs.YtpffhckimilppaaDoor.Js