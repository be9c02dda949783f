/-
  What the law HoursChecks does.
-/
import Derived.Test.YtjinhjfjdcmdeaaAw
namespace Go.Proofs.Ytjinhjfjdcmdeaa
open Go.RowKit

theorem below_q {w w' : World} (h : ∃ q, w' = w.drewN q) : Below w.heap.size w w' := by obtain ⟨q, rfl⟩ := h; exact below_drewN (Below.refl _ _) q
theorem lawful_is {a : Option Addr} {m c : Nat} {L : List Win} {w : World} {b : Bool} (hb : lawB L = b) (h : WinsAt w a m L) :
    Calls Try.prog 10 #[.slice a m c] w fun e w' => e = .returned (.bool b) ∧ Below w.heap.size w w' := by
  rw [← hb]; exact (lawful_any h).mono fun e w' ⟨h1, h2⟩ => ⟨h1, below_q h2⟩
theorem check_is {a : Option Addr} {m c : Nat} {L : List Win} {w : World} {i e : Int} (hb : chk L = (i, e)) (h : WinsAt w a m L) :
    Calls Try.prog 8 #[.slice a m c] w fun e' w' => e' = .returned (.tuple #[.int .i64 i, .int .i64 e]) ∧ Below w.heap.size w w' := by
  have := check_any (c := c) h; rw [hb] at this; exact this
theorem windows_is {a : Option Addr} {m c : Nat} {L : List Win} {w : World} {i e : Int} (hb : chk L = (i, e)) (h : WinsAt w a m L) :
    Calls Try.prog 9 #[.slice a m c] w fun e' w' => e' = .returned (.tuple #[.int .i64 i, .int .i64 e]) ∧ Below w.heap.size w w' := by
  have := windows_any (c := c) h; rw [hb] at this; exact this.mono fun e w' ⟨h1, h2⟩ => ⟨h1, below_q h2⟩
theorem start_is {a : Option Addr} {m c : Nat} {L : List Win} {w : World} {t x : Int} {b : Bool} (hb : startM t L = (x, b)) (h : WinsAt w a m L) :
    Calls Try.prog 11 #[.slice a m c, .int .i64 t] w fun e' w' => e' = .returned (.tuple #[.int .i64 x, .bool b]) ∧ Below w.heap.size w w' := by
  have := start_any (c := c) t h; rw [hb] at this; exact this
theorem last_is {a : Option Addr} {m c : Nat} {L : List Win} {w : World} {t x : Int} {b : Bool} (hb : lastM t L = (x, b)) (h : WinsAt w a m L) :
    Calls Try.prog 13 #[.slice a m c, .int .i64 t] w fun e' w' => e' = .returned (.tuple #[.int .i64 x, .bool b]) ∧ Below w.heap.size w w' := by
  have := last_any (c := c) t h; rw [hb] at this; exact this
theorem rstart_is {a : Option Addr} {m c : Nat} {L : List Win} {w : World} {t x : Int} {b : Bool} (hb : rst t L = (x, b)) (h : WinsAt w a m L) :
    Calls Try.prog 12 #[.slice a m c, .int .i64 t] w fun e' w' => e' = .returned (.tuple #[.int .i64 x, .bool b]) ∧ Below w.heap.size w w' := by
  have := rstart_any (c := c) t h; rw [hb] at this; exact this.mono fun e w' ⟨h1, h2⟩ => ⟨h1, by rw [h2]; exact Below.refl _ _⟩
theorem rlast_is {a : Option Addr} {m c : Nat} {L : List Win} {w : World} {t x : Int} {b : Bool} (hb : rla t L = (x, b)) (h : WinsAt w a m L) :
    Calls Try.prog 14 #[.slice a m c, .int .i64 t] w fun e' w' => e' = .returned (.tuple #[.int .i64 x, .bool b]) ∧ Below w.heap.size w w' := by
  have := rlast_any (c := c) t h; rw [hb] at this; exact this.mono fun e w' ⟨h1, h2⟩ => ⟨h1, by rw [h2]; exact Below.refl _ _⟩
theorem in_is {a : Option Addr} {m c : Nat} {L : List Win} {w : World} {t : Int} {b : Bool} (hb : inM t L = b) (h : WinsAt w a m L) :
    Calls Try.prog 15 #[.slice a m c, .int .i64 t] w fun e' w' => e' = .returned (.bool b) ∧ Below w.heap.size w w' := by
  have := in_any (c := c) t h; rw [hb] at this; exact this
set_option maxRecDepth 100000 in
set_option maxHeartbeats 1600000 in
theorem checksL_any {a : Option Addr} {m c : Nat} {L : List Win} {w : World} (h : WinsAt w a m L) (hc : a = none → c = 0) :
    Calls Try.prog 3 #[.slice a m c] w fun e w' => e = .returned (.bool true) ∧ Below w.heap.size w w' := by
  have R0 := hide h
  have HC := hide hc
  have HB0 := hide (Below.refl w.heap.size w)
  obtain ⟨ci, ce, HK⟩ : ∃ i e, Hid (chk L = (i, e)) := ⟨_, _, rfl⟩
  clear h hc
  go_enter Try.func3, Try.ntmps3
  go_wp2_with (first
    | (go_at_call 9; refine (windows_is HK.out R3.out).mono ?_; rintro e w4 ⟨rfl, k2⟩; have HB4 := hide (below_on HB3.out k2); clear k2)
    | (go_at_call 8; refine (check_is HK.out X2.out).mono ?_; rintro e w3 ⟨rfl, k2⟩; have HB3 := hide (below_on HB2.out k2); have R3 := hide (R2.out.on k2); clear k2)
    | (at_builtin; refine app_wins (.tmp 10) (.tmp 11) rfl rfl rfl rfl R1.out HC.out HB1.out ?_; intro ax cx w2 k1 k2 k3 k4 k5; have HB2 := hide k5; have X2 := hide k2; have R2 := hide (R1.out.on k4); clear k1 k2 k3 k4 k5)
    | (go_at_call 7; refine (awake_any _).mono ?_; rintro e w1 ⟨rfl, k2⟩; have HB1 := hide (below_on HB0.out k2); have R1 := hide (R0.out.on k2); clear k2))
  go_ret
  exact ⟨rfl, HB4.out⟩
end Go.Proofs.Ytjinhjfjdcmdeaa
