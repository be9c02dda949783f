/-
  What json.Parse does of a slice that is nil.
-/
import Derived.Test.YtedhglphnmheiaaDoorBytes
namespace Go.Proofs.YtedhglphnmheiaaDoor
open Go.RowKit

section
variable {R : Nat} {w : World} {v : Value}
set_option maxHeartbeats 800000 in
theorem nil_blanks (h : Rd w R (.slice none 0 0) 0 0 v) : Calls Tryd.prog 21 #[.pointer (some ⟨R, 0, none⟩)] w fun e w' => e = .returned (.tuple #[]) ∧ ∃ n, w' = w.drewN n := by
  have c0 := h.c0; have c1 := h.c1
  go_enter Tryd.func21, Tryd.ntmps21
  go_wp2
  go_loopg [] 0 (fun _ wr => wr = w)
  case atStart => rfl
  case round =>
    subst hrel
    go_wp2
    go_quiet (fail)
    go_wp2
    go_end0
    exact ⟨rfl, _, rfl⟩
set_option maxHeartbeats 800000 in
theorem nil_peek (h : Rd w R (.slice none 0 0) 0 0 v) : Calls Tryd.prog 38 #[.pointer (some ⟨R, 0, none⟩)] w fun e w' => e = .panicked (flt 0 21) ∧ ∃ n, w' = w.drewN n := by
  have c0 := h.c0; have c1 := h.c1
  go_enter Tryd.func38, Tryd.ntmps38
  go_wp2
  go_quiet (fail)
  go_wp2_with (go_at_call 22; refine (fail_any _ _ _).mono ?_; rintro e w' ⟨rfl, rfl⟩)
  exact ⟨rfl, rfl, ⟨_, rfl⟩⟩
theorem rd_drewN {t : Value} {a d : Nat} (h : Rd w R t a d v) (n : Nat) : Rd (w.drewN n) R t a d v := by
  unfold Rd at h ⊢
  rw [drewN_heap]; exact h
set_option maxHeartbeats 800000 in
theorem nil_ahead (h : Rd w R (.slice none 0 0) 0 0 v) : Calls Tryd.prog 29 #[.pointer (some ⟨R, 0, none⟩)] w fun e w' => e = .panicked (flt 0 21) ∧ ∃ n, w' = w.drewN n := by
  go_enter Tryd.func29, Tryd.ntmps29
  go_wp2_with (first | (go_at_call 21; refine (nil_blanks h).mono ?_; rintro e w1 ⟨rfl, n, rfl⟩) | (go_at_call 38; refine (nil_peek (rd_drewN h n)).mono ?_; rintro e w2 ⟨rfl, m, rfl⟩))
  exact ⟨rfl, rfl, _, rfl⟩
set_option maxHeartbeats 800000 in
theorem nil_value (h : Rd w R (.slice none 0 0) 0 0 v) : Calls Tryd.prog 20 #[.pointer (some ⟨R, 0, none⟩)] w fun e w' => e = .panicked (flt 0 21) ∧ Fr R none w w' := by
  go_enter Tryd.func20, Tryd.ntmps20
  go_wp2_with (go_at_call 29; refine (nil_ahead h).mono ?_; rintro e w1 ⟨rfl, n, rfl⟩)
  exact ⟨rfl, rfl, (Fr.refl _ _ _).drewN n⟩
end
theorem nil_rd (w : World) : Rd ((((w.alloc (.cells #[.slice none 0 0] 25)).alloc (.cells #[.int .i64 0] 3)).alloc (.cells #[.int .i64 0] 26)).alloc (.cells #[.slice none 0 0, .int .i64 0, .int .i64 0, .slice none 0 0] 52)) (w.heap.size + 3) (.slice none 0 0) 0 0 (.slice none 0 0) := by
  have := heap_alloc_new (wVars w) (.cells #[.slice none 0 0, .int .i64 0, .int .i64 0, .slice none 0 0] 52)
  rw [wVars_size] at this
  exact this
set_option maxRecDepth 100000 in
set_option maxHeartbeats 1600000 in
theorem nil_read (w : World) : Calls Tryd.prog 15 #[.slice none 0 0] w (DoneR w (.bad 0 21)) := by
  have hmf : ∀ (fn : Fn) (first cap : Array Value) (w : World), (Instr.makeFunc fn first cap).run Tryd.prog w = .ok (.func fn first cap) w := fun _ _ _ _ => rfl
  have HN : Hid _ := nil_rd w
  go_enter_defers Tryd.func15, Tryd.ntmps15
  go_wp2_with (go_at_call 20; refine (nil_value HN.out).mono ?_; rintro e w1 ⟨rfl, hf1⟩)
  have hv1 : Vars w.heap.size (w.heap.size + 1) (w.heap.size + 1 + 1) (.slice none 0 0) 0 0 w1 := read_vars hf1
  have hb1 : Below w.heap.size w w1 := read_below hf1
  refine leaves_cons (f := 19) (args := #[.pointer (some ⟨w.heap.size, 0, none⟩), .pointer (some ⟨w.heap.size + 1, 0, none⟩), .pointer (some ⟨w.heap.size + 1 + 1, 0, none⟩)]) (by simp) (by simp [go_sem]) ?_
  refine (catch_panicking w.heap.size (w.heap.size + 1) (w.heap.size + 1 + 1) _ _ _ _ _ _ hv1).mono ?_
  rintro e u' w'' ⟨rfl, rfl, o, n, rfl⟩
  have hC := caught (.slice none 0 0) (0 : Int) (21 : Int) hv1 o n w.heap.size (by omega) (by omega) (by omega)
  obtain ⟨w9, hw9⟩ : ∃ w9, w9 = (((((w1.setCell ⟨w.heap.size, 0, none⟩ (.slice none 0 0)).setCell ⟨w.heap.size + 1, 0, none⟩ (.int .i64 (0 : Int))).setCell ⟨w.heap.size + 1 + 1, 0, none⟩ (.int .i64 (21 : Int))).alloc o).drewN n) := ⟨_, rfl⟩
  rw [← hw9] at hC ⊢
  have r0 := cell_of_one hC.1.h0; have r1 := cell_of_one hC.1.h1; have r2 := cell_of_one hC.1.h2
  clear hw9
  simp [Leaves, settle, results, Tryd.results15, go_sem, r0, r1, r2]
  exact ⟨rfl, hb1.trans hC.2.1⟩
set_option maxRecDepth 100000 in
set_option maxHeartbeats 800000 in
theorem nil_parse (w : World) : Calls Tryd.prog 10 #[.slice none 0 0] w (DoneR w (parseM [])) := by
  have HC2 : Hid (Calls Tryd.prog 15 #[.slice none 0 0] w fun e w' => e = .returned (.tuple #[.slice none 0 0, .int .i64 (0 : Nat), .int .i64 (21 : Nat)]) ∧ Below w.heap.size w w') := nil_read w
  have HR : Hid (parseM [] = .bad 0 21) := by show _ = _; rfl
  go_enter Tryd.func10, Tryd.ntmps10
  go_wp2_with (go_at_call 15; refine HC2.out.mono ?_; rintro e w1 ⟨rfl, hb1⟩)
  go_ret3
  rw [HR.out]
  exact ⟨rfl, hb1⟩
/-- A row of bytes of the call's own, parsed, be it nil or not. -/
theorem parse_row_own (l : List UInt8) {w : World} {base n : Nat} {v : Value} (ho : w.ownsRow base 5 1 v n (Lib.byteCells l)) (ht : Lib.Utf8Tabs 0 1 w) (hw : 2 ≤ w.heap.size) : Calls Tryd.prog 10 #[v] w (DoneR w (parseM l)) := by
  by_cases hv : v = .slice none 0 0
  · subst hv
    have h0 : l = [] := by
      have h1 := ho.1
      rcases ho.2 with ⟨_, h0⟩ | ⟨g, cap, cur, h0, _⟩
      · rw [Lib.byteCells_length] at h1; exact List.eq_nil_of_length_eq_zero (by omega)
      · cases h0
    subst h0
    exact nil_parse w
  · exact parse_own2 l ho hv ht hw
end Go.Proofs.YtedhglphnmheiaaDoor
