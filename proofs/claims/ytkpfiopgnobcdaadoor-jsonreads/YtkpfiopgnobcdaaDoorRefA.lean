/-
  The document's reader (haulierref02): its block, and what its no, gap, here, next do.
-/
import Derived.Test.YtkpfiopgnobcdaaDoorPlaces
import Derived.Test.YtkpfiopgnobcdaaDoorScanB
namespace Go.Proofs.YtkpfiopgnobcdaaDoor
open Go.RowKit

/-- The block of the document's reader. -/
def RdR (w : World) (R : Nat) (t : Value) (a b p : Nat) (v : Value) : Prop :=
  w.heap[R]? = some (.cells #[t, .int .i64 a, .int .i64 b, .int .i64 p, v] 45 (0, 0))
section
variable {w : World} {R : Nat} {t : Value} {a b p : Nat} {v : Value}
theorem RdR.c0 (h : RdR w R t a b p v) : w.cell? ⟨R, 0, none⟩ = some t := by rw [cell_of_row w R 0 _ _ _ h]; rfl
theorem RdR.c1 (h : RdR w R t a b p v) : w.cell? ⟨R, 1, none⟩ = some (.int .i64 a) := by rw [cell_of_row w R 1 _ _ _ h]; rfl
theorem RdR.c2 (h : RdR w R t a b p v) : w.cell? ⟨R, 2, none⟩ = some (.int .i64 b) := by rw [cell_of_row w R 2 _ _ _ h]; rfl
theorem RdR.c3 (h : RdR w R t a b p v) : w.cell? ⟨R, 3, none⟩ = some (.int .i64 p) := by rw [cell_of_row w R 3 _ _ _ h]; rfl
theorem RdR.c4 (h : RdR w R t a b p v) : w.cell? ⟨R, 4, none⟩ = some v := by rw [cell_of_row w R 4 _ _ _ h]; rfl
theorem RdR.f (h : RdR w R t a b p v) (i : Nat) : w.frozen? ⟨R, i, none⟩ = false := frozen_of_row w R i _ _ h
theorem RdR.lt (h : RdR w R t a b p v) : R < w.heap.size := lt_of_block h
theorem RdR.set1 (h : RdR w R t a b p v) (a' : Nat) : RdR (w.setCell ⟨R, 1, none⟩ (.int .i64 a')) R t a' b p v := by
  have := heap_setCell_same w R 1 _ _ (.int .i64 a') h
  unfold RdR; rw [this]; rfl
theorem RdR.set2 (h : RdR w R t a b p v) (b' : Nat) : RdR (w.setCell ⟨R, 2, none⟩ (.int .i64 b')) R t a b' p v := by
  have := heap_setCell_same w R 2 _ _ (.int .i64 b') h
  unfold RdR; rw [this]; rfl
theorem RdR.set3 (h : RdR w R t a b p v) (p' : Nat) : RdR (w.setCell ⟨R, 3, none⟩ (.int .i64 p')) R t a b p' v := by
  have := heap_setCell_same w R 3 _ _ (.int .i64 p') h
  unfold RdR; rw [this]; rfl
theorem RdR.set4 (h : RdR w R t a b p v) (v' : Value) : RdR (w.setCell ⟨R, 4, none⟩ v') R t a b p v' := by
  have := heap_setCell_same w R 4 _ _ v' h
  unfold RdR; rw [this]; rfl
theorem RdR.drewN (h : RdR w R t a b p v) (n : Nat) : RdR (w.drewN n) R t a b p v := by unfold RdR; rw [drewN_heap]; exact h
theorem RdR.alloc (h : RdR w R t a b p v) (o : Obj) : RdR (w.alloc o) R t a b p v := by unfold RdR; rw [Below.heap_alloc w o R h.lt]; exact h
end
/-- What stays for the whole of a reading. -/
structure REnv (B : List UInt8) (R cap : Nat) (ta : Option Addr) (w0 : World) : Prop where
  txt : ∀ j, j < B.length → ∃ y, ta = some y ∧ (y.add j).block < R ∧ w0.cell? (y.add j) = some (.int .u8 (byteAt B j))
  len : B.length ≤ 65536
  cap_ge : B.length ≤ cap
  cap_le : cap ≤ 9223372036854775807
/-- The reader at a place, with a fault's code (0: none) and place. -/
structure RSc (B : List UInt8) (R cap : Nat) (ta : Option Addr) (w0 w : World) (a b p : Nat) (v : Value) : Prop where
  below : Below R w0 w
  rd : RdR w R (.slice ta B.length cap) a b p v
  at_le : a ≤ 70000
section
variable {B : List UInt8} {R cap : Nat} {ta : Option Addr} {w0 w w' : World} {a b p : Nat} {v : Value}
theorem RSc.byte (h : RSc B R cap ta w0 w a b p v) (E : REnv B R cap ta w0) (j : Nat) (hj : j < B.length) : ∃ y, ta = some y ∧ w.cell? (y.add j) = some (.int .u8 (byteAt B j)) := by
  obtain ⟨y, hy, hb, hc⟩ := E.txt j hj
  exact ⟨y, hy, (h.below.cell hb).trans hc⟩
theorem RSc.drewN (h : RSc B R cap ta w0 w a b p v) (n : Nat) : RSc B R cap ta w0 (w.drewN n) a b p v :=
  ⟨h.below.trans ⟨rfl, rfl, rfl, Nat.le_refl _, fun _ _ => by rw [drewN_heap]⟩, h.rd.drewN n, h.at_le⟩
theorem RSc.stepZ (h : RSc B R cap ta w0 w a b p v) {a' : Nat} {z : Int} (hz : z = (a' : Int)) (ha : a' ≤ 70000) : RSc B R cap ta w0 (w.setCell ⟨R, 1, none⟩ (.int .i64 z)) a' b p v := by
  subst hz; exact ⟨h.below.setCell (Nat.le_refl _) _, h.rd.set1 a', ha⟩
theorem RSc.fault (h : RSc B R cap ta w0 w a b p v) (c x : Nat) : RSc B R cap ta w0 ((w.setCell ⟨R, 2, none⟩ (.int .i64 c)).setCell ⟨R, 3, none⟩ (.int .i64 x)) a c x v :=
  ⟨(h.below.setCell (Nat.le_refl _) _).setCell (Nat.le_refl _) _, (h.rd.set2 c).set3 x, h.at_le⟩
set_option maxHeartbeats 800000 in
theorem no_good (h : RSc B R cap ta w0 w a 0 p v) (x c : Nat) : Calls Tryd.prog 18 #[.pointer (some ⟨R, 0, none⟩), .int .i64 x, .int .i64 c] w fun e w' => e = .returned (.tuple #[]) ∧ RSc B R cap ta w0 w' a c x v ∧ Fr R none w w' := by
  have c2 := h.rd.c2; have c3 := h.rd.c3; have f2 := h.rd.f 2; have f3 := h.rd.f 3
  go_enter Tryd.func18, Tryd.ntmps18
  go_wp2
  go_end0
  exact ⟨rfl, h.fault c x, ((Fr.refl _ _ _).setR _ _).setR _ _⟩
set_option maxHeartbeats 800000 in
theorem no_bad (h : RSc B R cap ta w0 w a b p v) (hb : b ≠ 0) (x c : Int) : Calls Tryd.prog 18 #[.pointer (some ⟨R, 0, none⟩), .int .i64 x, .int .i64 c] w fun e w' => e = .returned (.tuple #[]) ∧ w' = w := by
  have c2 := h.rd.c2
  have hb' : ((b : Int) == 0) = false := by simpa using hb
  go_enter Tryd.func18, Tryd.ntmps18
  go_wp2
  go_end0
  exact ⟨rfl, rfl⟩
set_option maxHeartbeats 1600000 in
theorem gap_any (E : REnv B R cap ta w0) (h : RSc B R cap ta w0 w a b p v) :
    Calls Tryd.prog 17 #[.pointer (some ⟨R, 0, none⟩)] w fun e w' => e = .returned (.tuple #[]) ∧ RSc B R cap ta w0 w' (skip B a) b p v ∧ Fr R none w w' := by
  have hl := E.len
  have HE : Hid (REnv B R cap ta w0) := E
  clear E
  go_enter Tryd.func17, Tryd.ntmps17
  go_wp2
  go_loopg [] (70000 - a) (fun k wr => ∃ i, i + k = 70000 ∧ skip B i = skip B a ∧ RSc B R cap ta w0 wr i b p v ∧ Fr R none w wr)
  case atStart => exact ⟨a, by have := h.at_le; omega, rfl, h, Fr.refl _ _ _⟩
  case round =>
    obtain ⟨i, hi, hsk, hs, hf⟩ := hrel
    have HK : Hid (skip B i = skip B a) := hsk
    clear hsk
    have c0 := hs.rd.c0; have c1 := hs.rd.c1; have f1 := hs.rd.f 1
    by_cases hlt : i < B.length
    · obtain ⟨y, rfl, cb⟩ := hs.byte HE.out i hlt
      have hlt' : (i : Int) < (B.length : Int) := by omega
      by_cases hb : blankB (byteAt B i) = true
      · have HS : Hid (skip B (i + 1) = skip B a) := by show _ = _; rw [← HK.out]; exact (run_yes _ _ _ hlt hb).symm
        have h4 : byteAt B i = 32 ∨ byteAt B i = 9 ∨ byteAt B i = 10 ∨ byteAt B i = 13 := by unfold blankB at hb; simp at hb; omega
        clear hb
        rcases h4 with e | e | e | e
        all_goals
          rw [e] at cb
          go_wp2
          go_quiet (fail)
          go_wp2
          go_roundg (gk - 1)
          case measure => omega
          case rel => exact ⟨i + 1, by omega, HS.out, (hs.drewN nq).stepZ (by omega) (by omega), (hf.drewN nq).setR _ _⟩
      · have HS : Hid (skip B a = i) := by show _ = _; rw [← HK.out]; exact run_no _ _ _ (fun _ => by simpa using hb)
        have h4 : ¬ (byteAt B i = 32 ∨ byteAt B i = 9 ∨ byteAt B i = 10 ∨ byteAt B i = 13) := by unfold blankB at hb; simp at hb; omega
        have e1 : ((byteAt B i : Int) == 32) = false := by simp; omega
        have e2 : ((byteAt B i : Int) == 9) = false := by simp; omega
        have e3 : ((byteAt B i : Int) == 10) = false := by simp; omega
        have e4 : ((byteAt B i : Int) == 13) = false := by simp; omega
        clear hb h4
        go_wp2
        go_quiet (fail)
        go_wp2
        go_end0
        exact ⟨rfl, by rw [HS.out]; exact hs.drewN nq, hf.drewN nq⟩
    · have hlt' : ¬ ((i : Int) < (B.length : Int)) := by omega
      have HS : Hid (skip B a = i) := by show _ = _; rw [← HK.out]; exact run_no _ _ _ (fun h => absurd h hlt)
      go_wp2
      go_quiet (fail)
      go_wp2
      go_end0
      exact ⟨rfl, by rw [HS.out]; exact hs.drewN nq, hf.drewN nq⟩
/-- What here answers: the byte, or -1 with a fault. -/
theorem here_ok (E : REnv B R cap ta w0) (h : RSc B R cap ta w0 w a 0 p v) (hlt : a < B.length) : Calls Tryd.prog 32 #[.pointer (some ⟨R, 0, none⟩)] w fun e w' => e = .returned (.int .i64 (byteAt B a)) ∧ RSc B R cap ta w0 w' a 0 p v ∧ Fr R none w w' := by
  have hl := E.len
  obtain ⟨y, rfl, cb⟩ := h.byte E a hlt
  have c0 := h.rd.c0; have c1 := h.rd.c1; have c2 := h.rd.c2
  have hlt' : ¬ (B.length : Int) ≤ (a : Int) := by omega
  have hbb := byteAt_lt B a
  clear E
  go_enter Tryd.func32, Tryd.ntmps32
  go_wp2
  go_quiet (fail)
  go_wp2
  go_quiet (fail)
  rename_i nq2
  go_wp2
  go_ret
  exact ⟨rfl, (h.drewN _).drewN _, ((Fr.refl _ _ _).drewN _).drewN _⟩
theorem here_end (E : REnv B R cap ta w0) (h : RSc B R cap ta w0 w a 0 p v) (hlt : ¬ a < B.length) : Calls Tryd.prog 32 #[.pointer (some ⟨R, 0, none⟩)] w fun e w' => e = .returned (.int .i64 (-1)) ∧ RSc B R cap ta w0 w' a 21 B.length v ∧ Fr R none w w' := by
  have hl := E.len
  have c0 := h.rd.c0; have c1 := h.rd.c1; have c2 := h.rd.c2
  have hlt' : (B.length : Int) ≤ (a : Int) := by omega
  clear E
  go_enter Tryd.func32, Tryd.ntmps32
  go_wp2
  go_quiet (fail)
  go_wp2_with (go_at_call 18; refine (no_good (h.drewN nq) B.length 21).mono ?_; rintro e w2 ⟨rfl, hs2, hf2⟩)
  go_ret
  exact ⟨rfl, hs2, ((Fr.refl _ _ _).drewN _).trans0 hf2⟩
theorem here_bad (h : RSc B R cap ta w0 w a b p v) (hb : b ≠ 0) : Calls Tryd.prog 32 #[.pointer (some ⟨R, 0, none⟩)] w fun e w' => e = .returned (.int .i64 (-1)) ∧ w' = w := by
  have c2 := h.rd.c2
  have hb' : ((b : Int) != 0) = true := by simpa using hb
  go_enter Tryd.func32, Tryd.ntmps32
  go_wp2
  go_ret
  exact ⟨rfl, rfl⟩
end
end Go.Proofs.YtkpfiopgnobcdaaDoor
