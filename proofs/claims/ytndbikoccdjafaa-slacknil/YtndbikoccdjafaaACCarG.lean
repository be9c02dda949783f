/-
  Several texts in one: CCar CLPlain CLInts CLReads.
-/
import Derived.Test.YtndbikoccdjafaaProg
import Derived.WalkKit
import Derived.WalkSpells
import Derived.WalkLawsBesides
import Derived.Deep.QuietTactic
import Derived.BigQuiet
import Derived.BigRegion
import Derived.Deep.RegionWith
import Derived.Deep.RegionHeld
import Derived.Laws.AppendOwnNone
import Derived.Laws.OwnMore
import Derived.Shelf.Abstract
import Derived.Test.YtndbikoccdjafaaACCelG
import Derived.Test.YtndbikoccdjafaaACAsk
namespace Go.Proofs.Ytndbikoccdjafaa
open Go.RowKit
theorem veh_cells {w : World} {v : Value} {L : List Veh} {k : Nat} (h : VehsV w v L) (hk : k < L.length) : ∃ b off c xc xb, v = .slice (some ⟨b, off, none⟩) L.length c ∧ b < w.heap.size ∧ (∀ j, j < 11 → w.cell? ⟨b, off + k * 11 + j, none⟩ = (vehE (L.getD k vz) xc xb)[j]?) ∧ IntsV w xc (L.getD k vz).cap ∧ BrksV w xb (L.getD k vz).brks := by
  obtain ⟨a, c, rfl, _, _, hc⟩ := h
  obtain ⟨b, off, l, rfl, hl, hcs, xc, xb, rfl, q1, q2, _⟩ := hc k hk
  have h0 : w.cell? ⟨b, off + k * 11 + 0, none⟩ = some _ := hcs 0 (by decide)
  exact ⟨b, off, c, xc, xb, rfl, block_lt_of_cell h0, hcs, q1, q2⟩
end Go.Proofs.Ytndbikoccdjafaa
namespace Go.Proofs.Ytndbikoccdjafaa.Ld
/-- Nowhere above. -/
def underB (xs ys : List Int) : Bool := decide (xs.length = ys.length ∧ ∀ i, i < xs.length → xs[i]! ≤ ys[i]!)
theorem underB_ne {xs ys : List Int} (h : xs.length ≠ ys.length) : underB xs ys = false := decide_eq_false fun h' => h h'.1
theorem underB_ok {xs ys : List Int} (h : xs.length = ys.length) (ho : ∀ i, i < xs.length → xs[i]! ≤ ys[i]!) : underB xs ys = true := decide_eq_true ⟨h, ho⟩
theorem underB_no {xs ys : List Int} {k : Nat} (hk : k < xs.length) (h : ¬ xs[k]! ≤ ys[k]!) : underB xs ys = false := decide_eq_false fun h' => h (h'.2 k hk)
theorem list_ext {xs ys : List Int} (h : xs.length = ys.length) (ho : ∀ i, i < xs.length → xs[i]! = ys[i]!) : xs = ys := by
  apply List.ext_getElem h
  intro i h1 h2
  have := ho i h1
  rwa [getElem!_pos _ i h1, getElem!_pos _ i h2] at this
end Go.Proofs.Ytndbikoccdjafaa.Ld
namespace Go.Proofs.Ytndbikoccdjafaa.Ld
open Go.RowKit
theorem hide {p : Prop} (h : p) : Hid p := h
theorem drewN_heap (w : World) (n : Nat) : (w.drewN n).heap = w.heap := by
  induction n with
  | zero => rfl
  | succ n ih => exact ih
theorem below_drewN {B : Nat} {a w : World} (h : Below B a w) (n : Nat) : Below B a (w.drewN n) := ⟨h.os, h.tape, h.output, by rw [drewN_heap]; exact h.size, fun k hk => by rw [drewN_heap]; exact h.block k hk⟩
/-- What a slice of numbers reads as. -/
def IntsAt (w : World) (a : Option Addr) (zs : List Int) : Prop := ∀ k, k < zs.length → ∃ b off, a = some ⟨b, off, none⟩ ∧ w.cell? ⟨b, off + k, none⟩ = some (.int .i64 zs[k]!)
theorem IntsAt.later {w w' : World} {a : Option Addr} {zs : List Int} (h : IntsAt w a zs) (f : Below w.heap.size w w') : IntsAt w' a zs := fun k hk => by
  obtain ⟨b, off, e, h1⟩ := h k hk
  exact ⟨b, off, e, (f.cell (p := ⟨b, _, none⟩) (block_lt_of_cell h1)).trans h1⟩
def intsV (xs : List Int) : List Value := xs.map (Value.int .i64 ·)
theorem intsV_len (xs : List Int) : (intsV xs).length = xs.length := by simp [intsV]
/-- A row of whole numbers that lies at base or above. -/
def IRow (w : World) (base : Nat) (v : Value) (xs : List Int) : Prop := w.ownsRow base 3 1 v xs.length (intsV xs)
theorem info3 : (Try.prog.info? 3).map (fun i => (i.zero, i.size, i.bytes)) = some (some (.int .i64 0), 1, 8) := by kernel_rfl
section
variable {w w' : World} {base g cap m : Nat} {v : Value} {xs : List Int}
end
/-- A slice of n zeros, just made. -/
theorem made_ints (n : Nat) (hn : n ≤ 1000) (w : World) : (Instr.makeSlice 22 (.int .i64 n) (.int .i64 n)).run Try.prog w = .ok (.slice (some ⟨w.heap.size, 0, none⟩) n n) (w.alloc (.cells (Array.replicate n (.int .i64 0)) 3)) := by
  obtain ⟨i0, hi0, hz0, hz1, hz2⟩ := info_parts info3
  have := run_makeSlice (P := Try.prog) w 22 3 i0 _ Try.underlying22 hi0 hz0 .i64 .i64 n n (by omega) (by omega) (by rw [hz1]; omega) (by rw [hz2]; omega) (by omega)
  rw [hz1] at this
  simp only [Int.toNat_natCast, Nat.mul_one] at this
  have e : madeCells (Value.int .i64 0).cells n = Array.replicate n (Value.int .i64 0) := by
    apply Array.ext
    · simp [madeCells]
    · intro i h1 h2
      simp [madeCells, Value.cells, Nat.mod_one]
  rw [e] at this
  exact this
theorem irow_made (w : World) {base n : Nat} (hb : base ≤ w.heap.size) (hn : n ≤ 1000) : IRow (w.alloc (.cells (Array.replicate n (.int .i64 0)) 3)) base (.slice (some ⟨w.heap.size, 0, none⟩) n n) (List.replicate n 0) := by
  have e : intsV (List.replicate n 0) = List.replicate n (.int .i64 0) := by simp [intsV]
  refine ⟨by rw [intsV_len]; omega, .inr ⟨w.heap.size, n, (Array.replicate n (.int .i64 0)), by simp, hb, heap_alloc_new _ _, by simp, by unfold maxLen; omega, by simp, by rw [e]; simp⟩⟩
end Go.Proofs.Ytndbikoccdjafaa.Ld
namespace Go.Proofs.Ytndbikoccdjafaa.Ld
open Go.RowKit
set_option maxRecDepth 100000 in
set_option maxHeartbeats 1600000 in
theorem runder_any {w : World} {a b : Option Addr} {ca cb n m : Nat} {xs ys : List Int} (ha : IntsAt w a xs) (hb : IntsAt w b ys) (hn : xs.length = n) (hm : ys.length = m) (hl : n ≤ 9223372036854775807) (hl2 : m ≤ 9223372036854775807) :
    Calls Try.prog 111 #[.slice a n ca, .slice b m cb] w fun e w' => e = .returned (.bool (underB xs ys)) ∧ Below w.heap.size w w' := by
  have HA := hide ha
  have HB := hide hb
  have HN := hide hn
  have HM := hide hm
  have HW0 : Hid (Below w.heap.size w w) := Below.refl _ _
  by_cases hnm : n = m
  · have HL : Hid (xs.length = ys.length) := by show _ = _; omega
    subst hnm
    have z0 : ((n : Int) != (n : Int)) = false := by simp
    clear ha hb hn hm
    go_enter Try.func111, Try.ntmps111
    go_wp2
    go_loopw [5] (fun vi wr => ∃ i : Nat, vi = .int .i64 i ∧ i ≤ n ∧ Hid (∀ j, j < i → xs[j]! ≤ ys[j]!) ∧ Hid (Below w.heap.size w wr)) (fun vi _ => n - (intOf vi).toNat)
    case atStart => exact ⟨0, rfl, Nat.zero_le _, fun j hj => absurd hj (Nat.not_lt_zero j), HW0.out⟩
    case round =>
      obtain ⟨i, rfl, hi, HI, HR⟩ := hrel
      by_cases hil : i < n
      · have i1 : (i : Int) < (n : Int) := by omega
        obtain ⟨b1, o1, rfl, c1⟩ := (HA.out.later HR.out) i (by rw [HN.out]; exact hil)
        obtain ⟨b2, o2, rfl, c2⟩ := (HB.out.later HR.out) i (by rw [HM.out]; exact hil)
        by_cases hle : xs[i]! ≤ ys[i]!
        · have HI2 : Hid (∀ j, j < i + 1 → xs[j]! ≤ ys[j]!) := fun j hj => by
            by_cases e : j = i
            · rw [e]; exact hle
            · exact HI.out j (by omega)
          generalize xs[i]! = x at c1 hle
          generalize ys[i]! = y at c2 hle
          have i2 : ¬ y < x := by omega
          have i3 : decide (y < x) = false := decide_eq_false i2
          go_wp2
          go_quiet (fail)
          go_wp2
          go_roundw
          case rel => exact ⟨i + 1, by go_num, by omega, HI2.out, below_drewN HR.out _⟩
          case measure => simp [intOf]; omega
        · have HF := hide (underB_no (ys := ys) (k := i) (by rw [HN.out]; exact hil) hle)
          generalize xs[i]! = x at c1 hle
          generalize ys[i]! = y at c2 hle
          have i2 : y < x := by omega
          have i3 : decide (y < x) = true := decide_eq_true i2
          go_wp2
          go_quiet (fail)
          go_wp2
          go_ret
          exact ⟨by rw [HF.out]; rfl, below_drewN HR.out _⟩
      · have i1 : ¬ (i : Int) < (n : Int) := by omega
        have HF := hide (underB_ok HL.out (fun j hj => HI.out j (by have := HN.out; omega)))
        go_wp2
        go_ret
        exact ⟨by rw [HF.out]; rfl, HR.out⟩
  · have HF := hide (underB_ne (xs := xs) (ys := ys) (by omega))
    have z0 : ((n : Int) != (m : Int)) = true := by simp; omega
    clear ha hb hn hm
    go_enter Try.func111, Try.ntmps111
    go_wp2
    go_ret
    exact ⟨by rw [HF.out]; rfl, HW0.out⟩
end Go.Proofs.Ytndbikoccdjafaa.Ld
