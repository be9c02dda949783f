/-
  Several texts in one.
-/
import Derived.Test.YtojkdmkeankcgaaGreatZGg
import Derived.Deep.CutRange
/-  Rows of numbers that are read. -/
namespace Go.Proofs.YtojkdmkeankcgaaGreat
open Go.RowKit Go.Sort

/-- Whole numbers in memory, wherever. -/
def IntsAt (w : World) (a : Option Addr) (zs : List Int) : Prop := ∀ k, k < zs.length → ∃ b off, a = some ⟨b, off, none⟩ ∧ w.cell? ⟨b, off + k, none⟩ = some (.int .i64 zs[k]!)
theorem IntsAt.later {w w' : World} {a : Option Addr} {zs : List Int} (h : IntsAt w a zs) (f : Below w.heap.size w w') : IntsAt w' a zs := fun k hk => by
  obtain ⟨b, off, e, h1⟩ := h k hk
  exact ⟨b, off, e, (f.cell (p := ⟨b, _, none⟩) (block_lt_of_cell h1)).trans h1⟩
theorem intsAt_row {w : World} {base : Nat} {va : Option Addr} {vm vc : Nat} {zs : List Int} (h : IRow w base (.slice va vm vc) zs) : IntsAt w va zs := fun k hk => by
  rcases h.2 with ⟨_, e2⟩ | ⟨g, cap, cur, e, _⟩
  · omega
  · cases e
    exact ⟨g, 0, rfl, by rw [Nat.zero_add]; exact h.cell k hk⟩
end Go.Proofs.YtojkdmkeankcgaaGreat
/-  What the document's SameInts answers of two rows that hold the same. -/
namespace Go.Proofs.YtojkdmkeankcgaaGreat
open Go.RowKit Go.Sort

set_option maxRecDepth 100000 in
set_option maxHeartbeats 3200000 in
theorem sameInts_true {w : World} {a b : Option Addr} {ca cb : Nat} {zs : List Int} (ha : IntsAt w a zs) (hb : IntsAt w b zs) (hl : zs.length ≤ 100000) :
    Calls Tryz.prog 37 #[.slice a zs.length ca, .slice b zs.length cb] w fun e w' => e = .returned (.bool true) ∧ Below w.heap.size w w' := by
  have HA := hide ha
  have HB := hide hb
  have z0 : ((zs.length : Int) == (zs.length : Int)) = true := by simp
  have HW0 : Hid (Below w.heap.size w w) := Below.refl _ _
  clear ha hb
  go_enter Tryz.func37, Tryz.ntmps37
  go_wp2
  go_loopw [5] (fun vi wr => ∃ i : Nat, vi = .int .i64 i ∧ i ≤ zs.length ∧ Hid (Below w.heap.size w wr)) (fun vi _ => zs.length - (intOf vi).toNat)
  case atStart => exact ⟨0, rfl, Nat.zero_le _, HW0.out⟩
  case round =>
    obtain ⟨i, rfl, hi, HR⟩ := hrel
    by_cases hil : i < zs.length
    · have i1 : (i : Int) < (zs.length : Int) := by omega
      obtain ⟨b1, o1, rfl, c1⟩ := (HA.out.later HR.out) i hil
      obtain ⟨b2, o2, rfl, c2⟩ := (HB.out.later HR.out) i hil
      generalize zs[i]! = z at c1 c2
      have z1 : (z == z) = true := by simp
      have z2 : (z != z) = false := by simp
      go_wp2
      go_quiet (fail)
      go_wp2
      go_roundw
      case rel => exact ⟨i + 1, by go_num, by omega, Qu.below_drewN HR.out _⟩
      case measure => simp [intOf]; omega
    · have i1 : ¬ (i : Int) < (zs.length : Int) := by omega
      go_wp2
      go_ret
      exact ⟨rfl, HR.out⟩
set_option maxRecDepth 100000 in
set_option maxHeartbeats 3200000 in
/-- The document's Same of two matrices that hold the same. -/
theorem same_true {w : World} {n : Nat} {a b : Option Addr} {ca cb : Nat} {zs : List Int} (ha : IntsAt w a zs) (hb : IntsAt w b zs) (hl : zs.length ≤ 100000) :
    Calls Tryz.prog 12 #[.agg #[.int .i64 n, .slice a zs.length ca], .agg #[.int .i64 n, .slice b zs.length cb]] w fun e w' => e = .returned (.bool true) ∧ Below w.heap.size w w' := by
  have hf : Below w.heap.size w ((w.alloc (.cells #[.int .i64 n, .slice a zs.length ca] 29)).alloc (.cells #[.int .i64 n, .slice b zs.length cb] 29)) := below_two (Below.refl _ _) (Nat.le_refl _) _ _
  have HSI := hide (sameInts_true (ca := ca) (cb := cb) (ha.later hf) (hb.later hf) hl)
  have HF := hide hf
  have z0 : ((n : Int) == (n : Int)) = true := by simp
  clear ha hb hf
  go_enter Tryz.func12, Tryz.ntmps12
  go_wp2_with (go_at_call 37; refine HSI.out.mono ?_; rintro e w1 ⟨rfl, h1⟩; have H1 := hide (HF.out.trans (h1.mono HF.out.size)); clear h1)
  go_ret
  exact ⟨rfl, H1.out⟩
end Go.Proofs.YtojkdmkeankcgaaGreat
