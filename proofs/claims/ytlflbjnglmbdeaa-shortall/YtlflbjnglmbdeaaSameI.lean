/-
  What the document's SameInts answers of two rows that hold the same.
-/
import Derived.Test.YtlflbjnglmbdeaaRefW
import Derived.Deep.CutRange
namespace Go.Proofs.Ytlflbjnglmbdeaa
open Go.RowKit Go.Sort

set_option maxRecDepth 100000 in
set_option maxHeartbeats 3200000 in
theorem sameInts_true {w : World} {a b : Option Addr} {ca cb : Nat} {zs : List Int} (ha : IntsAt w a zs) (hb : IntsAt w b zs) (hl : zs.length ≤ 100000) :
    Calls Try.prog 22 #[.slice a zs.length ca, .slice b zs.length cb] w fun e w' => e = .returned (.bool true) ∧ Below w.heap.size w w' := by
  have HA := hide ha
  have HB := hide hb
  have z0 : ((zs.length : Int) == (zs.length : Int)) = true := by simp
  have HW0 : Hid (Below w.heap.size w w) := Below.refl _ _
  clear ha hb
  go_enter Try.func22, Try.ntmps22
  go_wp2
  go_loopw [5] (fun vi wr => ∃ i : Nat, vi = .int .i64 i ∧ i ≤ zs.length ∧ Hid (Below w.heap.size w wr)) (fun vi _ => zs.length - (intOf vi).toNat)
  case atStart => exact ⟨0, rfl, Nat.zero_le _, HW0.out⟩
  case round =>
    obtain ⟨i, rfl, hi, HR⟩ := hrel
    by_cases hil : i < zs.length
    · have i1 : (i : Int) < (zs.length : Int) := by omega
      obtain ⟨b1, o1, rfl, c1⟩ := (HA.out.later HR.out) i hil
      obtain ⟨b2, o2, rfl, c2⟩ := (HB.out.later HR.out) i hil
      generalize zs[i]! = z at c1 c2
      have z1 : (z == z) = true := by simp
      have z2 : (z != z) = false := by simp
      go_wp2
      go_quiet (fail)
      go_wp2
      go_roundw
      case rel => exact ⟨i + 1, by go_num, by omega, Qu.below_drewN HR.out _⟩
      case measure => simp [intOf]; omega
    · have i1 : ¬ (i : Int) < (zs.length : Int) := by omega
      go_wp2
      go_ret
      exact ⟨rfl, HR.out⟩
set_option maxRecDepth 100000 in
set_option maxHeartbeats 3200000 in
/-- The document's Same of two matrices that hold the same. -/
theorem same_true {w : World} {n : Nat} {a b : Option Addr} {ca cb : Nat} {zs : List Int} (ha : IntsAt w a zs) (hb : IntsAt w b zs) (hl : zs.length ≤ 100000) :
    Calls Try.prog 23 #[.agg #[.int .i64 n, .slice a zs.length ca], .agg #[.int .i64 n, .slice b zs.length cb]] w fun e w' => e = .returned (.bool true) ∧ Below w.heap.size w w' := by
  have hf : Below w.heap.size w ((w.alloc (.cells #[.int .i64 n, .slice a zs.length ca] 39)).alloc (.cells #[.int .i64 n, .slice b zs.length cb] 39)) := below_two (Below.refl _ _) (Nat.le_refl _) _ _
  have HSI := hide (sameInts_true (ca := ca) (cb := cb) (ha.later hf) (hb.later hf) hl)
  have HF := hide hf
  have z0 : ((n : Int) == (n : Int)) = true := by simp
  clear ha hb hf
  go_enter Try.func23, Try.ntmps23
  go_wp2_with (go_at_call 22; refine HSI.out.mono ?_; rintro e w1 ⟨rfl, h1⟩; have H1 := hide (HF.out.trans (h1.mono HF.out.size)); clear h1)
  go_ret
  exact ⟨rfl, H1.out⟩
end Go.Proofs.Ytlflbjnglmbdeaa
