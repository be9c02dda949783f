/-
  Opens an argument that is a slice of numbers.
-/
import Derived.Test.YtbgolkkfpajkdaaRows
import Derived.Test.YtbgolkkfpajkdaaTwo
import Derived.ProofKit
import Derived.OpenShut
namespace Go.Proofs.Ytbgolkkfpajkdaa
open Go.ChangeShapes Go.WideShapes Go.ChangeAt Go.WideMaps Go.WideElems Go.RowKit

theorem own : ownKnob Try.prog.godebug = none := by kernel_rfl
theorem laidOut : laidOutB Try.prog = true := by kernel_rfl
theorem cells3 : Try.prog.cellsOf 3 = 1 := by kernel_rfl
theorem addr_add (b off j : Nat) : (⟨b, off, none⟩ : Addr).add j = ⟨b, off + j, none⟩ := by
  unfold Addr.add
  split
  · rename_i h; subst h; rfl
  · rfl
theorem open_ints_arg {H : Type} {enc : TypeId × Value → H} {W : World} {a : Option Addr} {len cap : Nat} {d : DataW H} {p : List MemPlace}
    (h : DataW.Trod enc Try.prog W 0 (fun _ => true) true 40 (.slice a len cap) d p) : ∃ zs : List Int, zs.length = len ∧ len ≤ 9223372036854775807 ∧ Ints W a zs := by
  obtain ⟨fuel, hf⟩ := h
  rcases open_ints Try.underlying40 Try.underlying3 cells3 hf with ⟨hcs, _⟩ | ⟨x, l, c, zs, hcs, _, hl, hm, hz, hx, hcell, hwz⟩
  · simp [Value.cells] at hcs
    obtain ⟨rfl, rfl, rfl⟩ := hcs
    exact ⟨[], rfl, by omega, ⟨fun k hk => by simp at hk, fun k hk => by simp at hk⟩⟩
  · simp [Value.cells] at hcs
    obtain ⟨rfl, rfl, rfl⟩ := hcs
    simp only [if_true] at hz
    have hlen : (zs.take len).length = len := by rw [List.length_take]; omega
    have hget : ∀ k, k < len → (zs.take len).getD k 0 = zs.getD k 0 := fun k hk => by simp [List.getD, hk]
    unfold maxLen at hm
    refine ⟨zs.take len, hlen, by omega, ⟨fun k hk => ?_, fun k hk => ?_⟩⟩
    · rw [hlen] at hk
      rw [hget k hk]
      have hk2 : k < zs.length := by omega
      have : zs.getD k 0 ∈ zs := by
        have e : zs.getD k 0 = zs[k] := by simp [List.getD, hk2]
        rw [e]; exact List.getElem_mem _
      exact bounds_i64 (hwz _ this)
    · rw [hlen] at hk
      rw [hget k hk]
      obtain ⟨b, off, rfl, _⟩ := ints_at (w := W) (k := .i64) (a := x) (zs := zs) (fun i hi => hcell i hi) (by omega)
      exact ⟨b, off, rfl, by rw [← addr_add]; exact hcell k (by omega)⟩
end Go.Proofs.Ytbgolkkfpajkdaa
