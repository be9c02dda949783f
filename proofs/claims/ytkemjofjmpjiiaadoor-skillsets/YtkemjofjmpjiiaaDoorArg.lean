/-
  Opens an argument that is a slice of numbers.
-/
import Derived.Test.YtkemjofjmpjiiaaDoorRows
import Derived.Test.YtkemjofjmpjiiaaDoorInts
import Derived.ProofKit
import Derived.OpenShut
import Derived.Carry
import Derived.SizedLaws
namespace Go.Proofs.YtkemjofjmpjiiaaDoor
open Go.ChangeShapes Go.WideShapes Go.ChangeAt Go.WideMaps Go.WideElems Go.RowKit

def I64 (x : Int) : Prop := -9223372036854775808 ≤ x ∧ x ≤ 9223372036854775807
def Fit (zs : List Int) : Prop := ∀ k, k < zs.length → I64 zs[k]!
theorem own : ownKnob Tryd.prog.godebug = none := by kernel_rfl
theorem laidOut : laidOutB Tryd.prog = true := by kernel_rfl
theorem bytes3 : Tryd.prog.bytesOf 3 = 8 := by kernel_rfl
theorem open_ints_arg {H : Type} {enc : TypeId × Value → H} {W : World} {a : Option Addr} {len cap : Nat} {d : DataW H} {p : List MemPlace}
    (h : DataW.Trod enc Tryd.prog W 0 (fun _ => true) true 22 (.slice a len cap) d p) (hw : ∀ k ∈ d.weights Tryd.prog 22, k ≤ reachBytes) : ∃ zs : List Int, zs.length = len ∧ IntsAt W a zs ∧ (a = none → cap = 0) ∧ len ≤ 9223372036854775807 ∧ Fit zs ∧ len * 8 ≤ 140737488351232 := by
  obtain ⟨fuel, hf⟩ := h
  rcases open_ints Tryd.underlying22 Tryd.underlying3 (by kernel_rfl) hf with ⟨hcs, _⟩ | ⟨x, l, c, zs, hcs, _, hl, hm, hz, hx, hcell, hwz⟩
  · simp [Value.cells] at hcs
    obtain ⟨rfl, rfl, rfl⟩ := hcs
    exact ⟨[], rfl, fun k hk => by simp at hk, fun _ => rfl, by omega, fun k hk => by simp at hk, by omega⟩
  · simp [Value.cells] at hcs
    obtain ⟨rfl, rfl, rfl⟩ := hcs
    simp only [if_true] at hz
    unfold maxLen at hm
    have hlen : (zs.take len).length = len := by rw [List.length_take]; omega
    have hd : d = .slice (lits .i64 (zs.take len)) (lits .i64 (zs.drop len)) := congrArg Prod.fst hx
    have hsz := hw ((len + (zs.length - len)) * Tryd.prog.bytesOf 3) (by rw [hd]; simp [DataW.weights, Tryd.underlying22, lits, Nat.min_eq_left (show len ≤ zs.length by omega)])
    rw [bytes3] at hsz
    unfold reachBytes at hsz
    have hget : ∀ k, k < len → (zs.take len)[k]! = zs.getD k 0 := fun k hk => by
      rw [getElem!_pos _ k (by rw [hlen]; exact hk)]; simp [List.getD, show k < zs.length by omega]
    refine ⟨zs.take len, hlen, fun k hk => ?_, (fun e => by cases e), by omega, fun k hk => ?_, by omega⟩
    · rw [hlen] at hk
      rw [hget k hk]
      obtain ⟨b, off, rfl, _⟩ := ints_at (w := W) (k := .i64) (a := x) (zs := zs) (fun i hi => hcell i hi) (by omega)
      exact ⟨b, off, rfl, by rw [← addAt]; exact hcell k (by omega)⟩
    · rw [hlen] at hk
      rw [hget k hk]
      have hmem : zs.getD k 0 ∈ zs := by rw [List.getD, List.getElem?_eq_getElem (by omega)]; exact List.getElem_mem _
      exact bounds_i64 (hwz _ hmem)
end Go.Proofs.YtkemjofjmpjiiaaDoor
