/-
  Slices of bytes that came in.
-/
import Derived.Test.YtedhglphnmheiaaDoorFrame
import Derived.Test.YtedhglphnmheiaaDoorBytes
namespace Go.Proofs.YtedhglphnmheiaaDoor
open Go.ChangeShapes Go.WideShapes Go.ChangeAt Go.WideMaps Go.WideElems Go.RowKit
set_option maxRecDepth 100000

theorem laidOut : laidOutB Tryd.prog = true := by kernel_rfl
theorem cells5 : Tryd.prog.cellsOf 5 = 1 := by kernel_rfl
/-- A slice of bytes. -/
def SliceOf (w : World) (a : Option Addr) (len cap : Nat) (B : List UInt8) : Prop :=
  (a = none ∧ len = 0 ∧ cap = 0 ∧ B = []) ∨ ∃ y, a = some y ∧ len = B.length ∧ len ≤ cap ∧ cap ≤ 9223372036854775807 ∧ BytesAt w y B
theorem open_bytes {H : Type} {enc : TypeId × Value → H} {W : World} {a : Option Addr} {len cap : Nat} {d : DataW H} {p : List MemPlace}
    (h : DataW.Trod enc Tryd.prog W 0 (fun _ => true) true 22 (.slice a len cap) d p) : ∃ B, SliceOf W a len cap B := by
  obtain ⟨fuel, hf⟩ := h
  rcases open_ints Tryd.underlying22 Tryd.underlying5 cells5 hf with ⟨hcs, _⟩ | ⟨x, l, c, zs, hcs, _, hl, hm, hz, hx, hcell, hwz⟩
  · simp [Value.cells] at hcs
    obtain ⟨rfl, rfl, rfl⟩ := hcs
    exact ⟨[], .inl ⟨rfl, rfl, rfl, rfl⟩⟩
  · simp [Value.cells] at hcs
    obtain ⟨rfl, rfl, rfl⟩ := hcs
    simp only [if_true] at hz
    unfold maxLen at hm
    refine ⟨(zs.take len).map fun z => z.toNat.toUInt8, .inr ⟨x, rfl, by simp; omega, hl, by omega, fun j hj => ?_⟩⟩
    have hj2 : j < len := by simp at hj; omega
    have hjz : j < zs.length := by omega
    rw [hcell j (by omega)]
    have hb := bounds_u8 (hwz zs[j] (List.getElem_mem hjz))
    congr 2
    have e1 : zs.getD j 0 = zs[j] := by simp [List.getD, List.getElem?_eq_getElem hjz]
    have e2 : ((zs.take len).map fun z : Int => z.toNat.toUInt8).getD j 0 = zs[j].toNat.toUInt8 := by
      simp [List.getD, List.getElem?_take_of_lt hj2, List.getElem?_eq_getElem hjz]
    unfold byteAt
    rw [e1, e2]
    simp
    omega
end Go.Proofs.YtedhglphnmheiaaDoor
