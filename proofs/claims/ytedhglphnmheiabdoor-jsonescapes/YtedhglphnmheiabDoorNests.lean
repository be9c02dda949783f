/-
  Strings and their bytes, parsed.
-/
import Derived.Test.YtedhglphnmheiabDoorAwake
namespace Go.Proofs.YtedhglphnmheiabDoor
open Go.RowKit

theorem str_app (a b : List UInt8) : (⟨a.toArray⟩ : ByteArray) ++ ⟨b.toArray⟩ = ⟨(a ++ b).toArray⟩ := by
  apply ByteArray.ext
  simp [ByteArray.data_append]

/-- The bytes of a string, in new memory. -/
theorem bytes_of (l : List UInt8) (w : World) (hl : l.length ≤ 9223372036854775807) : ∃ (C : Nat) (D : Array Value) (fz : Nat × Nat), (convert 9 24 (.string ⟨l.toArray⟩)).run Tryd.prog w = .ok (.slice (some ⟨w.heap.size, 0, none⟩) l.length C) (w.drew.alloc (.cells D 5 fz)) ∧
    l.length ≤ C ∧ C ≤ 9223372036854775807 ∧ ∀ j, j < l.length → D[j]? = some (.int .u8 (byteAt l j)) := by
  have hz : (⟨l.toArray⟩ : ByteArray).size = l.length := by simp [ByteArray.size]
  have h := run_bytes_of_string (P := Tryd.prog) w 9 24 5 ⟨l.toArray⟩ Tryd.underlying9 Tryd.underlying24 Tryd.underlying5
  rw [hz] at h
  have h1 := grownCap_ge w l.length 0 5
  have h2 := grownCap_le_maxLen w l.length 0 5 (by unfold maxLen; omega)
  unfold maxLen at h2
  refine ⟨_, _, _, h, h1, by omega, fun j hj => ?_⟩
  unfold bytesRow
  rw [Array.getElem?_append_left (by simpa using hj)]
  simp [byteAt, List.getD_eq_getElem?_getD, List.getElem?_eq_getElem hj]
theorem parse_new (l : List UInt8) (w : World) (C : Nat) (D : Array Value) (fz : Nat × Nat) (h1 : l.length ≤ C) (h2 : C ≤ 9223372036854775807) (hD : ∀ j, j < l.length → D[j]? = some (.int .u8 (byteAt l j))) (ht : Lib.Utf8Tabs 0 1 w) (hw : 2 ≤ w.heap.size) :
    Calls Tryd.prog 11 #[.slice (some ⟨w.heap.size, 0, none⟩) l.length C] (w.drew.alloc (.cells D 5 fz)) (DoneR (w.drew.alloc (.cells D 5 fz)) (parseM l)) := by
  refine parse_json (B := l) (tb := w.heap.size) (toff := 0) ?_ (by simp) h1 h2 (tabs_below (((Below.refl _ w).drew).alloc (Nat.le_refl _) _) hw ht) (by simp; omega)
  intro j hj
  have := heap_alloc_new w.drew (.cells D 5 fz)
  rw [cell_of_row _ w.heap.size (0 + j) _ _ _ this, Nat.zero_add]
  exact hD j hj

end Go.Proofs.YtedhglphnmheiabDoor
