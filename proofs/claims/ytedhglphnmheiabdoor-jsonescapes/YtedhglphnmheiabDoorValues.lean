/-
  A row of bytes of the own, parsed.
-/
import Derived.Test.YtedhglphnmheiabDoorNests
namespace Go.Proofs.YtedhglphnmheiabDoor
open Go.RowKit

theorem byte_one (c : Int) : ∀ u ∈ [Value.int .u8 c], u.oneCell' = true := by intro u hu; simp at hu; subst hu; rfl
theorem info5 : (Tryd.prog.info? 5).map (fun i => (i.zero, i.size, i.bytes)) = some (some (.int .u8 0), 1, 1) := by kernel_rfl
/-- A row of bytes of the call's own, parsed. -/
theorem parse_own (l : List UInt8) {w : World} {base n : Nat} {v : Value} (ho : w.ownsRow base 5 1 v n (Lib.byteCells l)) (hl : 0 < l.length) (ht : Lib.Utf8Tabs 0 1 w) (hw : 2 ≤ w.heap.size) : Calls Tryd.prog 11 #[v] w (DoneR w (parseM l)) := by
  have hn : n = l.length := by have := ho.1; rw [Lib.byteCells_length] at this; omega
  subst hn
  rcases ho.2 with ⟨_, h0⟩ | ⟨g, cap, cur, rfl, _, hg, hc1, hc2, _⟩
  · omega
  · unfold maxLen at hc2
    refine parse_json (B := l) (tb := g) (toff := 0) ?_ (lt_of_block hg) hc1 (by omega) ht hw
    intro j hj
    have hadd : (⟨g, 0, none⟩ : Addr).add j = ⟨g, 0 + j, none⟩ := by unfold Addr.add; split <;> simp_all
    have := ho.cells (g := g) rfl j (.int .u8 (byteAt l j)) (by simp [Lib.byteCells, byteAt, List.getD_eq_getElem?_getD, List.getElem?_eq_getElem hj])
    rwa [hadd] at this

end Go.Proofs.YtedhglphnmheiabDoor
