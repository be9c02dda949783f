/-
  What the escape of the document's reader does of one half, or of a wrong one.
-/
import Derived.Test.YtkpfiopgnobcdaaDoorRefD
namespace Go.Proofs.YtkpfiopgnobcdaaDoor
open Go.RowKit

section
variable {B : List UInt8} {R cap : Nat} {ta : Option Addr} {w0 w w' : World} {a b p : Nat} {v : Value}
set_option maxRecDepth 100000 in
set_option maxHeartbeats 800000 in
/-- One half that stands for a rune of its own. -/
theorem escape_one (h : RSc B R cap ta w0 w a 0 0 v) (X : Int) (q : Nat) (hX : X < 55296 ∨ 57343 < X)
    (H : Hid (Calls Tryd.prog 45 #[.pointer (some ⟨R, 0, none⟩), .int .i64 a] w fun e w' => e = .returned (.int .i64 X) ∧ RSc B R cap ta w0 w' q 0 0 v ∧ Fr R none w w')) :
    Calls Tryd.prog 34 #[.pointer (some ⟨R, 0, none⟩)] w fun e w' => e = .returned (.int .i64 X) ∧ RSc B R cap ta w0 w' q 0 0 v ∧ Fr R none w w' := by
  have c1 := h.rd.c1
  rcases hX with hX | hX
  · go_enter Tryd.func34, Tryd.ntmps34
    go_wp2_with (go_at_call 45; refine H.out.mono ?_; rintro e w1 ⟨rfl, hs1, hf1⟩; have c2 := hs1.rd.c2)
    go_ret
    exact ⟨rfl, hs1, hf1⟩
  · have hX2 : ¬ X < 55296 := by omega
    go_enter Tryd.func34, Tryd.ntmps34
    go_wp2_with (go_at_call 45; refine H.out.mono ?_; rintro e w1 ⟨rfl, hs1, hf1⟩; have c2 := hs1.rd.c2)
    go_ret
    exact ⟨rfl, hs1, hf1⟩
end
end Go.Proofs.YtkpfiopgnobcdaaDoor
