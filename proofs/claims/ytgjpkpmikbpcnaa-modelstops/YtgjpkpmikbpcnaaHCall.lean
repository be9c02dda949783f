/-
  A call inside a region that draws its order, by its contract, guarded or not.
-/
import Derived.Test.YtgjpkpmikbpcnaaMem
import Derived.Deep.RegionHeld3
namespace Go.Proofs.Ytgjpkpmikbpcnaa
open Go.RowKit

theorem held_call {P : Program} {ops : Array Oper} {o : Oper} {a : Act} {w : World} {K : Act → World → Prop} {Q : Exit → Act → World → Prop} {E : Prop}
    (hw : Region.wanted o (yielded ops a.tmps) = true) (f : FuncId) (xs : Array Operand) (ts : Array TypeId) (hop : o.op = Op.call { callee := Callee.value (Operand.func f), args := xs, argTypes := ts })
    (hent : ∀ args w, (callFunc f args).run P w = .ok (.enter f args) w) (vs : List Value) (hx : xs.toList.map a.eval = vs)
    (H : Calls P f vs.toArray w fun e w' => ∃ v, e = .returned v ∧ K (a.put o.dst v) w') :
    if Region.wanted o (yielded ops a.tmps) = true then Oper.wp P o a w K Q else E := by
  rw [if_pos hw]
  have he : (execOp a.eval o).run P w = .ok (.enter f vs.toArray) w := by
    have hx' : xs.map a.eval = vs.toArray := by rw [← hx]; apply Array.ext'; simp
    rw [← hx']
    simp [execOp, hop, resolve, invoke, hent, go_sem]
  unfold Oper.wp
  rw [he, Oper.upon_enter]
  refine H.mono ?_
  rintro e w' ⟨v, rfl, hR⟩
  exact hR
end Go.Proofs.Ytgjpkpmikbpcnaa
