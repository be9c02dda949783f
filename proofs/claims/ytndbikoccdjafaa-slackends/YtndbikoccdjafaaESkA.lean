/-
  Opens an argument that is an array of two numbers.
-/
import Derived.OpenShut
import Derived.Test.YtndbikoccdjafaaBCArg
namespace Go.Proofs.Ytndbikoccdjafaa
open Go.ChangeShapes Go.WideShapes Go.ChangeAt Go.WideMaps Go.WideElems Go.RowKit Go.Deep
variable {H : Type} {enc : TypeId × Value → H} {W : World}
set_option maxRecDepth 100000 in
theorem okWide_two {r : Reach} {b : Nat} {v : Value} (h : Value.okWide Try.prog W r b 47 v) : ∃ cs,v = .agg cs := by
 simp only [Value.okWide,Try.underlying47] at h
 obtain ⟨cs,h1,_⟩ := h
 exact ⟨cs,h1⟩
set_option maxRecDepth 100000 in
theorem open_two {cs : Array Value} {d : DataW H} {p : List MemPlace} (h : DataW.Trod enc Try.prog W 0 (fun _ => true) true 47 (.agg cs) d p) : ∃ a b,cs = #[.int .i64 a,.int .i64 b] ∧ (-9223372036854775808 ≤ a ∧ a ≤ 9223372036854775807) ∧ (-9223372036854775808 ≤ b ∧ b ≤ 9223372036854775807) := by
 obtain ⟨fuel,hf⟩ := h
 obtain ⟨xs,m,_,e,hl,hlen,hf⟩ := DataW.trod_array Try.underlying47 hf
 have c47 : Try.prog.cellsOf 47 = 2 := by kernel_rfl
 rw [c47] at hl
 have hcs : (Value.agg cs).cells.toList = cs.toList := rfl
 rw [hcs] at hl hf
 obtain ⟨l,hll⟩ : ∃ l,cs.toList = l := ⟨_,rfl⟩
 rw [hll] at hl hf
 obtain ⟨v0,v1,rfl⟩ : ∃ v0 v1,l = [v0,v1] := by
  match l,hl with
  | [v0,v1],_ => exact ⟨v0,v1,rfl⟩
 obtain ⟨y0,y1,rfl⟩ : ∃ y0 y1,xs = [y0,y1] := by
  match xs,hlen with
  | [y0,y1],_ => exact ⟨y0,y1,rfl⟩
 have t0 : DataW.trod enc Try.prog W 0 (fun _ => true) true m 3 [v0] = some y0 := by simpa [cells3] using hf 0 (by decide)
 have t1 : DataW.trod enc Try.prog W 0 (fun _ => true) true m 3 [v1] = some y1 := by simpa [cells3] using hf 1 (by decide)
 obtain ⟨a0,e0,_,w0⟩ := DataW.trod_int Try.underlying3 t0
 obtain ⟨a1,e1,_,w1⟩ := DataW.trod_int Try.underlying3 t1
 injection e0 with e0
 injection e1 with e1
 subst e0 e1
 have r0 : -9223372036854775808 ≤ a0 ∧ a0 ≤ 9223372036854775807 := by simp only [Lit.wf,Bool.and_eq_true] at w0;exact ⟨of_decide_eq_true w0.1,of_decide_eq_true w0.2⟩
 have r1 : -9223372036854775808 ≤ a1 ∧ a1 ≤ 9223372036854775807 := by simp only [Lit.wf,Bool.and_eq_true] at w1;exact ⟨of_decide_eq_true w1.1,of_decide_eq_true w1.2⟩
 refine ⟨a0,a1,?_,r0,r1⟩
 apply Array.ext'
 rw [hll]
end Go.Proofs.Ytndbikoccdjafaa
