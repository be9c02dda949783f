/-
  Opens an argument that is a move: four numbers.
-/
import Derived.Test.YtdnkmjafkpnliaaBb
import Derived.ProofKit
import Derived.OpenShut
import Derived.Carry
import Derived.SizedLaws
namespace Go.Proofs.Ytdnkmjafkpnliaa
open Go.ChangeShapes Go.WideShapes Go.ChangeAt Go.WideMaps Go.WideElems Go.RowKit Go.Deep
set_option maxRecDepth 100000

theorem own : ownKnob Try.prog.godebug = none := by kernel_rfl
theorem laidOut : laidOutB Try.prog = true := by kernel_rfl
theorem cells3 : Try.prog.cellsOf 3 = 1 := by kernel_rfl
theorem cells24 : Try.prog.cellsOf 24 = 4 := by kernel_rfl
theorem open_move {H : Type} {enc : TypeId × Value → H} {W : World} {cs : Array Value} {d : DataW H} {p : List MemPlace} (h : DataW.Trod enc Try.prog W 0 (fun _ => true) true 24 (.agg cs) d p) : ∃ x0 x1 x2 x3, cs = #[.int .i64 x0, .int .i64 x1, .int .i64 x2, .int .i64 x3] := by
  obtain ⟨fuel, hf⟩ := h
  obtain ⟨xs, m, _, e, hl, hlen, hf⟩ := DataW.trod_struct Try.underlying24 hf
  rw [cells24] at hl
  have hcs : (Value.agg cs).cells.toList = cs.toList := rfl
  rw [hcs] at hl hf
  obtain ⟨l, hll⟩ : ∃ l, cs.toList = l := ⟨_, rfl⟩
  rw [hll] at hl hf
  obtain ⟨v0, v1, v2, v3, rfl⟩ : ∃ v0 v1 v2 v3, l = [v0, v1, v2, v3] := by
    match l, hl with
    | [v0, v1, v2, v3], _ => exact ⟨v0, v1, v2, v3, rfl⟩
  obtain ⟨y0, y1, y2, y3, rfl⟩ : ∃ y0 y1 y2 y3, xs = [y0, y1, y2, y3] := by
    match xs, hlen with
    | [y0, y1, y2, y3], _ => exact ⟨y0, y1, y2, y3, rfl⟩
  have t0 : DataW.trod enc Try.prog W 0 (fun _ => true) true m 3 [v0] = some y0 := by simpa [cells3] using hf 0 _ rfl
  have t1 : DataW.trod enc Try.prog W 0 (fun _ => true) true m 3 [v1] = some y1 := by simpa [cells3] using hf 1 _ rfl
  have t2 : DataW.trod enc Try.prog W 0 (fun _ => true) true m 3 [v2] = some y2 := by simpa [cells3] using hf 2 _ rfl
  have t3 : DataW.trod enc Try.prog W 0 (fun _ => true) true m 3 [v3] = some y3 := by simpa [cells3] using hf 3 _ rfl
  obtain ⟨a0, e0, _⟩ := DataW.trod_int Try.underlying3 t0
  obtain ⟨a1, e1, _⟩ := DataW.trod_int Try.underlying3 t1
  obtain ⟨a2, e2, _⟩ := DataW.trod_int Try.underlying3 t2
  obtain ⟨a3, e3, _⟩ := DataW.trod_int Try.underlying3 t3
  cases e0
  cases e1
  cases e2
  cases e3
  refine ⟨a0, a1, a2, a3, ?_⟩
  apply Array.ext'
  rw [hll]
end Go.Proofs.Ytdnkmjafkpnliaa
