/-
  Opens an argument that is a task or a visit.
-/
import Derived.Test.YtgjpkpmikbpcnaaArg
namespace Go.Proofs.Ytgjpkpmikbpcnaa
open Go.ChangeShapes Go.WideShapes Go.ChangeAt Go.WideMaps Go.WideElems Go.RowKit Go.Deep
variable {H : Type} {enc : TypeId × Value → H} {W : World}
set_option maxRecDepth 100000 in
theorem open_task {cs : Array Value} {d : DataW H} {p : List MemPlace} (h : DataW.Trod enc Try.prog W 0 (fun _ => true) true 31 (.agg cs) d p) : ∃ s i, cs = #[.bool s, .int .i64 i] := by
  obtain ⟨fuel, hf⟩ := h
  obtain ⟨xs, m, _, e, hl, hlen, hf⟩ := DataW.trod_struct Try.underlying31 hf
  rw [cells37] at hl
  have hcs : (Value.agg cs).cells.toList = cs.toList := rfl
  rw [hcs] at hl hf
  obtain ⟨l, hll⟩ : ∃ l, cs.toList = l := ⟨_, rfl⟩
  rw [hll] at hl hf
  obtain ⟨v0, v1, rfl⟩ : ∃ v0 v1, l = [v0, v1] := by
    match l, hl with
    | [v0, v1], _ => exact ⟨v0, v1, rfl⟩
  obtain ⟨y0, y1, rfl⟩ : ∃ y0 y1, xs = [y0, y1] := by
    match xs, hlen with
    | [y0, y1], _ => exact ⟨y0, y1, rfl⟩
  have t0 : DataW.trod enc Try.prog W 0 (fun _ => true) true m 4 [v0] = some y0 := by simpa [cells4] using hf 0 _ rfl
  have t1 : DataW.trod enc Try.prog W 0 (fun _ => true) true m 3 [v1] = some y1 := by simpa [cells3, cells4] using hf 1 _ rfl
  obtain ⟨a0, e0, _⟩ := DataW.trod_bool Try.underlying4 t0
  obtain ⟨a1, rfl⟩ := open_i t1
  cases e0
  refine ⟨a0, a1, ?_⟩
  apply Array.ext'
  rw [hll]
set_option maxRecDepth 100000 in
theorem open_visit {cs : Array Value} {d : DataW H} {p : List MemPlace} (h : DataW.Trod enc Try.prog W 0 (fun _ => true) true 34 (.agg cs) d p) : ∃ s i, cs = #[.int .i64 s, .int .i64 i] := by
  obtain ⟨fuel, hf⟩ := h
  obtain ⟨xs, m, _, e, hl, hlen, hf⟩ := DataW.trod_struct Try.underlying34 hf
  rw [cells40] at hl
  have hcs : (Value.agg cs).cells.toList = cs.toList := rfl
  rw [hcs] at hl hf
  obtain ⟨l, hll⟩ : ∃ l, cs.toList = l := ⟨_, rfl⟩
  rw [hll] at hl hf
  obtain ⟨v0, v1, rfl⟩ : ∃ v0 v1, l = [v0, v1] := by
    match l, hl with
    | [v0, v1], _ => exact ⟨v0, v1, rfl⟩
  obtain ⟨y0, y1, rfl⟩ : ∃ y0 y1, xs = [y0, y1] := by
    match xs, hlen with
    | [y0, y1], _ => exact ⟨y0, y1, rfl⟩
  have t0 : DataW.trod enc Try.prog W 0 (fun _ => true) true m 32 [v0] = some y0 := by simpa [cells38] using hf 0 _ rfl
  have t1 : DataW.trod enc Try.prog W 0 (fun _ => true) true m 3 [v1] = some y1 := by simpa [cells3, cells38] using hf 1 _ rfl
  obtain ⟨a0, e0, _⟩ := DataW.trod_int Try.underlying32 t0
  obtain ⟨a1, rfl⟩ := open_i t1
  cases e0
  refine ⟨a0, a1, ?_⟩
  apply Array.ext'
  rw [hll]
end Go.Proofs.Ytgjpkpmikbpcnaa
