/-
  Opens arguments: a list of visits as a slice with its room, a move.
-/
import Derived.Test.YtdnkmjafkpnliaaSlA
import Derived.Test.YtdnkmjafkpnliaaArg
namespace Go.Proofs.Ytdnkmjafkpnliaa
open Go.ChangeShapes Go.WideShapes Go.ChangeAt Go.WideMaps Go.WideElems Go.RowKit Go.Deep

set_option maxRecDepth 100000
theorem cells41 : Try.prog.cellsOf 41 = 4 := by kernel_rfl
theorem open_move2 {H : Type} {enc : TypeId × Value → H} {W : World} {cs : Array Value} {d : DataW H} {p : List MemPlace} (h : DataW.Trod enc Try.prog W 0 (fun _ => true) true 41 (.agg cs) d p) : ∃ x0 x1 x2 x3, cs = #[.int .i64 x0, .int .i64 x1, .int .i64 x2, .int .i64 x3] := by
  obtain ⟨fuel, hf⟩ := h
  obtain ⟨xs, m, _, e, hl, hlen, hf⟩ := DataW.trod_struct Try.underlying41 hf
  rw [cells41] at hl
  have hcs : (Value.agg cs).cells.toList = cs.toList := rfl
  rw [hcs] at hl hf
  obtain ⟨l, hll⟩ : ∃ l, cs.toList = l := ⟨_, rfl⟩
  rw [hll] at hl hf
  obtain ⟨v0, v1, v2, v3, rfl⟩ : ∃ v0 v1 v2 v3, l = [v0, v1, v2, v3] := by
    match l, hl with
    | [v0, v1, v2, v3], _ => exact ⟨v0, v1, v2, v3, rfl⟩
  obtain ⟨y0, y1, y2, y3, rfl⟩ : ∃ y0 y1 y2 y3, xs = [y0, y1, y2, y3] := by
    match xs, hlen with
    | [y0, y1, y2, y3], _ => exact ⟨y0, y1, y2, y3, rfl⟩
  have t0 : DataW.trod enc Try.prog W 0 (fun _ => true) true m 3 [v0] = some y0 := by simpa [cells3] using hf 0 _ rfl
  have t1 : DataW.trod enc Try.prog W 0 (fun _ => true) true m 3 [v1] = some y1 := by simpa [cells3] using hf 1 _ rfl
  have t2 : DataW.trod enc Try.prog W 0 (fun _ => true) true m 3 [v2] = some y2 := by simpa [cells3] using hf 2 _ rfl
  have t3 : DataW.trod enc Try.prog W 0 (fun _ => true) true m 3 [v3] = some y3 := by simpa [cells3] using hf 3 _ rfl
  obtain ⟨a0, e0, _⟩ := DataW.trod_int Try.underlying3 t0
  obtain ⟨a1, e1, _⟩ := DataW.trod_int Try.underlying3 t1
  obtain ⟨a2, e2, _⟩ := DataW.trod_int Try.underlying3 t2
  obtain ⟨a3, e3, _⟩ := DataW.trod_int Try.underlying3 t3
  cases e0
  cases e1
  cases e2
  cases e3
  refine ⟨a0, a1, a2, a3, ?_⟩
  apply Array.ext'
  rw [hll]
theorem open_sl {H : Type} {enc : TypeId × Value → H} {W : World} {a : Option Addr} {m c : Nat} {d : DataW H} {p : List MemPlace}
    (h : DataW.Trod enc Try.prog W 0 (fun _ => true) true 22 (.slice a m c) d p) (hz : ∀ k ∈ d.weights Try.prog 22, k ≤ reachBytes) : ∃ L : List Vst, SlI W a m c L := by
  obtain ⟨L, h1, h2, h3⟩ := open_visits h hz
  refine ⟨L, h1, h2, h3, ?_, ?_⟩
  · obtain ⟨fuel, hf⟩ := h
    rcases open_slice Try.underlying22 hf with ⟨hcs, _⟩ | ⟨x, l, cc, mm, nn, D, Pl, hcs, _, hl, hmx, hmm, hx, hcell⟩
    · simp [Value.cells] at hcs
      obtain ⟨rfl, rfl, rfl⟩ := hcs
      omega
    · simp [Value.cells] at hcs
      obtain ⟨rfl, rfl, rfl⟩ := hcs
      omega
  · intro hc
    obtain ⟨fuel, hf⟩ := h
    rcases open_slice Try.underlying22 hf with ⟨hcs, _⟩ | ⟨x, l, cc, mm, nn, D, Pl, hcs, _, hl, hmx, hmm, hx, hcell⟩
    · simp [Value.cells] at hcs
      obtain ⟨rfl, rfl, rfl⟩ := hcs
      omega
    · simp [Value.cells] at hcs
      obtain ⟨rfl, rfl, rfl⟩ := hcs
      simp only [if_true] at hmm
      obtain ⟨b, off, spot⟩ := x
      obtain ⟨cs0, k1, _⟩ := hcell 0 (by omega)
      rw [cells34v] at k1
      obtain ⟨_, hl0, hg0⟩ := World.cells?_some k1
      have e0 := hg0 0 (by omega)
      match cs0, hl0 with
      | u0 :: _, _ =>
        have hspot : spot = none := by simpa [Addr.add] using World.cell?_spot (e0.trans rfl)
        subst hspot
        exact ⟨b, off, rfl⟩
end Go.Proofs.Ytdnkmjafkpnliaa
