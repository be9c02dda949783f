/-
  Opens arguments: visits whose numbers fit, and lists of moves.
-/
import Derived.Test.YtdnkmjafkpnliaaArgB
import Derived.Test.YtdnkmjafkpnliaaMpA
namespace Go.Proofs.Ytdnkmjafkpnliaa
open Go.ChangeShapes Go.WideShapes Go.ChangeAt Go.WideMaps Go.WideElems Go.RowKit Go.Deep

set_option maxRecDepth 100000
/-- Moves in memory. -/
def MvV (w : World) (a : Option Addr) (m : Nat) : Prop := m * 32 ≤ 140737488351232 ∧ ∀ k, k < m → ∃ b off x0 x1 x2 x3, a = some ⟨b, off, none⟩ ∧ w.cell? ⟨b, off + k * 4, none⟩ = some (.int .i64 x0) ∧ w.cell? ⟨b, off + k * 4 + 1, none⟩ = some (.int .i64 x1) ∧ w.cell? ⟨b, off + k * 4 + 2, none⟩ = some (.int .i64 x2) ∧ w.cell? ⟨b, off + k * 4 + 3, none⟩ = some (.int .i64 x3)
theorem open_sl64 {H : Type} {enc : TypeId × Value → H} {W : World} {a : Option Addr} {m c : Nat} {d : DataW H} {p : List MemPlace}
    (h : DataW.Trod enc Try.prog W 0 (fun _ => true) true 22 (.slice a m c) d p) (hz : ∀ k ∈ d.weights Try.prog 22, k ≤ reachBytes) : ∃ L : List Vst, SlI W a m c L ∧ ∀ v ∈ L, V64 v := by
  obtain ⟨L, hL⟩ := open_sl h hz
  refine ⟨L, hL, fun v hv => ?_⟩
  obtain ⟨k, hk⟩ := List.getElem?_of_mem hv
  obtain ⟨b, off, rfl, _, c1, c2, _⟩ := vs_cells hL.vs hk
  have hkm : k < m := by rw [← hL.len]; exact (List.getElem?_eq_some_iff.1 hk).1
  obtain ⟨fuel, hf⟩ := h
  rcases open_slice Try.underlying22 hf with ⟨hcs, _⟩ | ⟨x, l, cc, mm, nn, D, Pl, hcs, _, hl, hmx, hmm, hx, hcell⟩
  · simp [Value.cells] at hcs
  · simp [Value.cells] at hcs
    obtain ⟨rfl, rfl, rfl⟩ := hcs
    simp only [if_true] at hmm
    obtain ⟨cs', h1, h2⟩ := hcell k (by omega)
    rw [cells34v] at h1
    obtain ⟨_, hlen, hget⟩ := World.cells?_some h1
    obtain ⟨y0, y1, n2, _, _, t0, t1⟩ := trod_struct2 Try.underlying58 h2
    match cs', hlen with
    | [v0, v1], _ =>
      obtain ⟨d0, e00, _, w0⟩ := DataW.trod_int Try.underlying56 t0
      obtain ⟨d1, e11, _, w1⟩ := DataW.trod_int Try.underlying3 t1
      cases e00
      cases e11
      have g0 := hget 0 (by omega)
      have g1 := hget 1 (by omega)
      rw [addAt, addAt] at g0 g1
      simp only [Nat.add_zero] at g0
      have e0 : W.cell? ⟨b, off + k * 2, none⟩ = some (.int .i64 d0) := g0
      have e1 : W.cell? ⟨b, off + k * 2 + 1, none⟩ = some (.int .i64 d1) := g1
      rw [c1] at e0
      rw [c2] at e1
      injection e0 with e0
      injection e1 with e1
      injection e0 with _ e0
      injection e1 with _ e1
      exact ⟨by rw [e0]; exact i64_wf w0, by rw [e1]; exact i64_wf w1⟩
theorem bytes24v : Try.prog.bytesOf 24 = 32 := by kernel_rfl
theorem cells24v : Try.prog.cellsOf 24 = 4 := by kernel_rfl
theorem open_moves {H : Type} {enc : TypeId × Value → H} {W : World} {a : Option Addr} {m c : Nat} {d : DataW H} {p : List MemPlace}
    (h : DataW.Trod enc Try.prog W 0 (fun _ => true) true 39 (.slice a m c) d p) (hz : ∀ k ∈ d.weights Try.prog 39, k ≤ reachBytes) : MvV W a m := by
  obtain ⟨fuel, hf⟩ := h
  rcases open_slice Try.underlying39 hf with ⟨hcs, _⟩ | ⟨x, l, cc, mm, nn, D, Pl, hcs, _, hl, hmx, hmm, hx, hcell⟩
  · simp [Value.cells] at hcs
    obtain ⟨rfl, rfl, rfl⟩ := hcs
    exact ⟨by omega, fun k hk => by omega⟩
  · simp [Value.cells] at hcs
    obtain ⟨rfl, rfl, rfl⟩ := hcs
    simp only [if_true] at hmm
    have hd : d = _ := congrArg Prod.fst hx
    have hsz := hz ((m + (mm - m)) * Try.prog.bytesOf 24) (by rw [hd]; simp [DataW.weights, Try.underlying39])
    rw [bytes24v] at hsz
    unfold reachBytes at hsz
    obtain ⟨b, off, spot⟩ := x
    refine ⟨by omega, fun k hk => ?_⟩
    obtain ⟨cs', h1, h2⟩ := hcell k (by omega)
    rw [cells24v] at h1
    obtain ⟨_, hlen, hget⟩ := World.cells?_some h1
    obtain ⟨x0, x1, x2, x3, hx4⟩ := open_move (cs := cs'.toArray) (W := W) (enc := enc) ⟨_, h2⟩
    have hcs4 : cs' = [.int .i64 x0, .int .i64 x1, .int .i64 x2, .int .i64 x3] := by
      have := congrArg Array.toList hx4
      simpa using this
    subst hcs4
    have g0 := hget 0 (by omega)
    have g1 := hget 1 (by omega)
    have g2 := hget 2 (by omega)
    have g3 := hget 3 (by omega)
    have hspot : spot = none := by
      obtain ⟨cs0, k1, _⟩ := hcell 0 (by omega)
      rw [cells24v] at k1
      obtain ⟨_, hl0, hg0⟩ := World.cells?_some k1
      have e0 := hg0 0 (by omega)
      match cs0, hl0 with
      | u0 :: _, _ => simpa [Addr.add] using World.cell?_spot (e0.trans rfl)
    subst hspot
    rw [addAt, addAt] at g0 g1 g2 g3
    simp only [Nat.add_zero] at g0
    exact ⟨b, off, x0, x1, x2, x3, rfl, g0, g1, g2, g3⟩
theorem bytes41v : Try.prog.bytesOf 41 = 32 := by kernel_rfl
theorem cells41v : Try.prog.cellsOf 41 = 4 := by kernel_rfl
theorem open_moves2 {H : Type} {enc : TypeId × Value → H} {W : World} {a : Option Addr} {m c : Nat} {d : DataW H} {p : List MemPlace}
    (h : DataW.Trod enc Try.prog W 0 (fun _ => true) true 54 (.slice a m c) d p) (hz : ∀ k ∈ d.weights Try.prog 54, k ≤ reachBytes) : MvV W a m := by
  obtain ⟨fuel, hf⟩ := h
  rcases open_slice Try.underlying54 hf with ⟨hcs, _⟩ | ⟨x, l, cc, mm, nn, D, Pl, hcs, _, hl, hmx, hmm, hx, hcell⟩
  · simp [Value.cells] at hcs
    obtain ⟨rfl, rfl, rfl⟩ := hcs
    exact ⟨by omega, fun k hk => by omega⟩
  · simp [Value.cells] at hcs
    obtain ⟨rfl, rfl, rfl⟩ := hcs
    simp only [if_true] at hmm
    have hd : d = _ := congrArg Prod.fst hx
    have hsz := hz ((m + (mm - m)) * Try.prog.bytesOf 41) (by rw [hd]; simp [DataW.weights, Try.underlying54])
    rw [bytes41v] at hsz
    unfold reachBytes at hsz
    obtain ⟨b, off, spot⟩ := x
    refine ⟨by omega, fun k hk => ?_⟩
    obtain ⟨cs', h1, h2⟩ := hcell k (by omega)
    rw [cells41v] at h1
    obtain ⟨_, hlen, hget⟩ := World.cells?_some h1
    obtain ⟨x0, x1, x2, x3, hx4⟩ := open_move2 (cs := cs'.toArray) (W := W) (enc := enc) ⟨_, h2⟩
    have hcs4 : cs' = [.int .i64 x0, .int .i64 x1, .int .i64 x2, .int .i64 x3] := by
      have := congrArg Array.toList hx4
      simpa using this
    subst hcs4
    have g0 := hget 0 (by omega)
    have g1 := hget 1 (by omega)
    have g2 := hget 2 (by omega)
    have g3 := hget 3 (by omega)
    have hspot : spot = none := by
      obtain ⟨cs0, k1, _⟩ := hcell 0 (by omega)
      rw [cells41v] at k1
      obtain ⟨_, hl0, hg0⟩ := World.cells?_some k1
      have e0 := hg0 0 (by omega)
      match cs0, hl0 with
      | u0 :: _, _ => simpa [Addr.add] using World.cell?_spot (e0.trans rfl)
    subst hspot
    rw [addAt, addAt] at g0 g1 g2 g3
    simp only [Nat.add_zero] at g0
    exact ⟨b, off, x0, x1, x2, x3, rfl, g0, g1, g2, g3⟩
end Go.Proofs.Ytdnkmjafkpnliaa
