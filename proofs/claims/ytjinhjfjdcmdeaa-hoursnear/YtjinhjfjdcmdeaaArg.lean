/-
  Opens an argument that is a slice of windows.
-/
import Derived.Test.YtjinhjfjdcmdeaaRows
import Derived.Test.YtjinhjfjdcmdeaaWins
import Derived.ProofKit
import Derived.OpenShut
import Derived.Carry
import Derived.SizedLaws
import Derived.Deep.Strs
namespace Go.Proofs.Ytjinhjfjdcmdeaa
open Go.ChangeShapes Go.WideShapes Go.ChangeAt Go.WideMaps Go.WideElems Go.RowKit Go.Deep

theorem own : ownKnob Try.prog.godebug = none := by kernel_rfl
theorem laidOut : laidOutB Try.prog = true := by kernel_rfl
theorem bytes37 : Try.prog.bytesOf 37 = 16 := by kernel_rfl
theorem cells37 : Try.prog.cellsOf 37 = 2 := by kernel_rfl
theorem one_int {H : Type} {enc : TypeId × Value → H} {W : World} {n : Nat} {v : Value} {y : DataW H × List MemPlace} (h : DataW.trod enc Try.prog W 0 (fun _ => true) true n 3 [v] = some y) : ∃ a, v = .int .i64 a := by
  obtain ⟨a, h1, _, h3⟩ := DataW.trod_int Try.underlying3 h
  cases h1
  exact ⟨a, rfl⟩
def valI : Option Value → Int
  | some (.int _ x) => x
  | _ => 0
def winAt (W : World) (b off k : Nat) : Win := (valI (W.cell? ⟨b, off + k * 2, none⟩), valI (W.cell? ⟨b, off + k * 2 + 1, none⟩))
theorem winAt_get (W : World) (b off m k : Nat) (h : k < m) : ((List.range m).map (winAt W b off))[k]! = winAt W b off k := by
  rw [getElem!_pos _ k (by simpa using h)]
  simp
set_option maxRecDepth 100000 in
theorem open_wins {H : Type} {enc : TypeId × Value → H} {W : World} {a : Option Addr} {m c : Nat} {d : DataW H} {p : List MemPlace}
    (h : DataW.Trod enc Try.prog W 0 (fun _ => true) true 22 (.slice a m c) d p) (hz : ∀ k ∈ d.weights Try.prog 22, k ≤ reachBytes) : ∃ L : List Win, WinsAt W a m L ∧ (a = none → c = 0) := by
  obtain ⟨fuel, hf⟩ := h
  rcases open_slice Try.underlying22 hf with ⟨hcs, _⟩ | ⟨x, l, cc, mm, nn, D, Pl, hcs, _, hl, hmx, hmm, hx, hcell⟩
  · simp [Value.cells] at hcs
    obtain ⟨rfl, rfl, rfl⟩ := hcs
    exact ⟨[], ⟨rfl, by omega, fun k hk => by omega⟩, fun _ => rfl⟩
  · simp [Value.cells] at hcs
    obtain ⟨rfl, rfl, rfl⟩ := hcs
    simp only [if_true] at hmm
    have hd : d = _ := congrArg Prod.fst hx
    have hsz := hz ((m + (mm - m)) * Try.prog.bytesOf 37) (by rw [hd]; simp [DataW.weights, Try.underlying22])
    rw [bytes37] at hsz
    unfold reachBytes at hsz
    obtain ⟨b, off, spot⟩ := x
    refine ⟨(List.range m).map (winAt W b off), ⟨by simp, by omega, fun k hk => ?_⟩, fun e => by cases e⟩
    obtain ⟨cs', h1, h2⟩ := hcell k (by omega)
    rw [cells37] at h1
    obtain ⟨_, hlen, hget⟩ := World.cells?_some h1
    obtain ⟨y0, y1, n2, _, _, t0, t1⟩ := trod_struct2 Try.underlying37 h2
    match cs', hlen with
    | [v0, v1], _ =>
      obtain ⟨c0, rfl⟩ := one_int (v := v0) (n := n2) t0
      obtain ⟨c1, rfl⟩ := one_int (v := v1) (n := n2) t1
      have g0 := hget 0 (by omega)
      have g1 := hget 1 (by omega)
      have hspot : spot = none := by
        obtain ⟨cs0, k1, _⟩ := hcell 0 (by omega)
        rw [cells37] at k1
        obtain ⟨_, hl0, hg0⟩ := World.cells?_some k1
        have e0 := hg0 0 (by omega)
        match cs0, hl0 with
        | u0 :: _, _ => simpa [Addr.add] using World.cell?_spot (e0.trans rfl)
      subst hspot
      rw [addAt, addAt] at g0 g1
      refine ⟨b, off, rfl, ?_⟩
      rw [winAt_get W b off m k hk]
      simp only [Nat.add_zero] at g0
      have e0 : W.cell? ⟨b, off + k * 2, none⟩ = some (.int .i64 c0) := g0
      have e1 : W.cell? ⟨b, off + k * 2 + 1, none⟩ = some (.int .i64 c1) := g1
      unfold winAt
      simp only [e0, e1, valI]
      exact ⟨trivial, trivial⟩
end Go.Proofs.Ytjinhjfjdcmdeaa
