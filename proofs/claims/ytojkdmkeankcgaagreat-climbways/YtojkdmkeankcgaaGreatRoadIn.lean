/-
  Opens an argument that is a road.
-/
import Derived.Test.YtojkdmkeankcgaaGreatRows
import Derived.Test.YtojkdmkeankcgaaGreatCheck
import Derived.ProofKit
import Derived.OpenShut
import Derived.Deep.Strs
import Derived.Lib.SmallJoins
namespace Go.Proofs.YtojkdmkeankcgaaGreat
open Go.ChangeShapes Go.WideShapes Go.ChangeAt Go.WideMaps Go.WideElems Go.RowKit Go.Deep Go.Joins

theorem own : ownKnob Tryz.prog.godebug = none := by kernel_rfl
theorem laidOut : laidOutB Tryz.prog = true := by kernel_rfl
theorem cells50 : Tryz.prog.cellsOf 54 = 4 := by kernel_rfl
theorem cells24 : Tryz.prog.cellsOf 24 = 2 := by kernel_rfl
theorem addr_add (b off j : Nat) : (⟨b, off, none⟩ : Addr).add j = ⟨b, off + j, none⟩ := by
  unfold Addr.add
  split
  · rename_i h; subst h; rfl
  · rfl
theorem one_int {H : Type} {enc : TypeId × Value → H} {W : World} {n : Nat} {v : Value} {y : DataW H × List MemPlace} (h : DataW.trod enc Tryz.prog W 0 (fun _ => true) true n 3 [v] = some y) : ∃ a, v = .int .i64 a ∧ I64 a := by
  obtain ⟨a, h1, _, h3⟩ := DataW.trod_int Tryz.underlying3 h
  cases h1
  exact ⟨a, rfl, bounds_i64 h3⟩
def valI : Option Value → Int
  | some (.int _ x) => x
  | _ => 0
def arcAt (W : World) (b off k : Nat) : Arc := (valI (W.cell? ⟨b, off + k * 4, none⟩), valI (W.cell? ⟨b, off + k * 4 + 1, none⟩), valI (W.cell? ⟨b, off + k * 4 + 2, none⟩), valI (W.cell? ⟨b, off + k * 4 + 3, none⟩))
theorem arcAt_get (W : World) (b off m k : Nat) (h : k < m) : ((List.range m).map (arcAt W b off))[k]! = arcAt W b off k := by
  rw [getElem!_pos _ k (by simpa using h)]
  simp
set_option maxRecDepth 100000 in
theorem open_arcs {H : Type} {enc : TypeId × Value → H} {W : World} {n : Nat} {v : Value} {y : DataW H × List MemPlace} (hf : DataW.trod enc Tryz.prog W 0 (fun _ => true) true n 22 [v] = some y) :
    ∃ a m c A, v = .slice a m c ∧ ArcsAt W a m A ∧ (a = none → c = 0) ∧ m ≤ c ∧ c ≤ maxLen := by
  rcases open_slice Tryz.underlying22 hf with ⟨hcs, _⟩ | ⟨x, l, c, m, n, D, Pl, hcs, _, hl, hm, hz, hx, hcell⟩
  · cases hcs
    exact ⟨none, 0, 0, [], rfl, ⟨rfl, by omega, fun k hk => by omega⟩, fun _ => rfl, Nat.le_refl _, by unfold maxLen; omega⟩
  · cases hcs
    simp only [if_true] at hz
    obtain ⟨b, off, spot⟩ := x
    refine ⟨_, l, c, (List.range l).map (arcAt W b off), rfl, ⟨by simp, by unfold maxLen at hm; omega, fun k hk => ?_⟩, (fun e => by cases e), hl, hm⟩
    obtain ⟨cs', h1, h2⟩ := hcell k (by omega)
    rw [cells50] at h1
    obtain ⟨_, hlen, hget⟩ := World.cells?_some h1
    obtain ⟨y0, y1, y2, y3, n2, _, _, t0, t1, t2, t3⟩ := trod_struct4 Tryz.underlying54 h2
    match cs', hlen with
    | [v0, v1, v2, v3], _ =>
      obtain ⟨c0, rfl, _⟩ := one_int (v := v0) (n := n2) t0
      obtain ⟨c1, rfl, _⟩ := one_int (v := v1) (n := n2) t1
      obtain ⟨c2, rfl, _⟩ := one_int (v := v2) (n := n2) t2
      obtain ⟨c3, rfl, _⟩ := one_int (v := v3) (n := n2) t3
      have g0 := hget 0 (by omega)
      have g1 := hget 1 (by omega)
      have g2 := hget 2 (by omega)
      have g3 := hget 3 (by omega)
      have hspot : spot = none := by
        obtain ⟨cs0, k1, _⟩ := hcell 0 (by omega)
        rw [cells50] at k1
        obtain ⟨_, hl0, hg0⟩ := World.cells?_some k1
        have e0 := hg0 0 (by omega)
        match cs0, hl0 with
        | u0 :: _, _ => simpa [Addr.add] using World.cell?_spot (e0.trans rfl)
      subst hspot
      rw [addr_add, addr_add] at g0 g1 g2 g3
      refine ⟨b, off, rfl, ?_⟩
      rw [arcAt_get W b off l k hk]
      simp only [Nat.add_zero] at g0
      have e0 : W.cell? ⟨b, off + k * 4, none⟩ = some (.int .i64 c0) := g0
      have e1 : W.cell? ⟨b, off + k * 4 + 1, none⟩ = some (.int .i64 c1) := g1
      have e2 : W.cell? ⟨b, off + k * 4 + 2, none⟩ = some (.int .i64 c2) := g2
      have e3 : W.cell? ⟨b, off + k * 4 + 3, none⟩ = some (.int .i64 c3) := g3
      unfold arcAt
      simp only [e0, e1, e2, e3, valI]
      exact ⟨trivial, trivial, trivial, trivial⟩
set_option maxRecDepth 100000 in
theorem open_road {H : Type} {enc : TypeId × Value → H} {W : World} {cs : Array Value} {d : DataW H} {p : List MemPlace} (hs : cs.size = Tryz.prog.cellsOf 24)
    (h : DataW.Trod enc Tryz.prog W 0 (fun _ => true) true 24 (.agg cs) d p) : ∃ n a m c A, cs = #[.int .i64 n, .slice a m c] ∧ ArcsAt W a m A ∧ (a = none → c = 0) ∧ m ≤ c ∧ c ≤ maxLen ∧ I64 n := by
  obtain ⟨fuel, hf⟩ := h
  rw [cells24] at hs
  obtain ⟨cs⟩ := cs
  match cs, hs with
  | [v0, v1], _ =>
    obtain ⟨y0, y1, n2, _, _, t0, t1⟩ := trod_struct2 Tryz.underlying24 hf
    obtain ⟨n, rfl, hn⟩ := one_int (v := v0) (n := n2) t0
    obtain ⟨a, m, c, A, rfl, h1, h2, h3, h4⟩ := open_arcs (v := v1) (n := n2) t1
    exact ⟨n, a, m, c, A, rfl, h1, h2, h3, h4, hn⟩
end Go.Proofs.YtojkdmkeankcgaaGreat
