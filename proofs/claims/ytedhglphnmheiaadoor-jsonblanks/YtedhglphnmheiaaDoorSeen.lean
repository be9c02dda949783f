/-
  Trees of values that are read alone: what a slice of values holds, whoever laid it.
-/
import Derived.Test.YtedhglphnmheiaaDoorTree
namespace Go.Proofs.YtedhglphnmheiaaDoor
open Go.RowKit

/-- A value of any tree. -/
structure VI where
  kind : Int := 0
  truth : Bool := false
  num : Int := 0
  text : List UInt8 := []
  names : List (List UInt8) := []
  kids : List Int := []
def V.toI (x : V) : VI := { kind := x.kind, truth := x.truth, num := x.num, text := x.text, names := x.names, kids := x.kids.map Int.ofNat }
def intv (k : Int) : Value := .int .i64 k
/-- A slice of elements of one cell that reads so. -/
def SlAt (w : World) (v : Value) (xs : List Value) : Prop := ∃ a cap, v = .slice a xs.length cap ∧ xs.length ≤ 9223372036854775807 ∧ ∀ j u, xs[j]? = some u → ∃ g, a = some g ∧ w.cell? (g.add j) = some u
def aggI (x : VI) (nv kv : Value) : List Value := [.int .i64 x.kind, .bool x.truth, .int .i64 x.num, .string ⟨x.text.toArray⟩, nv, kv]
structure VAt (w : World) (x : VI) (nv kv : Value) : Prop where
  names : SlAt w nv (x.names.map strv)
  kids : SlAt w kv (x.kids.map intv)
def TreeAt (w : World) (v : Value) (T : List VI) : Prop := ∃ a cap, v = .slice a T.length cap ∧ T.length ≤ 9223372036854775807 ∧ ∀ i x, T[i]? = some x → ∃ g o nv kv, a = some ⟨g, o, none⟩ ∧ VAt w x nv kv ∧ ∀ j u, (aggI x nv kv)[j]? = some u → w.cell? ⟨g, o + i * 6 + j, none⟩ = some u

theorem SlAt.later {w w' : World} {v : Value} {xs : List Value} (h : SlAt w v xs) (hb : Below w.heap.size w w') : SlAt w' v xs := by
  obtain ⟨a, cap, hv, hl, hc⟩ := h
  refine ⟨a, cap, hv, hl, fun j u hj => ?_⟩
  obtain ⟨g, hg, hu⟩ := hc j u hj
  exact ⟨g, hg, (hb.cell (block_lt_of_cell hu)).trans hu⟩
theorem VAt.later {w w' : World} {x : VI} {nv kv : Value} (h : VAt w x nv kv) (hb : Below w.heap.size w w') : VAt w' x nv kv := ⟨h.names.later hb, h.kids.later hb⟩
theorem TreeAt.later {w w' : World} {v : Value} {T : List VI} (h : TreeAt w v T) (hb : Below w.heap.size w w') : TreeAt w' v T := by
  obtain ⟨a, cap, hv, hl, hc⟩ := h
  refine ⟨a, cap, hv, hl, fun i x hi => ?_⟩
  obtain ⟨g, o, nv, kv, hg, hx, hu⟩ := hc i x hi
  exact ⟨g, o, nv, kv, hg, hx.later hb, fun j u hj => (hb.cell (block_lt_of_cell (hu j u hj))).trans (hu j u hj)⟩
theorem slAt_own {w : World} {base : Nat} {e : TypeId} {v : Value} {n : Nat} {xs : List Value} (h : w.ownsRow base e 1 v n xs) : SlAt w v xs := by
  have hl : xs.length = n := by have := h.1; omega
  rcases h.2 with ⟨rfl, h0⟩ | ⟨g, cap, cur, rfl, _, _, hc1, hc2, _⟩
  · have : xs = [] := List.eq_nil_of_length_eq_zero (by omega)
    subst this
    exact ⟨none, 0, rfl, by simp, fun j u hj => by simp at hj⟩
  · unfold maxLen at hc2
    exact ⟨_, cap, by rw [hl], by omega, fun j u hj => ⟨_, rfl, h.cells (g := g) rfl j u hj⟩⟩
theorem VOwn.at {w : World} {x : V} {nv kv : Value} (h : VOwn w x nv kv) : VAt w x.toI nv kv := by
  refine ⟨slAt_own h.names, ?_⟩
  have := slAt_own h.kids
  unfold V.toI
  simp only [List.map_map]
  exact this
theorem reps_at {w : World} : ∀ {T : List V} {cs : List Value}, Reps w cs T → ∀ i x, T[i]? = some x → ∃ nv kv, VAt w x.toI nv kv ∧ ∀ j u, (aggI x.toI nv kv)[j]? = some u → cs[i * 6 + j]? = some u
  | [], cs, h, i, x, hi => by simp at hi
  | y :: T, cs, h, i, x, hi => by
    obtain ⟨nv, kv, rest, rfl, hy, hr⟩ := h
    cases i with
    | zero =>
      simp only [List.getElem?_cons_zero, Option.some.injEq] at hi
      subst hi
      refine ⟨nv, kv, hy.at, fun j u hj => ?_⟩
      have hj6 : j < 6 := by have := (List.getElem?_eq_some_iff.1 hj).1; simpa [aggI] using this
      rw [Nat.zero_mul, Nat.zero_add, List.getElem?_append_left (by simpa [aggL] using hj6)]
      exact hj
    | succ i =>
      rw [List.getElem?_cons_succ] at hi
      obtain ⟨nv2, kv2, h1, h2⟩ := reps_at hr i x hi
      refine ⟨nv2, kv2, h1, fun j u hj => ?_⟩
      have := h2 j u hj
      rw [List.getElem?_append_right (by simp [aggL]; omega)]
      simp only [aggL, List.length_cons, List.length_nil]
      rwa [show (i + 1) * 6 + j - (0 + 1 + 1 + 1 + 1 + 1 + 1) = i * 6 + j by omega]
theorem addr_zero_add (g j : Nat) : (⟨g, 0, none⟩ : Addr).add j = ⟨g, j, none⟩ := by unfold Addr.add; split <;> simp_all
theorem tree_own {w : World} {v : Value} {T : List V} {cs : List Value} (ho : w.ownsRow 0 42 6 v T.length cs) (hr : Reps w cs T) : TreeAt w v (T.map V.toI) := by
  rcases ho.2 with ⟨rfl, h0⟩ | ⟨g, cap, cur, rfl, _, _, hc1, hc2, _⟩
  · have : T = [] := List.eq_nil_of_length_eq_zero (by omega)
    subst this
    exact ⟨none, 0, rfl, by simp, fun i x hi => by simp at hi⟩
  · unfold maxLen at hc2
    refine ⟨some ⟨g, 0, none⟩, cap, by simp, by simp; omega, fun i x hi => ?_⟩
    rw [List.getElem?_map, Option.map_eq_some_iff] at hi
    obtain ⟨y, hy, rfl⟩ := hi
    obtain ⟨nv, kv, h1, h2⟩ := reps_at hr i y hy
    refine ⟨_, _, nv, kv, rfl, h1, fun j u hj => ?_⟩
    have := ho.cells (g := g) rfl _ u (h2 j u hj)
    rw [addr_zero_add] at this
    rwa [Nat.zero_add]
end Go.Proofs.YtedhglphnmheiaaDoor
