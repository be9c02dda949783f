/-
  Several texts in one.
-/
import Derived.Test.YtkpfiopgnobcdaaDoorTree
import Derived.Deep.RegionHeld
/-  Trees of values that are read alone: what a slice of values holds, whoever laid it. -/
namespace Go.Proofs.YtkpfiopgnobcdaaDoor
open Go.RowKit

/-- A value of any tree. -/
structure VI where
  kind : Int := 0
  truth : Bool := false
  num : Int := 0
  text : List UInt8 := []
  names : List (List UInt8) := []
  kids : List Int := []
def V.toI (x : V) : VI := { kind := x.kind, truth := x.truth, num := x.num, text := x.text, names := x.names, kids := x.kids.map Int.ofNat }
def intv (k : Int) : Value := .int .i64 k
/-- A slice of elements of one cell that reads so. -/
def SlAt (w : World) (v : Value) (xs : List Value) : Prop := ∃ a cap, v = .slice a xs.length cap ∧ xs.length ≤ 9223372036854775807 ∧ ∀ j u, xs[j]? = some u → ∃ g, a = some g ∧ w.cell? (g.add j) = some u
def aggI (x : VI) (nv kv : Value) : List Value := [.int .i64 x.kind, .bool x.truth, .int .i64 x.num, .string ⟨x.text.toArray⟩, nv, kv]
structure VAt (w : World) (x : VI) (nv kv : Value) : Prop where
  names : SlAt w nv (x.names.map strv)
  kids : SlAt w kv (x.kids.map intv)
def TreeAt (w : World) (v : Value) (T : List VI) : Prop := ∃ a cap, v = .slice a T.length cap ∧ T.length ≤ 9223372036854775807 ∧ ∀ i x, T[i]? = some x → ∃ g o nv kv, a = some ⟨g, o, none⟩ ∧ VAt w x nv kv ∧ ∀ j u, (aggI x nv kv)[j]? = some u → w.cell? ⟨g, o + i * 6 + j, none⟩ = some u

theorem SlAt.later {w w' : World} {v : Value} {xs : List Value} (h : SlAt w v xs) (hb : Below w.heap.size w w') : SlAt w' v xs := by
  obtain ⟨a, cap, hv, hl, hc⟩ := h
  refine ⟨a, cap, hv, hl, fun j u hj => ?_⟩
  obtain ⟨g, hg, hu⟩ := hc j u hj
  exact ⟨g, hg, (hb.cell (block_lt_of_cell hu)).trans hu⟩
theorem VAt.later {w w' : World} {x : VI} {nv kv : Value} (h : VAt w x nv kv) (hb : Below w.heap.size w w') : VAt w' x nv kv := ⟨h.names.later hb, h.kids.later hb⟩
theorem TreeAt.later {w w' : World} {v : Value} {T : List VI} (h : TreeAt w v T) (hb : Below w.heap.size w w') : TreeAt w' v T := by
  obtain ⟨a, cap, hv, hl, hc⟩ := h
  refine ⟨a, cap, hv, hl, fun i x hi => ?_⟩
  obtain ⟨g, o, nv, kv, hg, hx, hu⟩ := hc i x hi
  exact ⟨g, o, nv, kv, hg, hx.later hb, fun j u hj => (hb.cell (block_lt_of_cell (hu j u hj))).trans (hu j u hj)⟩
theorem slAt_own {w : World} {base : Nat} {e : TypeId} {v : Value} {n : Nat} {xs : List Value} (h : w.ownsRow base e 1 v n xs) : SlAt w v xs := by
  have hl : xs.length = n := by have := h.1; omega
  rcases h.2 with ⟨rfl, h0⟩ | ⟨g, cap, cur, rfl, _, _, hc1, hc2, _⟩
  · have : xs = [] := List.eq_nil_of_length_eq_zero (by omega)
    subst this
    exact ⟨none, 0, rfl, by simp, fun j u hj => by simp at hj⟩
  · unfold maxLen at hc2
    exact ⟨_, cap, by rw [hl], by omega, fun j u hj => ⟨_, rfl, h.cells (g := g) rfl j u hj⟩⟩
theorem VOwn.at {w : World} {x : V} {nv kv : Value} (h : VOwn w x nv kv) : VAt w x.toI nv kv := by
  refine ⟨slAt_own h.names, ?_⟩
  have := slAt_own h.kids
  unfold V.toI
  simp only [List.map_map]
  exact this
theorem reps_at {w : World} : ∀ {T : List V} {cs : List Value}, Reps w cs T → ∀ i x, T[i]? = some x → ∃ nv kv, VAt w x.toI nv kv ∧ ∀ j u, (aggI x.toI nv kv)[j]? = some u → cs[i * 6 + j]? = some u
  | [], cs, h, i, x, hi => by simp at hi
  | y :: T, cs, h, i, x, hi => by
    obtain ⟨nv, kv, rest, rfl, hy, hr⟩ := h
    cases i with
    | zero =>
      simp only [List.getElem?_cons_zero, Option.some.injEq] at hi
      subst hi
      refine ⟨nv, kv, hy.at, fun j u hj => ?_⟩
      have hj6 : j < 6 := by have := (List.getElem?_eq_some_iff.1 hj).1; simpa [aggI] using this
      rw [Nat.zero_mul, Nat.zero_add, List.getElem?_append_left (by simpa [aggL] using hj6)]
      exact hj
    | succ i =>
      rw [List.getElem?_cons_succ] at hi
      obtain ⟨nv2, kv2, h1, h2⟩ := reps_at hr i x hi
      refine ⟨nv2, kv2, h1, fun j u hj => ?_⟩
      have := h2 j u hj
      rw [List.getElem?_append_right (by simp [aggL]; omega)]
      simp only [aggL, List.length_cons, List.length_nil]
      rwa [show (i + 1) * 6 + j - (0 + 1 + 1 + 1 + 1 + 1 + 1) = i * 6 + j by omega]
theorem addr_zero_add (g j : Nat) : (⟨g, 0, none⟩ : Addr).add j = ⟨g, j, none⟩ := by unfold Addr.add; split <;> simp_all
theorem tree_own {w : World} {v : Value} {T : List V} {cs : List Value} (ho : w.ownsRow 0 42 6 v T.length cs) (hr : Reps w cs T) : TreeAt w v (T.map V.toI) := by
  rcases ho.2 with ⟨rfl, h0⟩ | ⟨g, cap, cur, rfl, _, _, hc1, hc2, _⟩
  · have : T = [] := List.eq_nil_of_length_eq_zero (by omega)
    subst this
    exact ⟨none, 0, rfl, by simp, fun i x hi => by simp at hi⟩
  · unfold maxLen at hc2
    refine ⟨some ⟨g, 0, none⟩, cap, by simp, by simp; omega, fun i x hi => ?_⟩
    rw [List.getElem?_map, Option.map_eq_some_iff] at hi
    obtain ⟨y, hy, rfl⟩ := hi
    obtain ⟨nv, kv, h1, h2⟩ := reps_at hr i y hy
    refine ⟨_, _, nv, kv, rfl, h1, fun j u hj => ?_⟩
    have := ho.cells (g := g) rfl _ u (h2 j u hj)
    rw [addr_zero_add] at this
    rwa [Nat.zero_add]
end Go.Proofs.YtkpfiopgnobcdaaDoor
/-  What the document's Same does of two trees that hold the same: true. -/
namespace Go.Proofs.YtkpfiopgnobcdaaDoor
open Go.RowKit

theorem two_allocs {w : World} {a : Addr} {u : Value} (h : w.cell? a = some u) (o1 o2 : Obj) : ((w.alloc o1).alloc o2).drew.cell? a = some u := by
  have hb := block_lt_of_cell h
  exact ((((Below.refl w.heap.size w).alloc (Nat.le_refl _) o1).alloc (by simp) o2).drew.cell hb).trans h
theorem two_cells {w W : World} {a b : Array Value} (hW : ((w.alloc (.cells a 42)).alloc (.cells b 42)).drew = W) : (∀ j, W.cell? ⟨w.heap.size, j, none⟩ = a[j]?) ∧ (∀ j, W.cell? ⟨w.heap.size + 1, j, none⟩ = b[j]?) := by
  subst hW
  refine ⟨fun j => ?_, fun j => ?_⟩
  · have h1 : ((w.alloc (.cells a 42)).alloc (.cells b 42)).drew.heap[w.heap.size]? = some (.cells a 42 (0, 0)) := by
      show ((w.alloc (.cells a 42)).alloc (.cells b 42)).heap[w.heap.size]? = _
      rw [Below.heap_alloc _ _ _ (by simp)]; exact heap_alloc_new w _
    rw [cell_of_row _ w.heap.size j _ _ _ h1]
  · have h1 : ((w.alloc (.cells a 42)).alloc (.cells b 42)).drew.heap[w.heap.size + 1]? = some (.cells b 42 (0, 0)) := by
      show ((w.alloc (.cells a 42)).alloc (.cells b 42)).heap[w.heap.size + 1]? = _
      have := heap_alloc_new (w.alloc (.cells a 42)) (.cells b 42)
      rw [show (w.alloc (.cells a 42)).heap.size = w.heap.size + 1 by simp] at this
      exact this
    rw [cell_of_row _ (w.heap.size + 1) j _ _ _ h1]
theorem below_drewN {B : Nat} {a w : World} (h : Below B a w) (n : Nat) : Below B a (w.drewN n) := ⟨h.os, h.tape, h.output, by rw [drewN_heap]; exact h.size, fun k hk => by rw [drewN_heap]; exact h.block k hk⟩
theorem six_cells {w : World} {g o : Nat} {x : VI} {nv kv : Value} (h : ∀ j u, (aggI x nv kv)[j]? = some u → w.cell? ⟨g, o + j, none⟩ = some u) :
    w.cell? ⟨g, o, none⟩ = some (.int .i64 x.kind) ∧ w.cell? ⟨g, o + 1, none⟩ = some (.bool x.truth) ∧ w.cell? ⟨g, o + 2, none⟩ = some (.int .i64 x.num) ∧ w.cell? ⟨g, o + 3, none⟩ = some (.string ⟨x.text.toArray⟩) ∧ w.cell? ⟨g, o + 4, none⟩ = some nv ∧ w.cell? ⟨g, o + 5, none⟩ = some kv :=
  ⟨h 0 _ rfl, h 1 _ rfl, h 2 _ rfl, h 3 _ rfl, h 4 _ rfl, h 5 _ rfl⟩
set_option maxRecDepth 100000 in
set_option maxHeartbeats 800000 in
theorem same_true {T : List VI} {v u : Value} {w : World} (hv : TreeAt w v T) (hu : TreeAt w u T) : Calls Tryd.prog 12 #[v, u] w fun e w' => e = .returned (.bool true) ∧ Below w.heap.size w w' := by
  obtain ⟨a, ca, rfl, hl, ha⟩ := hv
  obtain ⟨b, cb, rfl, _, hb⟩ := hu
  have HA : Hid (∀ i x, T[i]? = some x → ∃ g o nv kv, a = some ⟨g, o, none⟩ ∧ VAt w x nv kv ∧ ∀ j u, (aggI x nv kv)[j]? = some u → w.cell? ⟨g, o + i * 6 + j, none⟩ = some u) := ha
  have HB : Hid (∀ i x, T[i]? = some x → ∃ g o nv kv, b = some ⟨g, o, none⟩ ∧ VAt w x nv kv ∧ ∀ j u, (aggI x nv kv)[j]? = some u → w.cell? ⟨g, o + i * 6 + j, none⟩ = some u) := hb
  clear ha hb
  go_enter Tryd.func12, Tryd.ntmps12
  go_wp2
  go_loopw [5] (fun i wr => ∃ k : Nat, k ≤ T.length ∧ i = .int .i64 k ∧ Below w.heap.size w wr) (fun i _ => T.length - (intOf i).toNat)
  case atStart => exact ⟨0, Nat.zero_le _, rfl, Below.refl _ _⟩
  case round =>
    obtain ⟨k, hk, rfl, hbr⟩ := hrel
    by_cases hlt : k < T.length
    · obtain ⟨x, hx⟩ : ∃ x, T[k]? = some x := ⟨_, List.getElem?_eq_getElem hlt⟩
      obtain ⟨g, o, nv, kv, rfl, hva, hc⟩ := HA.out k x hx
      obtain ⟨g2, o2, nv2, kv2, rfl, hva2, hc2⟩ := HB.out k x hx
      obtain ⟨⟨na, nc, rfl, hnl, hn⟩, ⟨ka, kc, rfl, hkl, hkk⟩⟩ := hva.later hbr
      obtain ⟨⟨na2, nc2, rfl, _, hn2⟩, ⟨ka2, kc2, rfl, _, hkk2⟩⟩ := hva2.later hbr
      obtain ⟨c0, c1, c2, c3, c4, c5⟩ := six_cells (w := wr) (fun j u hj => (hbr.cell (block_lt_of_cell (hc j u hj))).trans (hc j u hj))
      obtain ⟨d0, d1, d2, d3, d4, d5⟩ := six_cells (w := wr) (fun j u hj => (hbr.cell (block_lt_of_cell (hc2 j u hj))).trans (hc2 j u hj))
      have hg1 : ¬ wr.heap.size = g := World.new_ne wr _ c0
      have hg2 : ¬ wr.heap.size = g2 := World.new_ne wr _ d0
      have hg3 : ¬ wr.heap.size + 1 = g := by have := block_lt_of_cell c0; simp at this; omega
      have hg4 : ¬ wr.heap.size + 1 = g2 := by have := block_lt_of_cell d0; simp at this; omega
      clear hc hc2
      have hnl2 : x.names.length ≤ 9223372036854775807 := by simpa using hnl
      have hkl2 : x.kids.length ≤ 9223372036854775807 := by simpa using hkl
      go_wp2
      go_region_held (fun w' => (w'.cell? ⟨g, o + k * 6, none⟩ = some (.int .i64 x.kind) ∧ w'.cell? ⟨g, o + k * 6 + 1, none⟩ = some (.bool x.truth) ∧ w'.cell? ⟨g, o + k * 6 + 2, none⟩ = some (.int .i64 x.num) ∧ w'.cell? ⟨g, o + k * 6 + 3, none⟩ = some (.string ⟨x.text.toArray⟩) ∧ w'.cell? ⟨g, o + k * 6 + 4, none⟩ = some (.slice na (List.map strv x.names).length nc) ∧ w'.cell? ⟨g, o + k * 6 + 5, none⟩ = some (.slice ka (List.map intv x.kids).length kc)) ∧ w'.cell? ⟨g2, o2 + k * 6, none⟩ = some (.int .i64 x.kind) ∧ w'.cell? ⟨g2, o2 + k * 6 + 1, none⟩ = some (.bool x.truth) ∧ w'.cell? ⟨g2, o2 + k * 6 + 2, none⟩ = some (.int .i64 x.num) ∧ w'.cell? ⟨g2, o2 + k * 6 + 3, none⟩ = some (.string ⟨x.text.toArray⟩) ∧ w'.cell? ⟨g2, o2 + k * 6 + 4, none⟩ = some (.slice na2 (List.map strv x.names).length nc2) ∧ w'.cell? ⟨g2, o2 + k * 6 + 5, none⟩ = some (.slice ka2 (List.map intv x.kids).length kc2)) (go_keep) (fail)
      all_goals
        go_wp2
        generalize hW : World.drew (World.alloc (World.alloc wr _) _) = W0
        have hb0 : Below wr.heap.size wr W0 := by rw [← hW]; exact (((Below.refl _ _).alloc (Nat.le_refl _) _).alloc (by simp) _).drew
        have hcell := two_cells hW
        have x4 := hcell.1 4; have x5 := hcell.1 5; have y4 := hcell.2 4; have y5 := hcell.2 5
        simp only [List.getElem?_toArray, List.getElem?_cons_succ, List.getElem?_cons_zero] at x4 x5 y4 y5
        clear hcell hW
        have HX : Hid (∀ w', Below W0.heap.size W0 w' → _ ∧ _ ∧ _ ∧ _) := fun w' hb => ⟨(hb.cell (block_lt_of_cell x4)).trans x4, (hb.cell (block_lt_of_cell x5)).trans x5, (hb.cell (block_lt_of_cell y4)).trans y4, (hb.cell (block_lt_of_cell y5)).trans y5⟩
        clear x4 x5 y4 y5
        go_loopw [8] (fun i wq => ∃ m : Nat, m ≤ x.names.length ∧ i = .int .i64 m ∧ Below W0.heap.size W0 wq) (fun i _ => x.names.length - (intOf i).toNat)
        case atStart => exact ⟨0, Nat.zero_le _, rfl, Below.refl _ _⟩
        case round =>
          obtain ⟨m, hm, rfl, hbq⟩ := hrel
          obtain ⟨x4, x5, y4, y5⟩ := HX.out _ hbq
          by_cases hlm : m < x.names.length
          · obtain ⟨gn, rfl, hcn⟩ := hn m (strv x.names[m]) (by simp [hlm])
            obtain ⟨gn2, rfl, hcn2⟩ := hn2 m (strv x.names[m]) (by simp [hlm])
            unfold strv at hcn hcn2
            have e1 := ((hb0.trans (hbq.mono hb0.size)).cell (block_lt_of_cell hcn)).trans hcn
            have e2 := ((hb0.trans (hbq.mono hb0.size)).cell (block_lt_of_cell hcn2)).trans hcn2
            clear hcn hcn2
            have HM : Hid (m + 1 ≤ x.names.length) := hlm
            go_wp2
            go_quiet (fail)
            go_wp2
            go_roundw
            case rel => exact ⟨m + 1, HM.out, by go_num, below_drewN hbq _⟩
            case measure => have := HM.out; simp [intOf]; omega
          · go_wp2
            go_loopw [9] (fun i wq => ∃ m : Nat, m ≤ x.kids.length ∧ i = .int .i64 m ∧ Below W0.heap.size W0 wq) (fun i _ => x.kids.length - (intOf i).toNat)
            case atStart => exact ⟨0, Nat.zero_le _, rfl, hbq⟩
            case round =>
              clear x4 x5 y4 y5 hbq
              obtain ⟨n, hn3, rfl, hbq⟩ := hrel
              obtain ⟨x4, x5, y4, y5⟩ := HX.out _ hbq
              by_cases hln : n < x.kids.length
              · obtain ⟨gk, rfl, hck⟩ := hkk n (intv x.kids[n]) (by simp [hln])
                obtain ⟨gk2, rfl, hck2⟩ := hkk2 n (intv x.kids[n]) (by simp [hln])
                unfold intv at hck hck2
                have e1 := ((hb0.trans (hbq.mono hb0.size)).cell (block_lt_of_cell hck)).trans hck
                have e2 := ((hb0.trans (hbq.mono hb0.size)).cell (block_lt_of_cell hck2)).trans hck2
                clear hck hck2
                have HM : Hid (n + 1 ≤ x.kids.length) := hln
                go_wp2
                go_quiet (fail)
                go_wp2
                go_roundw
                case rel => exact ⟨n + 1, HM.out, by go_num, below_drewN hbq _⟩
                case measure => have := HM.out; simp [intOf]; omega
              · go_wp2
                go_roundw
                case rel => exact ⟨k + 1, by omega, by go_num, hbr.trans ((hb0.trans (hbq.mono hb0.size)).mono hbr.size)⟩
                case measure => simp [intOf]; omega
    · go_wp2
      go_ret
      exact ⟨by simp, hbr⟩
end Go.Proofs.YtkpfiopgnobcdaaDoor
