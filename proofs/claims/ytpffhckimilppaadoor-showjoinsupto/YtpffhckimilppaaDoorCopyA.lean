/-
  An append onto an empty slice just made: a copy, in memory of its own.
-/
import Derived.Test.YtpffhckimilppaaDoorShTree
import Derived.Laws.AppendOwn
namespace Go.Proofs.YtpffhckimilppaaDoor
open Go.RowKit

theorem copy_run (w : World) (B : Nat) (t ty e : TypeId) (i : TypeInfo) (z : Value) (ht : Tryd.prog.underlying t = some (.slice e)) (hi : Tryd.prog.info? e = some i) (hz : i.zero = some z)
    (src : Option Addr) (m c : Nat) (news : List Value) (hl : news.length = m * i.size) (hsrc : m ≠ 0 → ∃ ad, src = some ad ∧ ∀ j u, news[j]? = some u → w.cell? (ad.add j) = some u)
    (h63 : m ≤ 9223372036854775807) (hby : m * i.bytes ≤ 140737488355328) :
    ∃ a' c' w', (Builtin.append_ #[t, t] ty #[.slice (some ⟨B, 0, none⟩) 0 0, .slice src m c]).run Tryd.prog w = .ok (.slice a' m c') w' ∧ Below w.heap.size w w' ∧
      (m ≠ 0 → a' = some ⟨w.heap.size, 0, none⟩ ∧ ∃ cs : Array Value, w'.heap[w.heap.size]? = some (.cells cs e (0, 0)) ∧ m * i.size ≤ cs.size ∧ ∀ (j : Nat) (u : Value), news[j]? = some u → cs[j]? = some u) := by
  by_cases hm : m = 0
  · subst hm
    refine ⟨some ⟨B, 0, none⟩, 0, w, ?_, Below.refl _ _, fun h => absurd rfl h⟩
    cases src <;> simp [Builtin.append_, run_underlying ht, sizeOf, typeInfo, hi, Builtin.lenOf, Builtin.firstCells, loadCells, loadCellsFrom, storeCells]
  · obtain ⟨ad, rfl, hnews⟩ := hsrc hm
    have hr := run_append_grow (P := Tryd.prog) w t ty e i z ht hi hz ⟨B, 0, none⟩ 0 0 [] (by simp) (fun j u h => by simp at h) ad m c news hl hnews (by omega) (by omega) (growslice_fits (by omega) (by rw [Nat.zero_add]; exact hby))
    refine ⟨_, _, _, by simpa using hr, ?_, fun _ => ⟨rfl, _, heap_alloc_new w.drew _, ?_, ?_⟩⟩
    · exact (Below.refl _ _).drew.alloc (Nat.le_refl _) _
    · simp [hl]
    · intro j u hu
      have hj := (List.getElem?_eq_some_iff.1 hu).1
      rw [Array.getElem?_append_left (by simpa using hj)]
      simpa using hu
/-- A slice of elements of one cell that reads so, and lies in other blocks than R. -/
def SlAtN (w : World) (R : Nat) (v : Value) (xs : List Value) : Prop := ∃ a cap, v = .slice a xs.length cap ∧ xs.length ≤ 9223372036854775807 ∧ ∀ (j : Nat) (u : Value), xs[j]? = some u → ∃ g : Addr, a = some g ∧ g.block ≠ R ∧ w.cell? (g.add j) = some u
theorem SlAtN.at {w : World} {R : Nat} {v : Value} {xs : List Value} (h : SlAtN w R v xs) : SlAt w v xs := by
  obtain ⟨a, c, e, hl, hc⟩ := h
  exact ⟨a, c, e, hl, fun j u hu => by obtain ⟨g, h1, _, h3⟩ := hc j u hu; exact ⟨g, h1, h3⟩⟩
theorem add_block (g : Addr) (j : Nat) : (g.add j).block = g.block := by unfold Addr.add; split <;> rfl
theorem SlAtN.later {w w' : World} {R : Nat} {v : Value} {xs : List Value} (h : SlAtN w R v xs) (hb : Below w.heap.size w w') : SlAtN w' R v xs := by
  obtain ⟨a, c, e, hl, hc⟩ := h
  exact ⟨a, c, e, hl, fun j u hu => by obtain ⟨g, h1, h2, h3⟩ := hc j u hu; exact ⟨g, h1, h2, (hb.cell (block_lt_of_cell h3)).trans h3⟩⟩
theorem SlAtN.store {w : World} {R k : Nat} {v y : Value} {xs : List Value} (h : SlAtN w R v xs) : SlAtN (w.setCell ⟨R, k, none⟩ y) R v xs := by
  obtain ⟨a, c, e, hl, hc⟩ := h
  exact ⟨a, c, e, hl, fun j u hu => by
    obtain ⟨g, h1, h2, h3⟩ := hc j u hu
    refine ⟨g, h1, h2, (World.cell?_of_block (w := w) (heap_setCell_other w ⟨R, k, none⟩ _ y ?_)).trans h3⟩
    rw [add_block]; exact h2⟩
theorem SlAt.apart {w : World} {R : Nat} {v : Value} {xs : List Value} (h : SlAt w v xs) (hR : w.heap.size ≤ R) : SlAtN w R v xs := by
  obtain ⟨a, c, e, hl, hc⟩ := h
  exact ⟨a, c, e, hl, fun j u hu => by
    obtain ⟨g, h1, h3⟩ := hc j u hu
    have := block_lt_of_cell h3
    rw [add_block] at this
    exact ⟨g, h1, by omega, h3⟩⟩
/-- A copy of such a slice. -/
theorem slat_copy (w : World) (B R : Nat) (t ty e : TypeId) (i : TypeInfo) (z : Value) (ht : Tryd.prog.underlying t = some (.slice e)) (hi : Tryd.prog.info? e = some i) (hz : i.zero = some z) (hz1 : i.size = 1)
    {src : Value} {xs : List Value} (h : SlAt w src xs) (hby : xs.length * i.bytes ≤ 140737488355328) (hR : R < w.heap.size) :
    ∃ v' w', (Builtin.append_ #[t, t] ty #[.slice (some ⟨B, 0, none⟩) 0 0, src]).run Tryd.prog w = .ok v' w' ∧ Below w.heap.size w w' ∧ SlAtN w' R v' xs := by
  obtain ⟨a, c, rfl, hl, hc⟩ := h
  obtain ⟨a', c', w', hr, hb, hn⟩ := copy_run w B t ty e i z ht hi hz a xs.length c xs (by rw [hz1, Nat.mul_one]) (fun hm => by
    obtain ⟨x0, hx0⟩ : ∃ x0, xs[0]? = some x0 := ⟨_, List.getElem?_eq_getElem (by omega)⟩
    obtain ⟨g, e1, _⟩ := hc 0 x0 hx0
    subst e1
    exact ⟨g, rfl, fun j u hu => by obtain ⟨g', e2, h3⟩ := hc j u hu; cases e2; exact h3⟩) hl hby
  refine ⟨_, w', hr, hb, a', c', rfl, hl, fun j u hu => ?_⟩
  have hm : xs.length ≠ 0 := by have := (List.getElem?_eq_some_iff.1 hu).1; omega
  obtain ⟨ea, cs, h2, _, h4⟩ := hn hm
  subst ea
  refine ⟨_, rfl, ?_, ?_⟩
  · show w.heap.size ≠ R; omega
  · rw [add0, cell_of_row _ w.heap.size j _ _ _ h2]; exact h4 j u hu
/-- The row of a copied tree. -/
structure OutT (w : World) (R : Nat) (T : List VI) : Prop where
  row : ∃ cs : Array Value, w.heap[R]? = some (.cells cs 42 (0, 0)) ∧ T.length * 6 ≤ cs.size ∧ ∀ (i : Nat) (x : VI), T[i]? = some x → ∃ nv kv, SlAtN w R nv (x.names.map strv) ∧ SlAtN w R kv (x.kids.map intv) ∧ ∀ (j : Nat) (u : Value), (aggI x nv kv)[j]? = some u → cs[i * 6 + j]? = some u
theorem OutT.lt {w : World} {R : Nat} {T : List VI} (h : OutT w R T) : R < w.heap.size := by
  obtain ⟨cs, h1, _⟩ := h.row
  exact (Array.getElem?_eq_some_iff.1 h1).1
theorem OutT.later {w w' : World} {R : Nat} {T : List VI} (h : OutT w R T) (hb : Below w.heap.size w w') : OutT w' R T := by
  obtain ⟨cs, h1, h2, h3⟩ := h.row
  exact ⟨cs, (hb.block R h.lt).trans h1, h2, fun i x hx => by obtain ⟨nv, kv, a, b, c⟩ := h3 i x hx; exact ⟨nv, kv, a.later hb, b.later hb, c⟩⟩
theorem OutT.tree {w : World} {R cap : Nat} {T : List VI} (h : OutT w R T) (hl : T.length ≤ 9223372036854775807) : TreeAt w (.slice (some ⟨R, 0, none⟩) T.length cap) T := by
  obtain ⟨cs, h1, h2, h3⟩ := h.row
  refine ⟨_, cap, rfl, hl, fun i x hx => ?_⟩
  obtain ⟨nv, kv, a, b, c⟩ := h3 i x hx
  refine ⟨R, 0, nv, kv, rfl, ⟨a.at, b.at⟩, fun j u hu => ?_⟩
  rw [cell_of_row _ R (0 + i * 6 + j) _ _ _ h1, Nat.zero_add]
  exact c j u hu
theorem agg_lt {x : VI} {nv kv : Value} {j : Nat} {u : Value} (h : (aggI x nv kv)[j]? = some u) : j < 6 := by
  have := (List.getElem?_eq_some_iff.1 h).1
  simpa [aggI] using this
theorem OutT.store {w : World} {R : Nat} {T : List VI} (h : OutT w R T) {i : Nat} {x : VI} (hx : T[i]? = some x) {nv kv : Value} (hn : SlAtN w R nv (x.names.map strv)) (hk : SlAtN w R kv (x.kids.map intv)) :
    OutT ((w.setCell ⟨R, i * 6 + 4, none⟩ nv).setCell ⟨R, i * 6 + 5, none⟩ kv) R T := by
  obtain ⟨cs, h1, h2, h3⟩ := h.row
  have hi := (List.getElem?_eq_some_iff.1 hx).1
  refine ⟨(cs.setIfInBounds (i * 6 + 4) nv).setIfInBounds (i * 6 + 5) kv, heap_setCell_same _ R _ _ _ _ (heap_setCell_same w R _ _ _ _ h1), by simpa using h2, fun i' x' hx' => ?_⟩
  by_cases e : i' = i
  · subst e
    rw [hx] at hx'; cases hx'
    obtain ⟨nv0, kv0, _, _, c⟩ := h3 i' x hx
    refine ⟨nv, kv, hn.store.store, hk.store.store, fun j u hu => ?_⟩
    have hj := agg_lt hu
    have hj6 : j = 0 ∨ j = 1 ∨ j = 2 ∨ j = 3 ∨ j = 4 ∨ j = 5 := by omega
    have hsz : i' * 6 + 5 < cs.size := by omega
    rcases hj6 with rfl | rfl | rfl | rfl | rfl | rfl
    · rw [Array.getElem?_setIfInBounds_ne (by omega), Array.getElem?_setIfInBounds_ne (by omega)]; exact c 0 u hu
    · rw [Array.getElem?_setIfInBounds_ne (by omega), Array.getElem?_setIfInBounds_ne (by omega)]; exact c 1 u hu
    · rw [Array.getElem?_setIfInBounds_ne (by omega), Array.getElem?_setIfInBounds_ne (by omega)]; exact c 2 u hu
    · rw [Array.getElem?_setIfInBounds_ne (by omega), Array.getElem?_setIfInBounds_ne (by omega)]; exact c 3 u hu
    · rw [Array.getElem?_setIfInBounds_ne (by omega)]
      simp only [aggI] at hu
      rw [Array.getElem?_setIfInBounds_self_of_lt (by omega)]; exact hu
    · rw [Array.getElem?_setIfInBounds_self_of_lt (by simp; omega)]; exact hu
  · obtain ⟨nv0, kv0, a, b, c⟩ := h3 i' x' hx'
    refine ⟨nv0, kv0, a.store.store, b.store.store, fun j u hu => ?_⟩
    have hj := agg_lt hu
    rw [Array.getElem?_setIfInBounds_ne (by omega), Array.getElem?_setIfInBounds_ne (by omega)]
    exact c j u hu
end Go.Proofs.YtpffhckimilppaaDoor
