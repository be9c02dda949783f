/-
  What the call of the order's Pop does.
-/
import Derived.Test.YtojkdmkeankcgaaQLess
namespace Go.Proofs.Ytojkdmkeankcgaa.Qu
open Go.RowKit Go.Maps

section
variable {w : World} {ob mb : Nat} {v : Value} {L M : List Pr} {S : Nat → Prop}
theorem flat_take : ∀ (L : List Pr) (n : Nat), (flat L).take (n * 2) = flat (L.take n)
  | [], n => by simp [flat]
  | p :: r, 0 => by simp [flat]
  | p :: r, n + 1 => by
    rw [show flat (p :: r) = cellsOf p ++ flat r from rfl, show (p :: r).take (n + 1) = p :: r.take n from rfl, show flat (p :: r.take n) = cellsOf p ++ flat (r.take n) from rfl, ← flat_take r n, show (n + 1) * 2 = n * 2 + 2 by omega]
    simp [cellsOf]
theorem Row.cut {g n cap m : Nat} (h : Row w (.slice (some ⟨g, 0, none⟩) n cap) L) (hm : m ≤ L.length) : Row w (.slice (some ⟨g, 0, none⟩) m cap) (L.take m) := by
  have hlm : (L.take m).length = m := by simp; omega
  refine ⟨flat_len _, ?_⟩
  rcases h.2 with ⟨h2, _⟩ | ⟨g2, cap2, cur, e, a, hb, r1, r2, r3, r4⟩
  · cases h2
  · cases e
    refine .inr ⟨g, cap, cur, by rw [hlm], a, hb, by omega, r2, r3, ?_⟩
    rw [hlm, ← flat_take, ← r4, List.take_take, Nat.min_eq_left (by omega)]
theorem at_take {m i : Nat} (hi : i < m) : at' (L.take m) i = at' L i := by
  unfold at'
  simp [List.getD_eq_getElem?_getD, hi]

set_option maxRecDepth 100000 in
set_option maxHeartbeats 800000 in
theorem pop_any (h : Ord w ob mb v L M S) (n : Nat) (hn : L.length = n + 1) :
    Calls Try.prog 134 #[.pointer (some ⟨ob, 0, none⟩)] w fun e w' => e = .returned (.iface 121 (.agg #[.int .i64 (at' L n).1, .int .i64 (at' L n).2])) ∧ ∃ v', Ord w' ob mb v' (L.take n) M S ∧ Fr S w w' := by
  have o0 := h.c0
  have HO : Hid (Ord w ob mb v L M S) := h
  obtain ⟨g, cap, hv, h1, h2⟩ := h.row.nonempty (by omega)
  have zf := h.f 0
  have hl := h.len
  subst hv
  obtain ⟨a0, a1⟩ := h.row.cells n (by omega)
  have ho : ob < w.heap.size := h.lt _ h.so
  have hg : g < w.heap.size := h.lt _ (h.sr g rfl)
  have g1 : ¬ w.heap.size = g := by omega
  have g2 : ¬ w.heap.size = ob := by omega
  rw [hn] at o0 h1 hl
  clear h
  obtain ⟨x, hx⟩ : ∃ x, (at' L n).1 = x := ⟨_, rfl⟩
  obtain ⟨k, hk⟩ : ∃ k, (at' L n).2 = k := ⟨_, rfl⟩
  rw [hx] at a0 ⊢
  rw [hk] at a1 ⊢
  have HN : Hid (L.length = n + 1) := hn
  have hb1 : Below w.heap.size w (w.alloc (.cells #[.int .i64 x, .int .i64 k] 121)) := (Below.refl _ _).alloc (Nat.le_refl _) _
  have p0 := (hb1.cell (p := ⟨ob, 0, none⟩) ho).trans o0
  have p1 := (hb1.frozen (p := ⟨ob, 0, none⟩) ho).trans zf
  have HOB : Hid (ob < w.heap.size) := ho
  clear hx hk hn ho hg
  go_enter Try.func134, Try.ntmps134
  go_wp2
  go_ret
  refine ⟨rfl, .slice (some ⟨g, 0, none⟩) n cap, ?_⟩
  have hO := HO.out.later hb1
  have hF := ((Fr.of_below hb1 : Fr S w _).setCell ⟨ob, 0, none⟩ (.slice (some ⟨g, 0, none⟩) n cap) (.inl hO.so))
  have hlen := HN.out
  refine ⟨⟨?_, ?_, ?_, hO.so, hO.sm, fun b e => hO.sr b (by simpa [Value.ownBlock] using e), fun b hb => Nat.lt_of_lt_of_le (HO.out.lt _ hb) hF.size, fun i hi => ?_, by simp; omega⟩, hF⟩
  · rw [heap_setCell_same _ ob 0 _ _ _ hO.blk]; rfl
  · exact (hO.row.cut (by omega)).of_block (fun b e => heap_setCell_other _ _ _ _ (by have := hO.og (g := b) (by simpa [Value.ownBlock] using e); exact this.symm))
  · exact hO.map.of_block (heap_setCell_other _ _ _ _ hO.mo)
  · have hi' : i < n := by simp at hi; omega
    rw [at_take hi']
    exact hO.wf i (by omega)
end
end Go.Proofs.Ytojkdmkeankcgaa.Qu
