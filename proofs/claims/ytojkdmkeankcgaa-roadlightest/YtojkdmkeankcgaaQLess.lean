/-
  What the calls of the order's Len and Less do.
-/
import Derived.Test.YtojkdmkeankcgaaQBase
namespace Go.Proofs.Ytojkdmkeankcgaa.Qu
open Go.RowKit Go.Maps

section
variable {w : World} {ob mb : Nat} {v : Value} {L M : List Pr} {S : Nat → Prop}
theorem len_any (h : Ord w ob mb v L M S) : Calls Try.prog 87 #[.pointer (some ⟨ob, 0, none⟩)] w fun e w' => e = .returned (.int .i64 L.length) ∧ w' = w := by
  have c0 := h.c0
  obtain ⟨a, cap, rfl, h1, h2⟩ := h.row.shape
  go_enter Try.func87, Try.ntmps87
  go_wp2
  go_ret
  exact ⟨rfl, rfl⟩

set_option maxRecDepth 100000 in
set_option maxHeartbeats 800000 in
theorem less_any (h : Ord w ob mb v L M S) (i j : Nat) (hi : i < L.length) (hj : j < L.length) :
    Calls Try.prog 133 #[.pointer (some ⟨ob, 0, none⟩), .int .i64 i, .int .i64 j] w fun e w' => e = .returned (.bool (lt (at' L i) (at' L j))) ∧ Below w.heap.size w w' := by
  have o0 := h.c0
  obtain ⟨g, cap, rfl, h1, h2⟩ := h.row.nonempty (by omega)
  obtain ⟨a0, a1⟩ := h.row.cells i hi
  obtain ⟨b0, b1⟩ := h.row.cells j hj
  have hl := h.len
  have ho : ob < w.heap.size := h.lt _ h.so
  have hgg : g < w.heap.size := h.lt _ (h.sr g rfl)
  have HL : Hid (lt (at' L i) (at' L j) = decide ((at' L i).2 < (at' L j).2 ∨ (at' L i).2 = (at' L j).2 ∧ (at' L i).1 < (at' L j).1)) := rfl
  obtain ⟨p, hp⟩ : ∃ p, at' L i = p := ⟨_, rfl⟩
  obtain ⟨q, hq⟩ : ∃ q, at' L j = q := ⟨_, rfl⟩
  rw [hp] at a0 a1
  rw [hq] at b0 b1
  have HR : Hid (lt (at' L i) (at' L j) = lt p q) := by rw [hp, hq]; exact rfl
  obtain ⟨x, k⟩ := p
  obtain ⟨y, l⟩ := q
  simp only at a0 a1 b0 b1
  clear hp hq HL h
  have g1 : ¬ w.heap.size = g := by omega
  have g2 : ¬ w.heap.size + 1 = g := by omega
  have g3 : ¬ w.heap.size = ob := by omega
  have g4 : ¬ w.heap.size + 1 = ob := by omega
  have i1 : (i : Int) < (L.length : Int) := by omega
  have j1 : (j : Int) < (L.length : Int) := by omega
  clear ho hgg hi hj
  go_enter Try.func133, Try.ntmps133
  go_wp2
  go_region_held (fun w' => w'.cell? ⟨ob, 0, none⟩ = some (.slice (some ⟨g, 0, none⟩) L.length cap) ∧ w'.cell? ⟨g, i * 2, none⟩ = some (.int .i64 x) ∧ w'.cell? ⟨g, i * 2 + 1, none⟩ = some (.int .i64 k) ∧ w'.cell? ⟨g, j * 2, none⟩ = some (.int .i64 y) ∧ w'.cell? ⟨g, j * 2 + 1, none⟩ = some (.int .i64 l)) (go_keep) (fail)
  all_goals
    go_wp2
    all_goals
      rename_i hk
      go_ret
      refine ⟨?_, (((Below.refl _ _).alloc (Nat.le_refl _) _).alloc (by simp) _).drew⟩
      rw [HR.out]
      simp at hk
      simp [lt, hk]
end
end Go.Proofs.Ytojkdmkeankcgaa.Qu
