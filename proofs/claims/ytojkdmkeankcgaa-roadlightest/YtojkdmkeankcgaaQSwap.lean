/-
  What the call of the order's Swap does.
-/
import Derived.Test.YtojkdmkeankcgaaQLess
namespace Go.Proofs.Ytojkdmkeankcgaa.Qu
open Go.RowKit Go.Maps

section
variable {w : World} {ob mb : Nat} {v : Value} {L : List Pr} {S : Nat → Prop}

theorem Pl.swap {D : DataW Unit} (h : Pl D L) (ht : Tidy D) {i j : Nat} (hi : i < L.length) (hj : j < L.length) (hij : i ≠ j) :
    Pl ((D.put (ki (at' L j).1) (dI i)).put (ki (at' L i).1) (dI j)) (swp L i j) := by
  have hsw := at_swp L hi hj
  have hn : (at' L j).1 ≠ (at' L i).1 := fun e => hij (h.inj hi hj e.symm)
  have hm := ht.isMap
  refine ⟨fun k hk => ?_, fun x hx => ?_, ?_⟩
  · rw [swp_len] at hk
    rw [hsw]
    by_cases e1 : k = j
    · rw [if_pos e1]
      exact ⟨has_put_same (hm.put _ _) (ki_key _) _, by rw [atKey_put_same (hm.put _ _) (ki_key _), e1]⟩
    · rw [if_neg e1]
      by_cases e2 : k = i
      · rw [if_pos e2]
        exact ⟨by rw [has_put_other (ki_ne hn)]; exact has_put_same hm (ki_key _) _, by rw [atKey_put_other (ki_ne hn), atKey_put_same hm (ki_key _), e2]⟩
      · rw [if_neg e2]
        have n1 : (at' L k).1 ≠ (at' L i).1 := fun e => e2 (h.inj hk hi e)
        have n2 : (at' L k).1 ≠ (at' L j).1 := fun e => e1 (h.inj hk hj e)
        rw [has_put_other (ki_ne n1), has_put_other (ki_ne n2), atKey_put_other (ki_ne n1), atKey_put_other (ki_ne n2)]
        exact h.here k hk
  · rw [swp_len] at hx
    have n1 : x ≠ (at' L i).1 := by have := hx j hj; rw [hsw, if_pos rfl] at this; exact this.symm
    have n2 : x ≠ (at' L j).1 := by have := hx i hi; rw [hsw, if_neg hij, if_pos rfl] at this; exact this.symm
    rw [has_put_other (ki_ne n1), has_put_other (ki_ne n2)]
    refine h.none x fun k hk e => ?_
    by_cases e1 : k = j
    · subst e1; exact n2 e.symm
    · by_cases e2 : k = i
      · subst e2; exact n1 e.symm
      · have := hx k hk
        rw [hsw, if_neg e1, if_neg e2] at this
        exact this e
  · have a := (h.here j hj).1
    have b := (h.here i hi).1
    have t1 : Tidy (D.put (ki (at' L j).1) (dI i)) := ht.put (ki_key _) _
    rw [size_put t1, size_put ht, has_put_other (ki_ne hn.symm), a, b, swp_len]
    simpa using h.size
theorem set_swp {i j : Nat} {p q : Pr} (hp : at' L i = p) (hq : at' L j = q) : (L.set i q).set j p = swp L i j := by rw [← hp, ← hq]; rfl

set_option maxRecDepth 100000 in
set_option maxHeartbeats 1600000 in
theorem swap_any (h : Ord w ob mb v L L S) (i j : Nat) (hi : i < L.length) (hj : j < L.length) (hij : i ≠ j) :
    Calls Try.prog 136 #[.pointer (some ⟨ob, 0, none⟩), .int .i64 i, .int .i64 j] w fun e w' => e = .returned (.tuple #[]) ∧ Ord w' ob mb v (swp L i j) (swp L i j) S ∧ Fr S w w' := by
  have o0 := h.c0
  have o1 := h.c1
  have HO : Hid (Ord w ob mb v L L S) := h
  obtain ⟨g, cap, rfl, h1, h2⟩ := h.row.nonempty (by omega)
  obtain ⟨a0, a1⟩ := h.row.cells i hi
  obtain ⟨b0, b1⟩ := h.row.cells j hj
  have za := h.row.frozen (i * 2)
  have za1 := h.row.frozen (i * 2 + 1)
  have zb := h.row.frozen (j * 2)
  have zb1 := h.row.frozen (j * 2 + 1)
  have hl := h.len
  have hgo : ¬ g = ob := (h.og rfl).symm
  obtain ⟨p, hp⟩ : ∃ p, at' L i = p := ⟨_, rfl⟩
  obtain ⟨q, hq⟩ : ∃ q, at' L j = q := ⟨_, rfl⟩
  rw [hp] at a0 a1
  rw [hq] at b0 b1
  have HP : Hid (at' L i = p) := hp
  have HQ : Hid (at' L j = q) := hq
  obtain ⟨x, k⟩ := p
  obtain ⟨y, l⟩ := q
  simp only at a0 a1 b0 b1
  clear hp hq h
  have i1 : (i : Int) < (L.length : Int) := by omega
  have j1 : (j : Int) < (L.length : Int) := by omega
  have n1 : ¬ i * 2 = j * 2 := by omega
  have n2 : ¬ i * 2 + 1 = j * 2 := by omega
  have n3 : ¬ i * 2 = j * 2 + 1 := by omega
  have n4 : ¬ j * 2 = i * 2 := by omega
  have n5 : ¬ j * 2 + 1 = i * 2 := by omega
  have n6 : ¬ j * 2 = i * 2 + 1 := by omega
  clear hi hj hij
  go_enter Try.func136, Try.ntmps136
  go_wp2
  go_region
  have HI := HP.out; have HJ := HQ.out
  have hi : i < L.length := by omega
  have hj : j < L.length := by omega
  have hij : i ≠ j := by omega
  have HO2 := HO.out
  have hrow0 := ((HO2.row.set i hi (y, l)).set j (by simpa using hj) (x, k))
  rw [set_swp HI HJ] at hrow0
  have hF0 := (((((Fr.refl S w).setCell ⟨g, i * 2, none⟩ (.int .i64 y) (.inl (HO2.sr g rfl))).setCell ⟨g, i * 2 + 1, none⟩ (.int .i64 l) (.inl (HO2.sr g rfl))).setCell ⟨g, j * 2, none⟩ (.int .i64 x) (.inl (HO2.sr g rfl))).setCell ⟨g, j * 2 + 1, none⟩ (.int .i64 k) (.inl (HO2.sr g rfl))).drew
  have hgm : mb ≠ g := HO2.mg rfl
  have hom : mb ≠ ob := HO2.mo
  have hblk : ∀ b, b ≠ g → ((((w.setCell ⟨g, i * 2, none⟩ (.int .i64 y)).setCell ⟨g, i * 2 + 1, none⟩ (.int .i64 l)).setCell ⟨g, j * 2, none⟩ (.int .i64 x)).setCell ⟨g, j * 2 + 1, none⟩ (.int .i64 k)).drew.heap[b]? = w.heap[b]? := by
    intro b hb
    show ((((w.setCell ⟨g, i * 2, none⟩ (.int .i64 y)).setCell ⟨g, i * 2 + 1, none⟩ (.int .i64 l)).setCell ⟨g, j * 2, none⟩ (.int .i64 x)).setCell ⟨g, j * 2 + 1, none⟩ (.int .i64 k)).heap[b]? = _
    rw [heap_setCell_other _ _ b _ hb, heap_setCell_other _ _ b _ hb, heap_setCell_other _ _ b _ hb, heap_setCell_other _ _ b _ hb]
  have hrow : Row (((((w.setCell ⟨g, i * 2, none⟩ (.int .i64 y)).setCell ⟨g, i * 2 + 1, none⟩ (.int .i64 l)).setCell ⟨g, j * 2, none⟩ (.int .i64 x)).setCell ⟨g, j * 2 + 1, none⟩ (.int .i64 k)).drew) (.slice (some ⟨g, 0, none⟩) L.length cap) (swp L i j) := hrow0
  generalize hW : (((((w.setCell ⟨g, i * 2, none⟩ (.int .i64 y)).setCell ⟨g, i * 2 + 1, none⟩ (.int .i64 l)).setCell ⟨g, j * 2, none⟩ (.int .i64 x)).setCell ⟨g, j * 2 + 1, none⟩ (.int .i64 k)).drew) = W1 at hrow hF0 hblk ⊢
  clear hW a0 a1 b0 b1 za za1 zb zb1 hrow0
  obtain ⟨D, hD, hPl⟩ := HO2.map
  have hT := hD.tidy law
  obtain ⟨es, clock, hmb, hDr⟩ := hD
  have hD1 : OwnI W1 mb L.length D := ⟨es, clock, (hblk mb hgm).trans hmb, hDr⟩
  have hwx := (HO2.wf i hi).1
  have hwy := (HO2.wf j hj).1
  rw [HI] at hwx
  rw [HJ] at hwy
  have hw1 : ∀ n : Nat, n ≤ 4096 → I64 (n : Int) := fun n hn => ⟨by omega, by omega⟩
  have q0 : W1.cell? ⟨ob, 0, none⟩ = some (.slice (some ⟨g, 0, none⟩) L.length cap) := by rw [World.cell?_of_block (w := w) (hblk ob (Ne.symm hgo))]; exact o0
  have q1 : W1.cell? ⟨ob, 1, none⟩ = some (.map (some mb)) := by rw [World.cell?_of_block (w := w) (hblk ob (Ne.symm hgo))]; exact o1
  have hsw := at_swp L hi hj
  have q2 := (hrow.cells i (by rw [swp_len]; exact hi)).1
  have q3 := (hrow.cells j (by rw [swp_len]; exact hj)).1
  rw [hsw, if_neg hij, if_pos rfl, HJ] at q2
  rw [hsw, if_pos rfl, HI] at q3
  simp only at q2 q3
  obtain ⟨W2, hrun, hD2, hturn⟩ := World.ownsMap.store (w := W1.drew) (t := 109) (e := 3) hD1 law Try.underlying109 (by unfold maxLen; omega) (keyOf3 hwy) (plainElem_int Try.underlying3 (hw1 i (by omega)).wf)
  have hg2 := hturn.grown
  have hb2 : ∀ b, S b → b ≠ mb → W2.heap[b]? = W1.heap[b]? := fun b hs hb => hg2.block b (by have := HO2.lt _ hs; have := hF0.size; show b < W1.heap.size; omega) (by simp; exact hb)
  have r0 : W2.cell? ⟨ob, 0, none⟩ = some (.slice (some ⟨g, 0, none⟩) L.length cap) := by rw [World.cell?_of_block (w := W1) (hb2 ob HO2.so hom.symm)]; exact q0
  have r1 : W2.cell? ⟨ob, 1, none⟩ = some (.map (some mb)) := by rw [World.cell?_of_block (w := W1) (hb2 ob HO2.so hom.symm)]; exact q1
  have r3 : W2.cell? ⟨g, j * 2, none⟩ = some (.int .i64 x) := by rw [World.cell?_of_block (w := W1) (hb2 g (HO2.sr g rfl) hgm.symm)]; exact q3
  obtain ⟨W3, hrun3, hD3, hturn3⟩ := World.ownsMap.store (w := W2.drew) (t := 109) (e := 3) hD2 law Try.underlying109 (by unfold maxLen; omega) (keyOf3 hwx) (plainElem_int Try.underlying3 (hw1 j (by omega)).wf)
  have hg3 := hturn3.grown
  have hb3 : ∀ b, S b → b ≠ mb → W3.heap[b]? = W1.heap[b]? := fun b hs hb => (hg3.block b (by have := HO2.lt _ hs; have := hF0.size; have := hg2.size; show b < W2.heap.size; simp at *; omega) (by simp; exact hb)).trans (hb2 b hs hb)
  have HE : Hid (Ord W3 ob mb (.slice (some ⟨g, 0, none⟩) L.length cap) (swp L i j) (swp L i j) S ∧ Fr S w W3) := by
    have hfr : Fr S w W3 := (hF0.drew.trans0 (Fr.of_grown hg2 (fun k e => by cases e; exact HO2.sm))).drew.trans0 (Fr.of_grown hg3 (fun k e => by cases e; exact HO2.sm))
    have hpl := hPl.swap hT hi hj hij
    rw [HI, HJ] at hpl
    refine ⟨⟨(hb3 ob HO2.so hom.symm).trans ((hblk ob (Ne.symm hgo)).trans HO2.blk), hrow.of_block (fun b e => by cases e; exact hb3 g (HO2.sr g rfl) hgm.symm), ⟨_, ?_, hpl⟩, HO2.so, HO2.sm, HO2.sr, fun k hk => Nat.lt_of_lt_of_le (HO2.lt k hk) hfr.size, fun k hk => ?_, by rw [swp_len]; exact HO2.len⟩, hfr⟩
    · exact World.ownsMap.mono (n' := (swp L i j).length) (OwnI.tight hD3) (Nat.le_of_eq hpl.size)
    · rw [swp_len] at hk
      rw [hsw]
      split
      · exact HO2.wf i hi
      · split
        · exact HO2.wf j hj
        · exact HO2.wf k hk
  clear hD1 hD2 hD3 hPl hturn hturn3 hg2 hg3 hb2 hb3 hsw hw1 hblk hF0 hrow HO2
  go_wp2
  go_region
  go_wp2
  go_region
  go_end0
  exact ⟨rfl, HE.out⟩
end
end Go.Proofs.Ytojkdmkeankcgaa.Qu
