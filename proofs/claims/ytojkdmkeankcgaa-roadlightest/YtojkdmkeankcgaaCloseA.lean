/-
  Plain steps of short's close, in memory.
-/
import Derived.Test.YtojkdmkeankcgaaSearch
import Derived.Test.YtojkdmkeankcgaaDijkP
import Derived.Test.YtojkdmkeankcgaaReads
namespace Go.Proofs.Ytojkdmkeankcgaa
open Go.RowKit Go.Sort

theorem plus_any (a b : Int) (ha : 0 ≤ a ∧ a ≤ 4000000000) (hb : 0 ≤ b ∧ b ≤ 4000000000) (w : World) : Calls Try.prog 70 #[.int .i64 a, .int .i64 b] w fun e w' => e = .returned (.int .i64 (a + b)) ∧ w' = w := by
  go_enter Try.func70, Try.ntmps70
  go_wp2
  go_ret
  exact ⟨rfl, rfl⟩
theorem map_set {α : Type} (f f' : Nat → α) (n p : Nat) (h : ∀ v, v ≠ p → f' v = f v) : ((List.range n).map f).set p (f' p) = (List.range n).map f' := by
  apply List.ext_getElem
  · simp
  · intro i h1 h2
    rw [List.getElem_set]
    split
    · rename_i e; subst e; simp
    · rename_i e; simp; exact (h i (fun e2 => e e2.symm)).symm
section
variable {B sb q gc gl ga n : Nat} {w w' : World} {D : Nat → Option Int} {A : Nat → Int} {X X' : List Qu.Pr} {S S' : Nat → Prop}
theorem SrAt.nes (h : SrAt B w sb q gc gl ga n D A X S) : sb ≠ gc ∧ sb ≠ gl ∧ sb ≠ ga ∧ gc ≠ gl ∧ gc ≠ ga := by
  refine ⟨fun e => ?_, fun e => ?_, fun e => ?_, fun e => ?_, fun e => ?_⟩
  · have := h.box; rw [e, h.clo] at this; simp at this
  · have := h.box; rw [e, h.lst] at this; simp at this
  · have := h.box; rw [e, h.ahd] at this; simp at this
  · have := h.clo; rw [e, h.lst] at this; simp at this
  · have := h.clo; rw [e, h.ahd] at this; simp at this
theorem QAt_set {b j : Nat} (h : Qu.QAt w q X S) (hb : ¬ S b) (u : Value) : Qu.QAt (w.setCell ⟨b, j, none⟩ u) q X S :=
  h.fr (T := fun k => k = b) ((Qu.Fr.refl _ _).setCell _ _ (.inl rfl)) (fun _ hk e => hb (e ▸ hk))
/-- A place is closed: its mark, and its least weight. -/
theorem SrAt.mark (h : SrAt B w sb q gc gl ga n D A X S) (p : Nat) (k : Int) : SrAt B ((w.setCell ⟨gc, p, none⟩ (.bool true)).setCell ⟨gl, p, none⟩ (.int .i64 k)) sb q gc gl ga n (upd D p (some k)) A X S := by
  obtain ⟨n1, n2, n3, n4, n5⟩ := h.nes
  have e1 := map_set (fun v => Value.bool (D v).isSome) (fun v => Value.bool (upd D p (some k) v).isSome) n p (fun v hv => by rw [upd_other _ _ hv])
  have e2 := map_set (fun v => Value.int .i64 ((D v).getD (-1))) (fun v => Value.int .i64 ((upd D p (some k) v).getD (-1))) n p (fun v hv => by rw [upd_other _ _ hv])
  simp only [upd_same, Option.isSome_some, Option.getD_some] at e1 e2
  refine ⟨?_, ?_, ?_, ?_, QAt_set (QAt_set h.que h.out.2.1 _) h.out.2.2.1 _, h.ne, h.out, h.ge⟩
  · rw [heap_setCell_other _ _ _ _ n2, heap_setCell_other _ _ _ _ n1]; exact h.box
  · rw [heap_setCell_other _ _ _ _ n4, heap_setCell_same w gc p _ _ _ h.clo, ← e1]; simp
  · have := heap_setCell_same (w.setCell ⟨gc, p, none⟩ (.bool true)) gl p _ _ (.int .i64 k) (by rw [heap_setCell_other _ _ _ _ n4.symm]; exact h.lst)
    rw [this, ← e2]; simp
  · rw [heap_setCell_other _ _ _ _ h.ne.symm, heap_setCell_other _ _ _ _ n5.symm]; exact h.ahd
theorem SrAt.lead (h : SrAt B w sb q gc gl ga n D A X S) (v p : Nat) : SrAt B (w.setCell ⟨ga, v, none⟩ (.int .i64 p)) sb q gc gl ga n D (upd A v (p : Int)) X S := by
  obtain ⟨n1, n2, n3, n4, n5⟩ := h.nes
  have e1 := map_set (fun u => Value.int .i64 (A u)) (fun u => Value.int .i64 (upd A v (p : Int) u)) n v (fun u hu => by rw [upd_other _ _ hu])
  simp only [upd_same] at e1
  refine ⟨?_, ?_, ?_, ?_, QAt_set h.que h.out.2.2.2 _, h.ne, h.out, h.ge⟩
  · rw [heap_setCell_other _ _ _ _ n3]; exact h.box
  · rw [heap_setCell_other _ _ _ _ n5]; exact h.clo
  · rw [heap_setCell_other _ _ _ _ h.ne]; exact h.lst
  · rw [heap_setCell_same w ga v _ _ _ h.ahd, ← e1]; simp
theorem SrAt.cclo (h : SrAt B w sb q gc gl ga n D A X S) (v : Nat) (hv : v < n) : w.cell? ⟨gc, v, none⟩ = some (.bool (D v).isSome) ∧ w.frozen? ⟨gc, v, none⟩ = false := ⟨by rw [cell_of_row _ gc v _ _ _ h.clo]; simp [hv], frozen_of_row w gc v _ _ h.clo⟩
theorem SrAt.clst (h : SrAt B w sb q gc gl ga n D A X S) (v : Nat) (hv : v < n) : w.cell? ⟨gl, v, none⟩ = some (.int .i64 ((D v).getD (-1))) ∧ w.frozen? ⟨gl, v, none⟩ = false := ⟨by rw [cell_of_row _ gl v _ _ _ h.lst]; simp [hv], frozen_of_row w gl v _ _ h.lst⟩
theorem SrAt.cahd (h : SrAt B w sb q gc gl ga n D A X S) (v : Nat) (hv : v < n) : w.cell? ⟨ga, v, none⟩ = some (.int .i64 (A v)) ∧ w.frozen? ⟨ga, v, none⟩ = false := ⟨by rw [cell_of_row _ ga v _ _ _ h.ahd]; simp [hv], frozen_of_row w ga v _ _ h.ahd⟩
theorem SrAt.drewN (h : SrAt B w sb q gc gl ga n D A X S) (k : Nat) : SrAt B (w.drewN k) sb q gc gl ga n D A X S := h.later (Qu.below_drewN (Below.refl _ _) k)
theorem sr_put2 (h : SrAt B w sb q gc gl ga n D A X S) (hB : B ≤ w.heap.size) (x k : Int) (hx : Qu.I64 x) (hk : Qu.I64 k) :
    Calls Try.prog 36 #[.pointer (some ⟨q, 0, none⟩), .int .i64 x, .int .i64 k] w fun e w' => e = .returned (.bool (Qu.putM X x k).2) ∧ ∃ S', SrAt B w' sb q gc gl ga n D A (Qu.putM X x k).1 S' ∧ Qu.Fr S w w' ∧ (∀ k, S' k → S k ∨ w.heap.size ≤ k) := by
  refine (Qu.put_any h.que x k hx hk).mono ?_
  rintro e w' ⟨rfl, h1, h2⟩
  have hs : ∀ k, Qu.grow S w w' k → S k ∨ w.heap.size ≤ k := fun k e => by rcases e with e | e; exact .inl e; exact .inr e.1
  exact ⟨rfl, _, h.queue h1 h2 hs hB, h2, hs⟩
end
/-- A row of edges that no search writes. -/
def ERow (w : World) (va : Option Addr) (R : List (Int × Int)) (gc gl ga : Nat) (S : Nat → Prop) : Prop :=
  ∀ k, k < R.length → ∃ gb, va = some ⟨gb, 0, none⟩ ∧ ¬ S gb ∧ gb ≠ gc ∧ gb ≠ gl ∧ gb ≠ ga ∧ w.cell? ⟨gb, k * 2, none⟩ = some (.int .i64 (R[k]!).1) ∧ w.cell? ⟨gb, k * 2 + 1, none⟩ = some (.int .i64 (R[k]!).2)
section
variable {w w' : World} {va : Option Addr} {R : List (Int × Int)} {gc gl ga : Nat} {S S' : Nat → Prop}
theorem ERow.fr (h : ERow w va R gc gl ga S) (f : Qu.Fr S w w') (hS : ∀ k, S' k → S k ∨ w.heap.size ≤ k) : ERow w' va R gc gl ga S' := fun k hk => by
  obtain ⟨gb, e, h1, h2, h3, h4, h5, h6⟩ := h k hk
  have hlt : gb < w.heap.size := block_lt_of_cell h5
  have hb := f.block gb hlt h1
  refine ⟨gb, e, fun e2 => by rcases hS gb e2 with e3 | e3; exact h1 e3; omega, h2, h3, h4, ?_, ?_⟩
  · rw [← h5]; unfold World.cell?; simp only [hb]
  · rw [← h6]; unfold World.cell?; simp only [hb]
theorem ERow.later (h : ERow w va R gc gl ga S) (f : Below w.heap.size w w') : ERow w' va R gc gl ga S := h.fr (Qu.Fr.of_below f) (fun _ h => .inl h)
theorem ERow.set (h : ERow w va R gc gl ga S) {b j : Nat} (hb : b = gc ∨ b = gl ∨ b = ga) (u : Value) : ERow (w.setCell ⟨b, j, none⟩ u) va R gc gl ga S := fun k hk => by
  obtain ⟨gb, e, h1, h2, h3, h4, h5, h6⟩ := h k hk
  have hne : gb ≠ b := by rcases hb with e | e | e <;> (rw [e]; assumption)
  refine ⟨gb, e, h1, h2, h3, h4, ?_, ?_⟩
  · rw [World.cell?_setCell_other _ _ _ _ (fun e => hne (by cases e; rfl))]; exact h5
  · rw [World.cell?_setCell_other _ _ _ _ (fun e => hne (by cases e; rfl))]; exact h6
end
end Go.Proofs.Ytojkdmkeankcgaa
