/-
  Small facts on memory: blocks that are made, rows of zeroes, a queue that is new.
-/
import Derived.Test.YtojkdmkeankcgaaGreatZQb
import Derived.Test.YtojkdmkeankcgaaGreatZRepeat
import Derived.Deep.CutRange
namespace Go.Proofs.YtojkdmkeankcgaaGreat
open Go.RowKit Go.Sort

theorem new_exact (w : World) : Calls Tryz.prog 30 #[] w fun e w' => e = .returned (.pointer (some ⟨w.heap.size, 0, none⟩)) ∧ w' = w.alloc (.cells #[.pointer none] 111) := by
  go_enter Tryz.func30, Tryz.ntmps30
  go_wp2
  go_ret
  exact ⟨rfl, rfl⟩
theorem info4 : (Tryz.prog.info? 4).map (fun i => (i.zero, i.size, i.bytes)) = some (some (.bool false), 1, 1) := by kernel_rfl
theorem made_bools (n : Nat) (hn : n ≤ 32) (w : World) : (Instr.makeSlice 88 (.int .i64 n) (.int .i64 n)).run Tryz.prog w = .ok (.slice (some ⟨w.heap.size, 0, none⟩) n n) (w.alloc (.cells (List.replicate n (.bool false)).toArray 4)) := by
  obtain ⟨i0, hi0, hz0, hz1, hz2⟩ := info_parts info4
  have := run_makeSlice (P := Tryz.prog) w 88 4 i0 _ Tryz.underlying88 hi0 hz0 .i64 .i64 n n (by omega) (by omega) (by rw [hz1]; omega) (by rw [hz2]; omega) (by omega)
  rw [hz1] at this
  simp only [Int.toNat_natCast, Nat.mul_one] at this
  have e : madeCells (Value.bool false).cells n = (List.replicate n (Value.bool false)).toArray := by
    apply Array.ext
    · simp [madeCells]
    · intro i h1 h2
      simp [madeCells, Value.cells, Nat.mod_one]
  rw [e] at this
  exact this
theorem heap_alloc_at (w : World) (o : Obj) (k : Nat) : (w.alloc o).heap[k]? = if k = w.heap.size then some o else w.heap[k]? := by
  unfold World.alloc
  rw [Array.getElem?_push]
theorem heap_drew (w : World) : w.drew.heap = w.heap := rfl
theorem heap_drewN (w : World) (q : Nat) : (w.drewN q).heap = w.heap := rfl
theorem size_alloc (w : World) (o : Obj) : (w.alloc o).heap.size = w.heap.size + 1 := by simp
theorem at_new {X : World} {o : Obj} {k : Nat} (h : X.heap.size = k) : (X.alloc o).heap[k]? = some o := by rw [heap_alloc_at, if_pos h.symm]
theorem at_old {X : World} {o o' : Obj} {k : Nat} (h : X.heap.size ≠ k) (h2 : X.heap[k]? = some o') : (X.alloc o).heap[k]? = some o' := by rw [heap_alloc_at, if_neg (fun e => h e.symm)]; exact h2
theorem at_drew {X : World} {o : Obj} {k q : Nat} (h : X.heap[k]? = some o) : (X.drewN q).heap[k]? = some o := h
theorem size_drewN (w : World) (q : Nat) : (w.drewN q).heap.size = w.heap.size := rfl
theorem below_drewN2 {B : Nat} {a w : World} (h : Below B a w) (q : Nat) : Below B a (w.drewN q) := Qu.below_drewN h q
theorem below_alloc2 {w X : World} (h : Below w.heap.size w X) (o : Obj) : Below w.heap.size w (X.alloc o) := h.alloc h.size o
theorem range_rep (n : Nat) (x : Value) : Array.replicate n x = ((List.range n).map fun _ => x).toArray := by
  apply Array.ext
  · simp
  · intro i h1 h2; simp
theorem map_set {α : Type} (f f' : Nat → α) (n p : Nat) (h : ∀ v, v ≠ p → f' v = f v) : ((List.range n).map f).set p (f' p) = (List.range n).map f' := by
  apply List.ext_getElem
  · simp
  · intro i h1 h2
    rw [List.getElem_set]
    split
    · rename_i e; subst e; simp
    · rename_i e; simp; exact (h i (fun e2 => e e2.symm)).symm
theorem QAt_set {q b j : Nat} {w : World} {X : List Qu.Pr} {S : Nat → Prop} (h : Qu.QAt w q X S) (hb : ¬ S b) (u : Value) : Qu.QAt (w.setCell ⟨b, j, none⟩ u) q X S :=
  h.fr (T := fun k => k = b) ((Qu.Fr.refl _ _).setCell _ _ (.inl rfl)) (fun _ hk e => hb (e ▸ hk))
end Go.Proofs.YtojkdmkeankcgaaGreat
