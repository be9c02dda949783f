/-
  What the call of short's begin does.
-/
import Derived.Test.YtojkdmkeankcgaaRepeat
import Derived.Test.YtojkdmkeankcgaaQQueB
import Derived.Deep.CutRange
namespace Go.Proofs.Ytojkdmkeankcgaa
open Go.RowKit Go.Sort

theorem new_exact (w : World) : Calls Try.prog 35 #[] w fun e w' => e = .returned (.pointer (some ⟨w.heap.size, 0, none⟩)) ∧ w' = w.alloc (.cells #[.pointer none] 108) := by
  go_enter Try.func35, Try.ntmps35
  go_wp2
  go_ret
  exact ⟨rfl, rfl⟩
theorem info4 : (Try.prog.info? 4).map (fun i => (i.zero, i.size, i.bytes)) = some (some (.bool false), 1, 1) := by kernel_rfl
theorem made_bools (n : Nat) (hn : n ≤ 32) (w : World) : (Instr.makeSlice 99 (.int .i64 n) (.int .i64 n)).run Try.prog w = .ok (.slice (some ⟨w.heap.size, 0, none⟩) n n) (w.alloc (.cells (List.replicate n (.bool false)).toArray 4)) := by
  obtain ⟨i0, hi0, hz0, hz1, hz2⟩ := info_parts info4
  have := run_makeSlice (P := Try.prog) w 99 4 i0 _ Try.underlying99 hi0 hz0 .i64 .i64 n n (by omega) (by omega) (by rw [hz1]; omega) (by rw [hz2]; omega) (by omega)
  rw [hz1] at this
  simp only [Int.toNat_natCast, Nat.mul_one] at this
  have e : madeCells (Value.bool false).cells n = (List.replicate n (Value.bool false)).toArray := by
    apply Array.ext
    · simp [madeCells]
    · intro i h1 h2
      simp [madeCells, Value.cells, Nat.mod_one]
  rw [e] at this
  exact this
/-- A search that has just been made. -/
structure BegIn (w : World) (n : Nat) (wx : World) (sb q gc gl ga : Nat) : Prop where
  below : Below w.heap.size w wx
  box : wx.heap[sb]? = some (.cells #[.pointer (some ⟨q, 0, none⟩), .slice (some ⟨gc, 0, none⟩) n n, .slice (some ⟨gl, 0, none⟩) n n, .slice (some ⟨ga, 0, none⟩) n n] 101 (0, 0))
  que : wx.heap[q]? = some (.cells #[.pointer none] 108 (0, 0))
  clo : wx.heap[gc]? = some (.cells (Array.replicate n (.bool false)) 4 (0, 0))
  lst : wx.heap[gl]? = some (.cells (Array.replicate n (.int .i64 (-1))) 3 (0, 0))
  ahd : wx.heap[ga]? = some (.cells (Array.replicate n (.int .i64 (-1))) 3 (0, 0))
  ne : gl ≠ ga
  ge : w.heap.size ≤ sb ∧ w.heap.size ≤ q ∧ w.heap.size ≤ gc ∧ w.heap.size ≤ gl ∧ w.heap.size ≤ ga
theorem heap_alloc_at (w : World) (o : Obj) (k : Nat) : (w.alloc o).heap[k]? = if k = w.heap.size then some o else w.heap[k]? := by
  unfold World.alloc
  rw [Array.getElem?_push]
theorem heap_drew (w : World) : w.drew.heap = w.heap := rfl
theorem heap_drewN (w : World) (q : Nat) : (w.drewN q).heap = w.heap := rfl
theorem size_alloc (w : World) (o : Obj) : (w.alloc o).heap.size = w.heap.size + 1 := by simp
theorem beg_mk {w X : World} {n sb q gc gl ga : Nat} (hsb : sb = X.heap.size) (hb : Below w.heap.size w X) (hq : X.heap[q]? = some (.cells #[.pointer none] 108 (0, 0))) (hc : X.heap[gc]? = some (.cells (Array.replicate n (.bool false)) 4 (0, 0)))
    (hl : X.heap[gl]? = some (.cells (Array.replicate n (.int .i64 (-1))) 3 (0, 0))) (ha : X.heap[ga]? = some (.cells (Array.replicate n (.int .i64 (-1))) 3 (0, 0))) (hne : gl ≠ ga) (hge : w.heap.size ≤ sb ∧ w.heap.size ≤ q ∧ w.heap.size ≤ gc ∧ w.heap.size ≤ gl ∧ w.heap.size ≤ ga) :
    BegIn w n (X.alloc (.cells #[.pointer (some ⟨q, 0, none⟩), .slice (some ⟨gc, 0, none⟩) n n, .slice (some ⟨gl, 0, none⟩) n n, .slice (some ⟨ga, 0, none⟩) n n] 101)) sb q gc gl ga := by
  have f : Below X.heap.size X (X.alloc (.cells #[.pointer (some ⟨q, 0, none⟩), .slice (some ⟨gc, 0, none⟩) n n, .slice (some ⟨gl, 0, none⟩) n n, .slice (some ⟨ga, 0, none⟩) n n] 101)) := (Below.refl _ _).alloc (Nat.le_refl _) _
  have lt : ∀ (k : Nat) (o : Obj), X.heap[k]? = some o → k < X.heap.size := fun k o h => (Array.getElem?_eq_some_iff.1 h).1
  refine ⟨hb.trans (f.mono hb.size), by rw [hsb]; exact heap_alloc_new _ _, (f.block q (lt _ _ hq)).trans hq, (f.block gc (lt _ _ hc)).trans hc, (f.block gl (lt _ _ hl)).trans hl, (f.block ga (lt _ _ ha)).trans ha, hne, hge⟩
theorem at_new {X : World} {o : Obj} {k : Nat} (h : X.heap.size = k) : (X.alloc o).heap[k]? = some o := by rw [heap_alloc_at, if_pos h.symm]
theorem at_old {X : World} {o o' : Obj} {k : Nat} (h : X.heap.size ≠ k) (h2 : X.heap[k]? = some o') : (X.alloc o).heap[k]? = some o' := by rw [heap_alloc_at, if_neg (fun e => h e.symm)]; exact h2
theorem at_drew {X : World} {o : Obj} {k q : Nat} (h : X.heap[k]? = some o) : (X.drewN q).heap[k]? = some o := h
theorem size_drewN (w : World) (q : Nat) : (w.drewN q).heap.size = w.heap.size := rfl
theorem below_drewN2 {B : Nat} {a w : World} (h : Below B a w) (q : Nat) : Below B a (w.drewN q) := Qu.below_drewN h q
theorem below_alloc2 {w X : World} (h : Below w.heap.size w X) (o : Obj) : Below w.heap.size w (X.alloc o) := h.alloc h.size o
/-- A search in memory: what is closed, and where the places ahead lie; X is open; the queue's blocks are S. -/
structure SrAt (B : Nat) (w : World) (sb q gc gl ga n : Nat) (D : Nat → Option Int) (A : Nat → Int) (X : List Qu.Pr) (S : Nat → Prop) : Prop where
  box : w.heap[sb]? = some (.cells #[.pointer (some ⟨q, 0, none⟩), .slice (some ⟨gc, 0, none⟩) n n, .slice (some ⟨gl, 0, none⟩) n n, .slice (some ⟨ga, 0, none⟩) n n] 101 (0, 0))
  clo : w.heap[gc]? = some (.cells ((List.range n).map fun v => Value.bool (D v).isSome).toArray 4 (0, 0))
  lst : w.heap[gl]? = some (.cells ((List.range n).map fun v => Value.int .i64 ((D v).getD (-1))).toArray 3 (0, 0))
  ahd : w.heap[ga]? = some (.cells ((List.range n).map fun v => Value.int .i64 (A v)).toArray 3 (0, 0))
  que : Qu.QAt w q X S
  ne : gl ≠ ga
  out : ¬ S sb ∧ ¬ S gc ∧ ¬ S gl ∧ ¬ S ga
  ge : B ≤ sb ∧ B ≤ gc ∧ B ≤ gl ∧ B ≤ ga ∧ ∀ k, S k → B ≤ k
theorem range_rep (n : Nat) (x : Value) : Array.replicate n x = ((List.range n).map fun _ => x).toArray := by
  apply Array.ext
  · simp
  · intro i h1 h2; simp
theorem sr_start {w wx : World} {n sb q gc gl ga : Nat} (h : BegIn w n wx sb q gc gl ga) : SrAt w.heap.size wx sb q gc gl ga n (fun _ => none) (fun _ => -1) [] (fun b => b = q) := by
  have lt : q < wx.heap.size := (Array.getElem?_eq_some_iff.1 h.que).1
  have e4 := h.clo
  have e3 := h.lst
  have e2 := h.ahd
  rw [range_rep] at e4 e3 e2
  refine ⟨h.box, e4, e3, e2, ⟨rfl, fun k e => by rw [e]; exact lt, .inl ⟨h.que, rfl⟩⟩, h.ne, ⟨fun e => ?_, fun e => ?_, fun e => ?_, fun e => ?_⟩, h.ge.1, h.ge.2.2.1, h.ge.2.2.2.1, h.ge.2.2.2.2, fun k e => by rw [e]; exact h.ge.2.1⟩
  · have := h.box; rw [e, h.que] at this; simp at this
  · have := h.clo; rw [e, h.que] at this; simp at this
  · have := h.lst; rw [e, h.que] at this; simp at this
  · have := h.ahd; rw [e, h.que] at this; simp at this
section
variable {B sb q gc gl ga n : Nat} {w w' : World} {D : Nat → Option Int} {A : Nat → Int} {X X' : List Qu.Pr} {S S' : Nat → Prop}
theorem SrAt.lts (h : SrAt B w sb q gc gl ga n D A X S) : sb < w.heap.size ∧ gc < w.heap.size ∧ gl < w.heap.size ∧ ga < w.heap.size :=
  ⟨(Array.getElem?_eq_some_iff.1 h.box).1, (Array.getElem?_eq_some_iff.1 h.clo).1, (Array.getElem?_eq_some_iff.1 h.lst).1, (Array.getElem?_eq_some_iff.1 h.ahd).1⟩
theorem SrAt.queue (h : SrAt B w sb q gc gl ga n D A X S) (hq : Qu.QAt w' q X' S') (f : Qu.Fr S w w') (hS : ∀ k, S' k → S k ∨ w.heap.size ≤ k) (hB : B ≤ w.heap.size) : SrAt B w' sb q gc gl ga n D A X' S' := by
  obtain ⟨l1, l2, l3, l4⟩ := h.lts
  have o := h.out
  have nS : ∀ k, k < w.heap.size → ¬ S k → ¬ S' k := fun k hk hn e => by rcases hS k e with e | e; exact hn e; omega
  exact ⟨(f.block sb l1 o.1).trans h.box, (f.block gc l2 o.2.1).trans h.clo, (f.block gl l3 o.2.2.1).trans h.lst, (f.block ga l4 o.2.2.2).trans h.ahd, hq, h.ne, ⟨nS _ l1 o.1, nS _ l2 o.2.1, nS _ l3 o.2.2.1, nS _ l4 o.2.2.2⟩, h.ge.1, h.ge.2.1, h.ge.2.2.1, h.ge.2.2.2.1, fun k hk => by rcases hS k hk with e | e; exact h.ge.2.2.2.2 k e; omega⟩
theorem SrAt.later (h : SrAt B w sb q gc gl ga n D A X S) (f : Below w.heap.size w w') : SrAt B w' sb q gc gl ga n D A X S := by
  obtain ⟨l1, l2, l3, l4⟩ := h.lts
  exact ⟨(f.block sb l1).trans h.box, (f.block gc l2).trans h.clo, (f.block gl l3).trans h.lst, (f.block ga l4).trans h.ahd, h.que.later f, h.ne, h.out, h.ge⟩
theorem sr_put (h : SrAt B w sb q gc gl ga n D A X S) (hB : B ≤ w.heap.size) (x k : Int) (hx : Qu.I64 x) (hk : Qu.I64 k) :
    Calls Try.prog 36 #[.pointer (some ⟨q, 0, none⟩), .int .i64 x, .int .i64 k] w fun e w' => e = .returned (.bool (Qu.putM X x k).2) ∧ (∃ S', SrAt B w' sb q gc gl ga n D A (Qu.putM X x k).1 S') ∧ Below B w w' := by
  refine (Qu.put_any h.que x k hx hk).mono ?_
  rintro e w' ⟨rfl, h1, h2⟩
  exact ⟨rfl, ⟨_, h.queue h1 h2 (fun k e => by rcases e with e | e; exact .inl e; exact .inr e.1) hB⟩, h2.below hB h.ge.2.2.2.2⟩
theorem sr_take (h : SrAt B w sb q gc gl ga n D A X S) (hB : B ≤ w.heap.size) (p : Qu.Pr) (hp : Qu.Least X p) :
    Calls Try.prog 53 #[.pointer (some ⟨q, 0, none⟩)] w fun e w' => e = .returned (.tuple #[.int .i64 p.1, .int .i64 p.2, .bool true]) ∧ (∃ S', SrAt B w' sb q gc gl ga n D A (Qu.dropM X p.1) S') ∧ Below B w w' := by
  refine (Qu.take_any h.que p hp).mono ?_
  rintro e w' ⟨rfl, h1, h2⟩
  exact ⟨rfl, ⟨_, h.queue h1 h2 (fun k e => .inl e) hB⟩, h2.below hB h.ge.2.2.2.2⟩
theorem sr_empty (h : SrAt B w sb q gc gl ga n D A [] S) : Calls Try.prog 53 #[.pointer (some ⟨q, 0, none⟩)] w fun e w' => e = .returned (.tuple #[.int .i64 0, .int .i64 0, .bool false]) ∧ w' = w := h.que.emp
theorem SrAt.c (h : SrAt B w sb q gc gl ga n D A X S) : w.cell? ⟨sb, 0, none⟩ = some (.pointer (some ⟨q, 0, none⟩)) ∧ w.cell? ⟨sb, 1, none⟩ = some (.slice (some ⟨gc, 0, none⟩) n n) ∧ w.cell? ⟨sb, 2, none⟩ = some (.slice (some ⟨gl, 0, none⟩) n n) ∧ w.cell? ⟨sb, 3, none⟩ = some (.slice (some ⟨ga, 0, none⟩) n n) :=
  ⟨by rw [cell_of_row _ sb 0 _ _ _ h.box]; rfl, by rw [cell_of_row _ sb 1 _ _ _ h.box]; rfl, by rw [cell_of_row _ sb 2 _ _ _ h.box]; rfl, by rw [cell_of_row _ sb 3 _ _ _ h.box]; rfl⟩
end
end Go.Proofs.Ytojkdmkeankcgaa
