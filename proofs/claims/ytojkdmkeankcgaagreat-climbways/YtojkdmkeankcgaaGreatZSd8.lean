/-
  One side of a search in memory, and the small functions of climb.
-/
import Derived.Test.YtojkdmkeankcgaaGreatZSm
import Derived.Test.YtojkdmkeankcgaaGreatZBitsG
import Derived.Test.YtojkdmkeankcgaaGreatZRs
namespace Go.Proofs.YtojkdmkeankcgaaGreat
open Go.RowKit Go.Sort

theorem tail_any (a b c d : Int) (w : World) : Calls Tryz.prog 66 #[.agg #[.int .i64 a, .int .i64 b, .int .i64 c, .int .i64 d]] w fun e w' => e = .returned (.int .i64 a) ∧ w' = w.alloc (.cells #[.int .i64 a, .int .i64 b, .int .i64 c, .int .i64 d] 46) := by
  go_enter Tryz.func66, Tryz.ntmps66
  go_wp2
  go_ret
  exact ⟨rfl, rfl⟩
theorem head_any (a b c d : Int) (w : World) : Calls Tryz.prog 67 #[.agg #[.int .i64 a, .int .i64 b, .int .i64 c, .int .i64 d]] w fun e w' => e = .returned (.int .i64 b) ∧ w' = w.alloc (.cells #[.int .i64 a, .int .i64 b, .int .i64 c, .int .i64 d] 46) := by
  go_enter Tryz.func67, Tryz.ntmps67
  go_wp2
  go_ret
  exact ⟨rfl, rfl⟩
def Wt (a : Int) : Prop := 0 ≤ a ∧ a ≤ 9000000000000000
theorem plusC_any (a b : Int) (ha : Wt a) (hb : Wt b) (w : World) : Calls Tryz.prog 40 #[.int .i64 a, .int .i64 b] w fun e w' => e = .returned (.int .i64 (a + b)) ∧ w' = w := by
  unfold Wt at ha hb
  have h1 : IntKind.u64.wrap a = a := by rw [IntKind.wrap_u64]; omega
  have h2 : IntKind.u64.wrap b = b := by rw [IntKind.wrap_u64]; omega
  have h3 : IntKind.u64.wrap (a + b) = a + b := by rw [IntKind.wrap_u64]; omega
  have h4 : IntKind.i64.wrap (a + b) = a + b := by rw [IntKind.wrap_i64]; omega
  have h5 : ¬ (9223372036854775807 : Int) < a + b := by omega
  have h6 : a + b ≤ (9223372036854775807 : Int) := by omega
  have h7 : min (a + b) (9223372036854775807 : Int) = a + b := by omega
  have H7 := hide h7
  clear h7
  go_enter Tryz.func40, Tryz.ntmps40
  go_wp2
  go_ret
  refine ⟨?_, rfl⟩
  show Ending.returned (.int .i64 (min (a + b) 9223372036854775807)) = _
  rw [H7.out]
theorem lighter_any (a b : Int) (w : World) : Calls Tryz.prog 41 #[.int .i64 a, .int .i64 b] w fun e w' => e = .returned (.bool (decide (b < 0 ∨ a < b))) ∧ w' = w := by
  by_cases h : b < 0
  · rw [decide_eq_true (show b < 0 ∨ a < b from .inl h)]
    go_enter Tryz.func41, Tryz.ntmps41
    go_wp2
    go_ret
    exact ⟨rfl, rfl⟩
  · by_cases h2 : a < b
    · rw [decide_eq_true (show b < 0 ∨ a < b from .inr h2)]
      have h3 : decide (b < 0) = false := decide_eq_false h
      go_enter Tryz.func41, Tryz.ntmps41
      go_wp2
      go_ret
      exact ⟨rfl, rfl⟩
    · rw [decide_eq_false (show ¬ (b < 0 ∨ a < b) from fun e => by rcases e with e | e <;> omega)]
      have h3 : decide (b < 0) = false := decide_eq_false h
      have h4 : decide (a < b) = false := decide_eq_false h2
      go_enter Tryz.func41, Tryz.ntmps41
      go_wp2
      go_ret
      exact ⟨rfl, rfl⟩
def bysV (n : Nat) (A : Nat → Lnk) : List Value := flatK ((List.range n).map A)
theorem bysV_len (n : Nat) (A : Nat → Lnk) : (bysV n A).length = n * 4 := by rw [bysV, flatK_len]; simp
theorem bysV_get {n : Nat} (A : Nat → Lnk) {v j : Nat} (hv : v < n) (hj : j < 4) : (bysV n A)[v * 4 + j]? = (lnkC (A v))[j]? := by
  unfold bysV
  rw [flatK_get _ _ _ (by simpa using hv) hj, getElem!_pos _ _ (by simpa using hv)]
  simp
/-- A side in memory: its box, what is closed, the least weights, the links ahead. -/
structure SdAt (B : Nat) (w : World) (sb gc gl gy n : Nat) (lk lo hi : Value) (s : Int) (D : Nat → Option Int) (A : Nat → Lnk) : Prop where
  box : w.heap[sb]? = some (.cells #[lk, lo, hi, .int .i64 s, .slice (some ⟨gc, 0, none⟩) n n, .slice (some ⟨gl, 0, none⟩) n n, .slice (some ⟨gy, 0, none⟩) n n] 90 (0, 0))
  clo : w.heap[gc]? = some (.cells ((List.range n).map fun v => Value.bool (D v).isSome).toArray 4 (0, 0))
  lst : w.heap[gl]? = some (.cells ((List.range n).map fun v => Value.int .i64 ((D v).getD 0)).toArray 3 (0, 0))
  bys : w.heap[gy]? = some (.cells (bysV n A).toArray 46 (0, 0))
  ge : B ≤ sb ∧ B ≤ gc ∧ B ≤ gl ∧ B ≤ gy
section
variable {B sb gc gl gy n : Nat} {w w' : World} {lk lo hi : Value} {s : Int} {D : Nat → Option Int} {A : Nat → Lnk}
theorem SdAt.lts (h : SdAt B w sb gc gl gy n lk lo hi s D A) : sb < w.heap.size ∧ gc < w.heap.size ∧ gl < w.heap.size ∧ gy < w.heap.size :=
  ⟨(Array.getElem?_eq_some_iff.1 h.box).1, (Array.getElem?_eq_some_iff.1 h.clo).1, (Array.getElem?_eq_some_iff.1 h.lst).1, (Array.getElem?_eq_some_iff.1 h.bys).1⟩
theorem SdAt.blocks (h : SdAt B w sb gc gl gy n lk lo hi s D A) (f : ∀ k, k = sb ∨ k = gc ∨ k = gl ∨ k = gy → w'.heap[k]? = w.heap[k]?) : SdAt B w' sb gc gl gy n lk lo hi s D A :=
  ⟨(f _ (.inl rfl)).trans h.box, (f _ (.inr (.inl rfl))).trans h.clo, (f _ (.inr (.inr (.inl rfl)))).trans h.lst, (f _ (.inr (.inr (.inr rfl)))).trans h.bys, h.ge⟩
theorem SdAt.later (h : SdAt B w sb gc gl gy n lk lo hi s D A) (f : Below w.heap.size w w') : SdAt B w' sb gc gl gy n lk lo hi s D A := by
  obtain ⟨l1, l2, l3, l4⟩ := h.lts
  exact h.blocks fun k hk => f.block k (by rcases hk with e | e | e | e <;> omega)
theorem SdAt.drewN (h : SdAt B w sb gc gl gy n lk lo hi s D A) (q : Nat) : SdAt B (w.drewN q) sb gc gl gy n lk lo hi s D A := h.later (Qu.below_drewN (Below.refl _ _) q)
theorem SdAt.nes (h : SdAt B w sb gc gl gy n lk lo hi s D A) : sb ≠ gc ∧ sb ≠ gl ∧ sb ≠ gy ∧ gc ≠ gl ∧ gc ≠ gy ∧ gl ≠ gy := by
  refine ⟨fun e => ?_, fun e => ?_, fun e => ?_, fun e => ?_, fun e => ?_, fun e => ?_⟩
  · have := h.box; rw [e, h.clo] at this; simp at this
  · have := h.box; rw [e, h.lst] at this; simp at this
  · have := h.box; rw [e, h.bys] at this; simp at this
  · have := h.clo; rw [e, h.lst] at this; simp at this
  · have := h.clo; rw [e, h.bys] at this; simp at this
  · have := h.lst; rw [e, h.bys] at this; simp at this
theorem SdAt.c (h : SdAt B w sb gc gl gy n lk lo hi s D A) : w.cell? ⟨sb, 0, none⟩ = some lk ∧ w.cell? ⟨sb, 1, none⟩ = some lo ∧ w.cell? ⟨sb, 2, none⟩ = some hi ∧ w.cell? ⟨sb, 3, none⟩ = some (.int .i64 s) ∧ w.cell? ⟨sb, 4, none⟩ = some (.slice (some ⟨gc, 0, none⟩) n n) ∧ w.cell? ⟨sb, 5, none⟩ = some (.slice (some ⟨gl, 0, none⟩) n n) ∧ w.cell? ⟨sb, 6, none⟩ = some (.slice (some ⟨gy, 0, none⟩) n n) :=
  ⟨by rw [cell_of_row _ sb 0 _ _ _ h.box]; rfl, by rw [cell_of_row _ sb 1 _ _ _ h.box]; rfl, by rw [cell_of_row _ sb 2 _ _ _ h.box]; rfl, by rw [cell_of_row _ sb 3 _ _ _ h.box]; rfl, by rw [cell_of_row _ sb 4 _ _ _ h.box]; rfl, by rw [cell_of_row _ sb 5 _ _ _ h.box]; rfl, by rw [cell_of_row _ sb 6 _ _ _ h.box]; rfl⟩
theorem SdAt.cclo (h : SdAt B w sb gc gl gy n lk lo hi s D A) {v : Nat} (hv : v < n) : w.cell? ⟨gc, v, none⟩ = some (.bool (D v).isSome) := by rw [cell_of_row _ gc v _ _ _ h.clo]; simp [hv]
theorem SdAt.clst (h : SdAt B w sb gc gl gy n lk lo hi s D A) {v : Nat} (hv : v < n) : w.cell? ⟨gl, v, none⟩ = some (.int .i64 ((D v).getD 0)) := by rw [cell_of_row _ gl v _ _ _ h.lst]; simp [hv]
theorem SdAt.cbys (h : SdAt B w sb gc gl gy n lk lo hi s D A) {v : Nat} (hv : v < n) : w.cell? ⟨gy, v * 4, none⟩ = some (.int .i64 (A v).1) ∧ w.cell? ⟨gy, v * 4 + 1, none⟩ = some (.int .i64 (A v).2.1) ∧ w.cell? ⟨gy, v * 4 + 2, none⟩ = some (.int .i64 (A v).2.2.1) ∧ w.cell? ⟨gy, v * 4 + 3, none⟩ = some (.int .i64 (A v).2.2.2) := by
  have f : ∀ j, j < 4 → ∀ u, (lnkC (A v))[j]? = some u → w.cell? ⟨gy, v * 4 + j, none⟩ = some u := fun j hj u hu => by
    rw [cell_of_row _ gy (v * 4 + j) _ _ _ h.bys]
    simp only [List.getElem?_toArray]
    rw [bysV_get A hv hj]
    exact hu
  exact ⟨f 0 (by omega) _ rfl, f 1 (by omega) _ rfl, f 2 (by omega) _ rfl, f 3 (by omega) _ rfl⟩
theorem SdAt.mark (h : SdAt B w sb gc gl gy n lk lo hi s D A) (p : Nat) (k : Int) : SdAt B ((w.setCell ⟨gc, p, none⟩ (.bool true)).setCell ⟨gl, p, none⟩ (.int .i64 k)) sb gc gl gy n lk lo hi s (upd D p (some k)) A := by
  obtain ⟨n1, n2, n3, n4, n5, n6⟩ := h.nes
  have e1 := map_set (fun v => Value.bool (D v).isSome) (fun v => Value.bool (upd D p (some k) v).isSome) n p (fun v hv => by rw [upd_other _ _ hv])
  have e2 := map_set (fun v => Value.int .i64 ((D v).getD 0)) (fun v => Value.int .i64 ((upd D p (some k) v).getD 0)) n p (fun v hv => by rw [upd_other _ _ hv])
  simp only [upd_same, Option.isSome_some, Option.getD_some] at e1 e2
  refine ⟨?_, ?_, ?_, ?_, h.ge⟩
  · rw [heap_setCell_other _ _ _ _ n2, heap_setCell_other _ _ _ _ n1]; exact h.box
  · rw [heap_setCell_other _ _ _ _ n4, heap_setCell_same w gc p _ _ _ h.clo, ← e1]; simp
  · have := heap_setCell_same (w.setCell ⟨gc, p, none⟩ (.bool true)) gl p _ _ (.int .i64 k) (by rw [heap_setCell_other _ _ _ _ n4.symm]; exact h.lst)
    rw [this, ← e2]; simp
  · rw [heap_setCell_other _ _ _ _ n6.symm, heap_setCell_other _ _ _ _ n5.symm]; exact h.bys
/-- A link written over one of the row of links ahead. -/
def putL (w : World) (gy v : Nat) (k : Lnk) : World := (((w.setCell ⟨gy, v * 4, none⟩ (.int .i64 k.1)).setCell ⟨gy, v * 4 + 1, none⟩ (.int .i64 k.2.1)).setCell ⟨gy, v * 4 + 2, none⟩ (.int .i64 k.2.2.1)).setCell ⟨gy, v * 4 + 3, none⟩ (.int .i64 k.2.2.2)
theorem putL_other (w : World) (gy v : Nat) (k : Lnk) {b : Nat} (hb : b ≠ gy) : (putL w gy v k).heap[b]? = w.heap[b]? := by
  unfold putL
  rw [heap_setCell_other _ _ _ _ hb, heap_setCell_other _ _ _ _ hb, heap_setCell_other _ _ _ _ hb, heap_setCell_other _ _ _ _ hb]
theorem putL_size (w : World) (gy v : Nat) (k : Lnk) : (putL w gy v k).heap.size = w.heap.size := by simp [putL, World.setCell]
theorem putL_below {B : Nat} {a w : World} (h : Below B a w) {gy : Nat} (hB : B ≤ gy) (v : Nat) (k : Lnk) : Below B a (putL w gy v k) := (((h.setCell hB _).setCell hB _).setCell hB _).setCell hB _
theorem bysV_set {n : Nat} (A : Nat → Lnk) {v : Nat} (hv : v < n) (k : Lnk) : ((((bysV n A).set (v * 4) (.int .i64 k.1)).set (v * 4 + 1) (.int .i64 k.2.1)).set (v * 4 + 2) (.int .i64 k.2.2.1)).set (v * 4 + 3) (.int .i64 k.2.2.2) = bysV n (upd A v k) := by
  apply List.ext_getElem?
  intro i
  by_cases hi : i < n * 4
  · obtain ⟨u, j, hj, rfl⟩ : ∃ u j, j < 4 ∧ i = u * 4 + j := ⟨i / 4, i % 4, Nat.mod_lt _ (by omega), by omega⟩
    have hu : u < n := by omega
    rw [bysV_get _ hu hj]
    have hl := bysV_len n A
    by_cases e : u = v
    · subst e
      rw [upd_same]
      rcases (show j = 0 ∨ j = 1 ∨ j = 2 ∨ j = 3 by omega) with rfl | rfl | rfl | rfl
      · rw [List.getElem?_set_ne (by omega), List.getElem?_set_ne (by omega), List.getElem?_set_ne (by omega), show u * 4 + 0 = u * 4 from rfl, List.getElem?_set_self (by omega)]; rfl
      · rw [List.getElem?_set_ne (by omega), List.getElem?_set_ne (by omega), List.getElem?_set_self (by simp; omega)]; rfl
      · rw [List.getElem?_set_ne (by omega), List.getElem?_set_self (by simp; omega)]; rfl
      · rw [List.getElem?_set_self (by simp; omega)]; rfl
    · rw [upd_other _ _ e, List.getElem?_set_ne (by omega), List.getElem?_set_ne (by omega), List.getElem?_set_ne (by omega), List.getElem?_set_ne (by omega), bysV_get _ hu hj]
  · rw [List.getElem?_eq_none (by simp [bysV_len]; omega), List.getElem?_eq_none (by rw [bysV_len]; omega)]
theorem SdAt.lead (h : SdAt B w sb gc gl gy n lk lo hi s D A) {v : Nat} (hv : v < n) (k : Lnk) : SdAt B (putL w gy v k) sb gc gl gy n lk lo hi s D (upd A v k) := by
  obtain ⟨n1, n2, n3, n4, n5, n6⟩ := h.nes
  refine ⟨(putL_other _ _ _ _ n3).trans h.box, (putL_other _ _ _ _ n5).trans h.clo, (putL_other _ _ _ _ n6).trans h.lst, ?_, h.ge⟩
  unfold putL
  have e1 := heap_setCell_same w gy (v * 4) _ _ (.int .i64 k.1) h.bys
  have e2 := heap_setCell_same _ gy (v * 4 + 1) _ _ (.int .i64 k.2.1) e1
  have e3 := heap_setCell_same _ gy (v * 4 + 2) _ _ (.int .i64 k.2.2.1) e2
  have e4 := heap_setCell_same _ gy (v * 4 + 3) _ _ (.int .i64 k.2.2.2) e3
  rw [e4, ← bysV_set A hv k]
  simp
end
/-- A side and its queue. -/
structure SqAt (B : Nat) (w : World) (sb q gc gl gy n : Nat) (lk lo hi : Value) (s : Int) (D : Nat → Option Int) (A : Nat → Lnk) (X : List Qu.Pr) (S : Nat → Prop) : Prop where
  sd : SdAt B w sb gc gl gy n lk lo hi s D A
  que : Qu.QAt w q X S
  out : ¬ S sb ∧ ¬ S gc ∧ ¬ S gl ∧ ¬ S gy
  ge : ∀ k, S k → B ≤ k
section
variable {B sb q gc gl gy n : Nat} {w w' : World} {lk lo hi : Value} {s : Int} {D : Nat → Option Int} {A : Nat → Lnk} {X X' : List Qu.Pr} {S S' : Nat → Prop}
theorem SqAt.queue (h : SqAt B w sb q gc gl gy n lk lo hi s D A X S) (hq : Qu.QAt w' q X' S') (f : Qu.Fr S w w') (hS : ∀ k, S' k → S k ∨ w.heap.size ≤ k) (hB : B ≤ w.heap.size) : SqAt B w' sb q gc gl gy n lk lo hi s D A X' S' := by
  obtain ⟨l1, l2, l3, l4⟩ := h.sd.lts
  obtain ⟨o1, o2, o3, o4⟩ := h.out
  have nS : ∀ k, k < w.heap.size → ¬ S k → ¬ S' k := fun k hk hn e => by rcases hS k e with e | e; exact hn e; omega
  exact ⟨h.sd.blocks fun k hk => f.block k (by rcases hk with e | e | e | e <;> omega) (by rcases hk with e | e | e | e <;> (rw [e]; assumption)), hq, ⟨nS _ l1 o1, nS _ l2 o2, nS _ l3 o3, nS _ l4 o4⟩, fun k hk => by rcases hS k hk with e | e; exact h.ge k e; omega⟩
theorem SqAt.later (h : SqAt B w sb q gc gl gy n lk lo hi s D A X S) (f : Below w.heap.size w w') : SqAt B w' sb q gc gl gy n lk lo hi s D A X S := ⟨h.sd.later f, h.que.later f, h.out, h.ge⟩
theorem SqAt.drewN (h : SqAt B w sb q gc gl gy n lk lo hi s D A X S) (k : Nat) : SqAt B (w.drewN k) sb q gc gl gy n lk lo hi s D A X S := h.later (Qu.below_drewN (Below.refl _ _) k)
theorem sq_put (h : SqAt B w sb q gc gl gy n lk lo hi s D A X S) (hB : B ≤ w.heap.size) (x k : Int) (hx : Qu.I64 x) (hk : Qu.I64 k) :
    Calls Tryz.prog 32 #[.pointer (some ⟨q, 0, none⟩), .int .i64 x, .int .i64 k] w fun e w' => e = .returned (.bool (Qu.putM X x k).2) ∧ ∃ S', SqAt B w' sb q gc gl gy n lk lo hi s D A (Qu.putM X x k).1 S' ∧ Qu.Fr S w w' ∧ (∀ k, S' k → S k ∨ w.heap.size ≤ k) := by
  refine (Qu.put_any h.que x k hx hk).mono ?_
  rintro e w' ⟨rfl, h1, h2⟩
  have hs : ∀ k, Qu.grow S w w' k → S k ∨ w.heap.size ≤ k := fun k e => by rcases e with e | e; exact .inl e; exact .inr e.1
  exact ⟨rfl, _, h.queue h1 h2 hs hB, h2, hs⟩
theorem sq_take (h : SqAt B w sb q gc gl gy n lk lo hi s D A X S) (hB : B ≤ w.heap.size) (p : Qu.Pr) (hp : Qu.Least X p) :
    Calls Tryz.prog 63 #[.pointer (some ⟨q, 0, none⟩)] w fun e w' => e = .returned (.tuple #[.int .i64 p.1, .int .i64 p.2, .bool true]) ∧ (∃ S', SqAt B w' sb q gc gl gy n lk lo hi s D A (Qu.dropM X p.1) S') ∧ Below B w w' := by
  refine (Qu.take_any h.que p hp).mono ?_
  rintro e w' ⟨rfl, h1, h2⟩
  exact ⟨rfl, ⟨_, h.queue h1 h2 (fun k e => .inl e) hB⟩, h2.below hB h.ge⟩
theorem sq_empty (h : SqAt B w sb q gc gl gy n lk lo hi s D A [] S) : Calls Tryz.prog 63 #[.pointer (some ⟨q, 0, none⟩)] w fun e w' => e = .returned (.tuple #[.int .i64 0, .int .i64 0, .bool false]) ∧ w' = w := h.que.emp
theorem SqAt.mark (h : SqAt B w sb q gc gl gy n lk lo hi s D A X S) (p : Nat) (k : Int) : SqAt B ((w.setCell ⟨gc, p, none⟩ (.bool true)).setCell ⟨gl, p, none⟩ (.int .i64 k)) sb q gc gl gy n lk lo hi s (upd D p (some k)) A X S :=
  ⟨h.sd.mark p k, QAt_set (QAt_set h.que h.out.2.1 _) h.out.2.2.1 _, h.out, h.ge⟩
theorem SqAt.lead (h : SqAt B w sb q gc gl gy n lk lo hi s D A X S) {v : Nat} (hv : v < n) (k : Lnk) : SqAt B (putL w gy v k) sb q gc gl gy n lk lo hi s D (upd A v k) X S :=
  ⟨h.sd.lead hv k, QAt_set (QAt_set (QAt_set (QAt_set h.que h.out.2.2.2 _) h.out.2.2.2 _) h.out.2.2.2 _) h.out.2.2.2 _, h.out, h.ge⟩
end
/-- A row of links that no side writes. -/
def KRow (w : World) (va : Option Addr) (R : List Lnk) (gc gl gy : Nat) (S : Nat → Prop) : Prop :=
  ∀ k, k < R.length → ∃ gb, va = some ⟨gb, 0, none⟩ ∧ ¬ S gb ∧ gb ≠ gc ∧ gb ≠ gl ∧ gb ≠ gy ∧ gb < w.heap.size ∧ w.cell? ⟨gb, k * 4, none⟩ = some (.int .i64 (R[k]!).1) ∧ w.cell? ⟨gb, k * 4 + 1, none⟩ = some (.int .i64 (R[k]!).2.1) ∧ w.cell? ⟨gb, k * 4 + 2, none⟩ = some (.int .i64 (R[k]!).2.2.1) ∧ w.cell? ⟨gb, k * 4 + 3, none⟩ = some (.int .i64 (R[k]!).2.2.2)
section
variable {w w' : World} {va : Option Addr} {R : List Lnk} {gc gl gy : Nat} {S S' : Nat → Prop}
theorem KRow.block (h : KRow w va R gc gl gy S) (hs : w.heap.size ≤ w'.heap.size) (f : ∀ gb, gb < w.heap.size → ¬ S gb → gb ≠ gc → gb ≠ gl → gb ≠ gy → w'.heap[gb]? = w.heap[gb]?) (hS : ∀ k, S' k → S k ∨ w.heap.size ≤ k) : KRow w' va R gc gl gy S' := fun k hk => by
  obtain ⟨gb, e, h1, h2, h3, h4, h5, h6, h7, h8, h9⟩ := h k hk
  have hb := f gb h5 h1 h2 h3 h4
  have hc : ∀ j, w'.cell? ⟨gb, j, none⟩ = w.cell? ⟨gb, j, none⟩ := fun j => by unfold World.cell?; simp only [hb]
  exact ⟨gb, e, fun e2 => by rcases hS gb e2 with e3 | e3; exact h1 e3; omega, h2, h3, h4, by omega, by rw [hc]; exact h6, by rw [hc]; exact h7, by rw [hc]; exact h8, by rw [hc]; exact h9⟩
theorem KRow.fr (h : KRow w va R gc gl gy S) (f : Qu.Fr S w w') (hS : ∀ k, S' k → S k ∨ w.heap.size ≤ k) : KRow w' va R gc gl gy S' := h.block f.size (fun gb h1 h2 _ _ _ => f.block gb h1 h2) hS
theorem KRow.later (h : KRow w va R gc gl gy S) (f : Below w.heap.size w w') : KRow w' va R gc gl gy S := h.fr (Qu.Fr.of_below f) (fun _ h => .inl h)
theorem KRow.set (h : KRow w va R gc gl gy S) {b j : Nat} (hb : b = gc ∨ b = gl ∨ b = gy) (u : Value) : KRow (w.setCell ⟨b, j, none⟩ u) va R gc gl gy S :=
  h.block (by simp [World.setCell]) (fun gb _ _ h2 h3 h4 => heap_setCell_other _ _ _ _ (by rcases hb with e | e | e <;> (rw [e]; assumption))) (fun _ h => .inl h)
theorem KRow.lead (h : KRow w va R gc gl gy S) (v : Nat) (k : Lnk) : KRow (putL w gy v k) va R gc gl gy S := (((h.set (.inr (.inr rfl)) _).set (.inr (.inr rfl)) _).set (.inr (.inr rfl)) _).set (.inr (.inr rfl)) _
theorem krow_of {base rc : Nat} (h : LRow w base (.slice va R.length rc) R) (hS : ∀ k, S k → k < base) (h1 : gc < base) (h2 : gl < base) (h3 : gy < base) : KRow w va R gc gl gy S := fun k hk => by
  obtain ⟨g, cap, hv, hb, hlt, _, _⟩ := h.form (by omega)
  injection hv with e1 e2 e3
  subst e1 e3
  obtain ⟨c0, c1, c2, c3⟩ := h.cells k hk
  exact ⟨g, rfl, fun e => by have := hS g e; omega, by omega, by omega, by omega, hlt, c0, c1, c2, c3⟩
end
end Go.Proofs.YtojkdmkeankcgaaGreat
