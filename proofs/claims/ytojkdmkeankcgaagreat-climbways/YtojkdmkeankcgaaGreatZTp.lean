/-
  Several texts in one.
-/
import Derived.Test.YtojkdmkeankcgaaGreatZFill8
import Derived.Test.YtojkdmkeankcgaaGreatZRepeat
/-  Plain: Table's rows: the best sums that were seen so far. -/
namespace Go.Proofs.YtojkdmkeankcgaaGreat

/-- The first rows are done, one is under way. -/
def tM (L : Nat → Nat → Option Int) (i : Nat) (T : Nat → Option Int) : Nat → Nat → Option Int := fun a c => if a < i then L a c else if a = i then T c else none
theorem tM_put {n i t : Nat} (L : Nat → Nat → Option Int) (T : Nat → Option Int) (ht : t < n) (x : Int) : cellsM n (tM L i (upd T t (some x))) = (cellsM n (tM L i T)).set (i * n + t) x := by
  refine cellsM_set _ _ ht x ?_ fun a c _ _ hne => ?_
  · unfold tM; rw [if_neg (by omega), if_pos rfl, upd_same]
  · unfold tM
    split
    · rfl
    · split
      · rename_i e
        rw [upd_other _ _ (fun e2 => hne ⟨e, e2⟩)]
      · rfl
theorem tM_at {n i t : Nat} (L : Nat → Nat → Option Int) (T : Nat → Option Int) (hi : i < n) (ht : t < n) : (cellsM n (tM L i T))[i * n + t]! = cv (T t) := by
  rw [cellsM_at _ hi ht]
  unfold tM
  rw [if_neg (by omega), if_pos rfl]
  rfl
theorem tM_next {n i : Nat} (L : Nat → Nat → Option Int) (T : Nat → Option Int) (h : ∀ t, t < n → T t = L i t) : cellsM n (tM L i T) = cellsM n (tM L (i + 1) fun _ => none) := by
  refine cellsM_same _ _ fun a c _ hc => ?_
  unfold tM
  by_cases h1 : a < i
  · rw [if_pos h1, if_pos (by omega)]
  · rw [if_neg h1]
    by_cases h2 : a = i
    · subst h2; rw [if_pos rfl, if_pos (by omega), h c hc]
    · rw [if_neg h2, if_neg (by omega)]; split <;> rfl
theorem tM_end {n : Nat} (L : Nat → Nat → Option Int) (T : Nat → Option Int) : cellsM n (tM L n T) = cellsM n L := cellsM_same _ _ fun a c ha _ => by unfold tM; rw [if_pos ha]
theorem tM_zero {n : Nat} (L : Nat → Nat → Option Int) : cellsM n (tM L 0 fun _ => none) = List.replicate (n * n) (-1) := by
  rw [← cellsM_none]
  refine cellsM_same _ _ fun a c _ _ => ?_
  unfold tM
  rw [if_neg (by omega)]
  split <;> rfl
/-- Of the pairs S the best sums are told. -/
structure Bst (U : Nat → Option Int) (F : Nat → Nat → Option Int) (n : Nat) (S : Nat → Nat → Prop) (T : Nat → Option Int) : Prop where
  got : ∀ t x, t < n → T t = some x → ∃ v a d, U v = some a ∧ F t v = some d ∧ x = a + d
  low : ∀ v t a d, t < n → S v t → U v = some a → F t v = some d → ∃ x, T t = some x ∧ x ≤ a + d
section
variable {U : Nat → Option Int} {F : Nat → Nat → Option Int} {n : Nat} {S S' : Nat → Nat → Prop} {T : Nat → Option Int}
theorem Bst.less (h : Bst U F n S T) (e : ∀ v t a d, t < n → S' v t → U v = some a → F t v = some d → S v t) : Bst U F n S' T :=
  ⟨h.got, fun v t a d ht hs hu hf => h.low v t a d ht (e v t a d ht hs hu hf) hu hf⟩
theorem Bst.cv (h : Bst U F n S T) (hU : DOk n U) (hF : ∀ t, t < n → DOk n (F t)) {t : Nat} (ht : t < n) : -1 ≤ cv (T t) ∧ cv (T t) ≤ 8589934592000000 ∧ (cv (T t) < 0 ↔ T t = none) := by
  cases e : T t with
  | none => simp [Go.Proofs.YtojkdmkeankcgaaGreat.cv]
  | some x =>
    obtain ⟨v, a, d, h1, h2, h3⟩ := h.got t x ht e
    have := hU v a h1
    have := hF t ht v d h2
    simp [Go.Proofs.YtojkdmkeankcgaaGreat.cv]
    omega
theorem Bst.take (h : Bst U F n S T) {v t : Nat} {a d : Int} (hu : U v = some a) (hf : F t v = some d) (hh : Go.Proofs.YtojkdmkeankcgaaGreat.cv (T t) < 0 ∨ a + d < Go.Proofs.YtojkdmkeankcgaaGreat.cv (T t)) (hn : Go.Proofs.YtojkdmkeankcgaaGreat.cv (T t) < 0 → T t = none) : Bst U F n (fun v' t' => S v' t' ∨ (v' = v ∧ t' = t)) (upd T t (some (a + d))) := by
  refine ⟨fun t' x ht e => ?_, fun v' t' a' d' ht hs hu' hf' => ?_⟩
  · by_cases e2 : t' = t
    · subst e2
      rw [upd_same] at e
      cases e
      exact ⟨v, a, d, hu, hf, rfl⟩
    · rw [upd_other _ _ e2] at e
      exact h.got t' x ht e
  · by_cases e2 : t' = t
    · subst e2
      rw [upd_same]
      refine ⟨_, rfl, ?_⟩
      rcases hs with hs | ⟨rfl, _⟩
      · obtain ⟨x, h1, h2⟩ := h.low v' t' a' d' ht hs hu' hf'
        rw [h1] at hh hn
        simp [Go.Proofs.YtojkdmkeankcgaaGreat.cv] at hh hn
        rcases hh with hh | hh <;> omega
      · rw [hu] at hu'; rw [hf] at hf'
        cases hu'; cases hf'
        omega
    · rw [upd_other _ _ e2]
      rcases hs with hs | ⟨_, e3⟩
      · exact h.low v' t' a' d' ht hs hu' hf'
      · exact absurd e3 e2
theorem Bst.keep (h : Bst U F n S T) {v t : Nat} {a d : Int} (hu : U v = some a) (hf : F t v = some d) (hh : ¬ (Go.Proofs.YtojkdmkeankcgaaGreat.cv (T t) < 0 ∨ a + d < Go.Proofs.YtojkdmkeankcgaaGreat.cv (T t))) : Bst U F n (fun v' t' => S v' t' ∨ (v' = v ∧ t' = t)) T := by
  refine ⟨h.got, fun v' t' a' d' ht hs hu' hf' => ?_⟩
  rcases hs with hs | ⟨rfl, rfl⟩
  · exact h.low v' t' a' d' ht hs hu' hf'
  · rw [hu] at hu'; rw [hf] at hf'
    cases hu'; cases hf'
    cases e : T t' with
    | none => rw [e] at hh; simp [Go.Proofs.YtojkdmkeankcgaaGreat.cv] at hh
    | some x => rw [e] at hh; simp [Go.Proofs.YtojkdmkeankcgaaGreat.cv] at hh; exact ⟨x, rfl, by omega⟩
theorem Bst.all (h : Bst U F n S T) (hU : DOk n U) (hS : ∀ v t a, U v = some a → S v t) {t : Nat} (ht : t < n) : T t = (meetP U (F t) n).map (·.2) := by
  rcases meetP_is U (F t) n with ⟨h1, h2⟩ | ⟨m, l, h1, h2, ⟨x, y, h3, h4, h5⟩, h6⟩
  · rw [h1]
    cases e : T t with
    | none => rfl
    | some x =>
      obtain ⟨v, a, d, k1, k2, _⟩ := h.got t x ht e
      exact (h2 v a d (hU v a k1).1 k1 k2).elim
  · rw [h1]
    obtain ⟨z, k1, k2⟩ := h.low m t x y ht (hS m t x h3) h3 h4
    rw [k1]
    obtain ⟨v, a, d, j1, j2, j3⟩ := h.got t z ht k1
    have := h6 v a d (hU v a j1).1 j1 j2
    simp only [Option.map_some, Option.some.injEq]
    omega
end
/-- The first c places that one comes to, and of the next one the first j of its bucket. -/
def TS (U : Nat → Option Int) (F : Nat → Nat → Option Int) (n c j : Nat) : Nat → Nat → Prop := fun v t => v ∈ (rcL U n).take c ∨ (v = (rcL U n)[c]! ∧ ∃ d, ((t : Int), d) ∈ (fB F n v).take j)
section
variable {U : Nat → Option Int} {F : Nat → Nat → Option Int} {n : Nat} {T : Nat → Option Int} {c j : Nat}
theorem bst_start (U : Nat → Option Int) (F : Nat → Nat → Option Int) (n : Nat) : Bst U F n (TS U F n 0 0) fun _ => none :=
  ⟨fun t x _ e => (by cases e), fun v t a d _ hs => by
    rcases hs with h | ⟨_, _, h⟩
    · simp at h
    · simp at h⟩
theorem mem_fB {k v : Nat} {t : Nat} {d : Int} : (((t : Nat) : Int), d) ∈ fB F k v ↔ t < k ∧ F t v = some d := by
  unfold fB
  rw [List.mem_filterMap]
  constructor
  · rintro ⟨u, hu, e⟩
    rw [List.mem_range] at hu
    cases h : F u v with
    | none => rw [h] at e; cases e
    | some x =>
      rw [h] at e
      simp at e
      obtain ⟨e1, rfl⟩ := e
      have : u = t := by omega
      subst this
      exact ⟨hu, h⟩
  · rintro ⟨ht, e⟩
    exact ⟨t, List.mem_range.2 ht, by rw [e]; rfl⟩
theorem fB_at {v : Nat} (hj : j < (fB F n v).length) : ∃ (t : Nat) (d : Int), (fB F n v)[j]! = ((t : Int), d) ∧ t < n ∧ F t v = some d := by
  have hm : (fB F n v)[j]! ∈ fB F n v := by rw [getElem!_pos _ j hj]; exact List.getElem_mem hj
  generalize (fB F n v)[j]! = x at hm ⊢
  unfold fB at hm
  obtain ⟨u, hu, e⟩ := List.mem_filterMap.1 hm
  rw [List.mem_range] at hu
  cases h : F u v with
  | none => rw [h] at e; cases e
  | some d =>
    rw [h] at e
    simp at e
    exact ⟨u, d, e.symm, hu, h⟩
theorem ts_step {v0 t0 : Nat} {d0 : Int} (hv : (rcL U n)[c]! = v0) (hj : j < (fB F n v0).length) (ht : (fB F n v0)[j]! = ((t0 : Int), d0)) (h : Bst U F n (fun v t => TS U F n c j v t ∨ (v = v0 ∧ t = t0)) T) : Bst U F n (TS U F n c (j + 1)) T :=
  h.less fun v t a d _ hs _ _ => by
    rcases hs with hs | ⟨e1, x, hx⟩
    · exact .inl (.inl hs)
    · rw [hv] at e1
      subst e1
      rw [List.take_succ_eq_append_getElem hj, List.mem_append, List.mem_singleton] at hx
      rcases hx with hx | hx
      · exact .inl (.inr ⟨hv.symm, x, hx⟩)
      · rw [getElem!_pos _ j hj] at ht
        rw [ht] at hx
        simp at hx
        exact .inr ⟨rfl, by omega⟩
theorem ts_line {v0 : Nat} (hc : c < (rcL U n).length) (hv : (rcL U n)[c]! = v0) (h : Bst U F n (TS U F n c (fB F n v0).length) T) : Bst U F n (TS U F n (c + 1) 0) T :=
  h.less fun v t a d ht hs hu hf => by
    rcases hs with hs | ⟨_, _, hx⟩
    · rcases (take_succ_mem hc).1 hs with e | e
      · exact .inl e
      · rw [hv] at e
        subst e
        exact .inr ⟨hv.symm, d, by rw [List.take_length]; exact mem_fB.2 ⟨ht, hf⟩⟩
    · simp at hx
theorem ts_all (hU : DOk n U) (h : Bst U F n (TS U F n (rcL U n).length 0) T) {t : Nat} (ht : t < n) : T t = (meetP U (F t) n).map (·.2) :=
  (h.less (S' := fun v _ => (U v).isSome = true) fun v t a d _ hs hu _ => .inl (by rw [List.take_length]; exact mem_rcL.2 ⟨(hU v a hu).1, hs⟩)).all hU (fun v t a hu => by simp [hu]) ht
end
end Go.Proofs.YtojkdmkeankcgaaGreat
/-  slices.Repeat of one number, up to 1024 times. -/
namespace Go.Proofs.YtojkdmkeankcgaaGreat
open Go.RowKit Go.Sort

theorem made_ints9 (n : Nat) (hn : n ≤ 1024) (w : World) : (Instr.makeSlice 27 (.int .i64 n) (.int .i64 n)).run Tryz.prog w = .ok (.slice (some ⟨w.heap.size, 0, none⟩) n n) (w.alloc (.cells (List.replicate n (.int .i64 0)).toArray 3)) := by
  obtain ⟨i0, hi0, hz0, hz1, hz2⟩ := info_parts info3
  have := run_makeSlice (P := Tryz.prog) w 27 3 i0 _ Tryz.underlying27 hi0 hz0 .i64 .i64 n n (by omega) (by omega) (by rw [hz1]; omega) (by rw [hz2]; omega) (by omega)
  rw [hz1] at this
  simp only [Int.toNat_natCast, Nat.mul_one] at this
  have e : madeCells (Value.int .i64 0).cells n = (List.replicate n (Value.int .i64 0)).toArray := by
    apply Array.ext
    · simp [madeCells]
    · intro i h1 h2
      simp [madeCells, Value.cells, Nat.mod_one]
  rw [e] at this
  exact this
set_option maxRecDepth 100000 in
set_option maxHeartbeats 3200000 in
theorem repeat8 (x : Int) (n g0 : Nat) (hn : 1 ≤ n ∧ n ≤ 1024) (w : World) (h : w.cell? ⟨g0, 0, none⟩ = some (.int .i64 x)) :
    Calls Tryz.prog 38 #[.slice (some ⟨g0, 0, none⟩) 1 1, .int .i64 n] w fun e w' => e = .returned (.slice (some ⟨w.heap.size, 0, none⟩) n n) ∧ ∃ q, w' = (w.alloc (.cells (List.replicate n (.int .i64 x)).toArray 3)).drewN q := by
  have HM := hide (mul_any 1 n (by omega) (by omega) w)
  rw [show 1 * n / 18446744073709551616 = 0 by omega, show 1 * n % 18446744073709551616 = n by omega] at HM
  have hmk := made_ints9 n hn.2 w
  have hg0 : g0 < w.heap.size := block_lt_of_cell h
  rw [← rowR_zero x n] at hmk
  have hrun := copy_row x 0 1 n w.heap.size (w.alloc (.cells (rowR x 0 n).toArray 3)) (by omega) (heap_alloc_new _ _) ⟨g0, 0, none⟩ 1 1 n n (Nat.min_eq_left hn.1).symm (fun i hi => by
    rw [add0, World.cell?_alloc_lt _ _ _ (by show g0 < _; exact hg0), show i = 0 by omega]
    exact h)
  rw [setRow_alloc] at hrun
  have u1 : ¬ (9223372036854775807 : Int) < (n : Int) := by omega
  clear h hg0
  go_enter Tryz.func38, Tryz.ntmps38
  go_wp2_with (go_at_call 65; refine HM.out.mono ?_; rintro e w1 ⟨rfl, hw⟩; rw [hw]; clear hw)
  go_loopw [8] (fun vi wr => ∃ k : Nat, vi = .int .i64 k ∧ 1 ≤ k ∧ k ≤ n ∧ ∃ q, Hid (wr = (w.alloc (.cells (rowR x k n).toArray 3)).drewN q)) (fun vi _ => n - (intOf vi).toNat)
  case atStart => exact ⟨1, rfl, Nat.le_refl _, hn.1, 0, rfl⟩
  case round =>
    clear hrun hmk
    obtain ⟨k, rfl, hk1, hk, q, HR⟩ := hrel
    by_cases hlt : k < n
    · have i1 : (k : Int) < (n : Int) := by omega
      obtain ⟨j, hj⟩ : ∃ j, j = Nat.min k (n - k) := ⟨_, rfl⟩
      have hjl : j ≤ k := by rw [hj]; exact Nat.min_le_left _ _
      have hjr : j ≤ n - k := by rw [hj]; exact Nat.min_le_right _ _
      have hj0 : 1 ≤ j := by rw [hj]; exact Nat.le_min.2 ⟨hk1, by omega⟩
      have HJ := hide hj
      clear hj
      have hj1 : 1 ≤ j ∧ k + j ≤ n := by omega
      have hg : wr.drew.heap[w.heap.size]? = some (.cells (rowR x k n).toArray 3 (0, 0)) := by
        show wr.heap[w.heap.size]? = _
        rw [HR.out, Qu.drewN_heap]
        exact heap_alloc_new _ _
      have hrun := copy_row x k j n w.heap.size wr.drew hj1.2 hg ⟨w.heap.size, 0, none⟩ k n (n - k) (n - k) HJ.out (fun i hi => by
        rw [add0, cell_of_row _ w.heap.size i _ _ _ hg, List.getElem?_toArray]
        exact rowR_get x k n i (by omega))
      have H2 : Hid (wr.drew.setRow w.heap.size (rowR x (k + j) n).toArray = (w.alloc (.cells (rowR x (k + j) n).toArray 3)).drewN (q + 1)) := by
        show wr.drew.setRow _ _ = _
        rw [HR.out]
        show (((w.alloc (.cells (rowR x k n).toArray 3)).drewN q).setRow w.heap.size (rowR x (k + j) n).toArray).drew = _
        rw [setRow_drewN, setRow_alloc]
        rfl
      clear HR hg
      go_wp2
      go_region
      all_goals
        go_wp2
        go_roundw
        case rel => exact ⟨k + j, by go_num, by omega, by omega, q + 1, H2.out⟩
        case measure => simp [intOf]; omega
    · have hkn : k = n := by omega
      subst hkn
      have HE : Hid (wr = (w.alloc (.cells (List.replicate k (.int .i64 x)).toArray 3)).drewN q) := by
        have := HR.out
        rw [show rowR x k k = List.replicate k (.int .i64 x) by simp [rowR]] at this
        exact this
      go_wp2
      go_ret
      exact ⟨rfl, q, HE.out⟩
set_option maxRecDepth 100000 in
set_option maxHeartbeats 3200000 in
theorem repeat8_zero (x : Int) (g0 : Nat) (w : World) :
    Calls Tryz.prog 38 #[.slice (some ⟨g0, 0, none⟩) 1 1, .int .i64 0] w fun e w' => e = .returned (.slice (some ⟨w.heap.size, 0, none⟩) 0 0) ∧ w' = w.alloc (.cells #[] 3) := by
  have HM := hide (mul_any 1 0 (by omega) (by omega) w)
  have hmk := made_ints9 0 (by omega) w
  have hmk2 : (Instr.makeSlice 27 (.int .i64 0) (.int .i64 0)).run Tryz.prog w = .ok (.slice (some ⟨w.heap.size, 0, none⟩) 0 0) (w.alloc (.cells #[] 3)) := hmk
  have hcp := copy_row x 0 0 0 w.heap.size (w.alloc (.cells (rowR x 0 0).toArray 3)) (by omega) (heap_alloc_new _ _) ⟨g0, 0, none⟩ 1 1 0 0 rfl (fun i hi => by omega)
  rw [setRow_alloc] at hcp
  have e0 : (rowR x 0 0).toArray = #[] := rfl
  rw [e0] at hcp
  have hcp2 : (Builtin.copy_ #[27, 27] 3 #[.slice (some ⟨w.heap.size, 0, none⟩) 0 0, .slice (some ⟨g0, 0, none⟩) 1 1]).run Tryz.prog (w.alloc (.cells #[] 3)) = .ok (.int .i64 0) (w.alloc (.cells #[] 3)) := hcp
  clear hmk e0 hcp
  go_enter Tryz.func38, Tryz.ntmps38
  go_wp2_with (go_at_call 65; refine HM.out.mono ?_; rintro e w1 ⟨rfl, hw⟩; rw [hw]; clear hw)
  go_loopw [8] (fun vi wr => vi = .int .i64 0 ∧ wr = w.alloc (.cells #[] 3)) (fun _ _ => 0)
  case atStart => exact ⟨rfl, rfl⟩
  case round =>
    obtain ⟨rfl, rfl⟩ := hrel
    go_wp2
    go_ret
    exact ⟨rfl, rfl⟩
end Go.Proofs.YtojkdmkeankcgaaGreat
