/-
  What the call of Last of hours does: a range over slices.Backward.
-/
import Derived.RangeFuncNested
import Derived.RangeFuncBound
import Derived.RangeFuncCalls
import Derived.RangeFuncLeaves
import Derived.Shelf.Abstract
import Derived.Shelf.RegionOpen
import Derived.WalkKit
import Derived.OwnWalkIn
import Derived.TacticsInMore
import Derived.LoopNIn
import Derived.LoopIn
import Derived.Test.YtndbikoccdjafaaBSkP
import Derived.Test.YtndbikoccdjafaaBCHWalkG
namespace Go.Proofs.Ytndbikoccdjafaa.Hr
open Go.RowKit Go.Shelf
attribute [local go_sem] Oper.semAt_some
theorem WinsAt.on {w w' : World} {a : Option Addr} {m : Nat} {L : List Win} (h : WinsAt w a m L) (f : Below w.heap.size w w') : WinsAt w' a m L := h.later (Nat.le_refl _) f

/-- A window and its place, as the iterator hands them over. -/
def encB (x : Int × Win) : Array Value := #[.int .i64 x.1, .agg #[.int .i64 x.2.1, .int .i64 x.2.2]]
/-- The last k of them, the last one first. -/
def backL (L : List Win) (k : Nat) : List (Int × Win) := (List.range k).map fun j => (((L.length - 1 - j : Nat) : Int), L[L.length - 1 - j]!)
theorem backL_succ (L : List Win) (k : Nat) : backL L (k + 1) = backL L k ++ [(((L.length - 1 - k : Nat) : Int), L[L.length - 1 - k]!)] := by simp [backL, List.range_succ]
theorem backL_length (L : List Win) (k : Nat) : (backL L k).length = k := by simp [backL]
theorem lastR_skip (t : Int) : ∀ (P Q : List Win), (∀ w ∈ P, t < w.1) → lastR t (P ++ Q) = lastR t Q
  | [], _, _ => rfl
  | w :: r, Q, h => by
    rw [List.cons_append, lastR, if_neg (by have := h w List.mem_cons_self; omega)]
    exact lastR_skip t r Q fun u hu => h u (List.mem_cons_of_mem _ hu)
theorem backL_rev (L : List Win) (k : Nat) (h : k ≤ L.length) : (backL L k).map Prod.snd = L.reverse.take k := by
  apply List.ext_getElem
  · simp [backL, h]
  · intro i h1 h2
    have hi : i < k := by simpa [backL] using h1
    simp only [backL, List.map_map, List.getElem_map, List.getElem_range, Function.comp, List.getElem_take, List.getElem_reverse]
    rw [getElem!_pos L _ (by omega)]
theorem last_none {t : Int} {L : List Win} (h : ∀ x ∈ backL L L.length, t < x.2.1) : lastM t L = (0, false) := by
  unfold lastM
  have e := backL_rev L L.length (Nat.le_refl _)
  rw [List.take_of_length_le (by simp)] at e
  have := lastR_skip t L.reverse [] (fun w hw => by
    rw [← e] at hw
    obtain ⟨x, hx, rfl⟩ := List.mem_map.1 hw
    exact h x hx)
  rw [List.append_nil] at this
  exact this
theorem last_some {t : Int} {L : List Win} {k : Nat} {x : Int × Win} (hk : k < L.length) (h : ∀ y ∈ backL L k, t < y.2.1) (hx : x = (((L.length - 1 - k : Nat) : Int), L[L.length - 1 - k]!)) (ht : x.2.1 ≤ t) :
    lastM t L = (if t < x.2.2 then t else x.2.2, true) := by
  unfold lastM
  have e := backL_rev L k (by omega)
  have e2 : L.reverse = L.reverse.take k ++ x.2 :: L.reverse.drop (k + 1) := by
    conv => lhs; rw [← List.take_append_drop k L.reverse]
    rw [List.drop_eq_getElem_cons (by simpa using hk), List.getElem_reverse, hx, getElem!_pos L _ (by omega)]
  rw [e2, lastR_skip t _ _ (fun w hw => by
    rw [← e] at hw
    obtain ⟨y, hy, rfl⟩ := List.mem_map.1 hw
    exact h y hy), lastR, if_pos ht]

set_option maxRecDepth 100000 in
set_option maxHeartbeats 2000000 in
theorem backC_any (F : Fence) (n : Nat) (h19 : F.fn 112) (hro : F.round = none) (hn : 1 ≤ n) (l Bs n₀ : Nat) (a : Option Addr) (m cap : Nat) (L : List Win) (J Jx : List (Int × Win) → World → Prop)
    (hY : ∀ pre x W, J pre W → pre.length < m → YieldAt F (n - 1) Try.prog l (encB x) W fun e W' =>
      (e = .returned (.bool true) ∧ J (pre ++ [x]) W' ∧ Below n₀ W W') ∨ (e = .returned (.bool false) ∧ Jx (pre ++ [x]) W'))
    (W : World) (hBs : W.cell? ⟨Bs, 0, none⟩ = some (.slice a m cap)) (hbs : Bs < n₀) (hW : WinsAt W a m L) (hb : 0 < m → ∀ b off, a = some ⟨b, off, none⟩ → b < n₀) (h0 : J [] W) :
    CallsIn F n Try.prog 112 #[.func (.yield l) #[] #[], .pointer (some ⟨Bs, 0, none⟩)] W fun e W' => (∃ v, e = .returned v) ∧
      ((∃ ys, ys = backL L m ∧ J ys W') ∨ (∃ pre, (∃ k, k < m ∧ pre = backL L (k + 1)) ∧ Jx pre W')) := by
  have hmm := len_max hW
  have hlm := hW.len
  refine callsIn_of_wp Try.func112 rfl h19 ?_ hro
  simp only [Try.ntmps112, List.size_toArray, List.length_cons, List.length_nil, Nat.reduceAdd, Nat.reduceSub, Array.replicate_succ, Array.replicate_zero, List.push_toArray, List.append_toArray, List.nil_append, List.cons_append]
  gi_wp2
  gi_loopw [3] (fun i wr => ∃ k : Nat, k ≤ m ∧ i = .int .i64 ((m : Int) - 1 - k) ∧ J (backL L k) wr ∧ Below n₀ W wr)
    (fun i _ => (intOf i + 1).toNat)
  case atStart => exact ⟨0, Nat.zero_le _, by go_num, h0, Below.refl _ _⟩
  case round =>
    obtain ⟨k, hk, rfl, hJs, hnx⟩ := hrel
    have hBr : wr.cell? ⟨Bs, 0, none⟩ = some (.slice a m cap) := (hnx.cell (p := ⟨Bs, 0, none⟩) hbs).trans hBs
    by_cases hlt : k < m
    · obtain ⟨b, off, e, c0, c1⟩ := hW.cell (m - 1 - k) (by omega)
      have hbl := hb (by omega) b off e
      subst e
      have d0 := (hnx.cell (p := ⟨b, off + (m - 1 - k) * 2, none⟩) hbl).trans c0
      have d1 := (hnx.cell (p := ⟨b, off + (m - 1 - k) * 2 + 1, none⟩) hbl).trans c1
      have hs := backL_succ L k
      rw [hlm] at hs
      obtain ⟨x, hx⟩ : ∃ x, L[m - 1 - k]! = x := ⟨_, rfl⟩
      rw [hx] at d0 d1 hs
      obtain ⟨x1, x2⟩ := x
      simp only at d0 d1
      obtain ⟨i, hi⟩ : ∃ i, m - 1 - k = i := ⟨_, rfl⟩
      rw [hi] at d0 d1 hs
      have hi2 : (m : Int) - 1 - (k : Int) = (i : Int) := by omega
      rw [hi2]
      obtain ⟨fn, tmps, assign, body, hy, hR⟩ := hY _ ((i : Int), x1, x2) wr hJs (by rw [backL_length]; exact hlt)
      dsimp only [encB] at hy hR
      rw [← hs] at hR
      have i4 : (i : Int) < (m : Int) := by omega
      clear c0 c1 hx hs
      gi_wp2
      refine hR.mono ?_
      rintro e W3 (⟨rfl, hJ3, hk3⟩ | ⟨rfl, hJx3⟩)
      · gi_wp2
        go_roundw
        case rel => exact ⟨k + 1, by omega, by go_num, hJ3, hnx.trans hk3⟩
        case measure => simp [intOf]
      · gi_wp2
        refine bodyPost_ret (results_none rfl _ _ _) rfl ?_
        exact ⟨⟨_, rfl⟩, .inr ⟨_, ⟨k, hlt, rfl⟩, hJx3⟩⟩
    · obtain rfl : k = m := by omega
      have e1 : (k : Int) - 1 - (k : Int) = -1 := by omega
      rw [e1]
      gi_wp2
      go_end0
      exact ⟨⟨_, rfl⟩, .inl ⟨_, rfl, hJs⟩⟩
set_option maxHeartbeats 1000000 in
theorem back_any (F : Fence) (n : Nat) (h16 : F.fn 88) (hro : F.round = none) (a : Option Addr) (m cap : Nat) (w : World) :
    CallsIn F n Try.prog 88 #[.slice a m cap] w fun e w' => e = .returned (.func (.func 112) #[] #[.pointer (some ⟨w.heap.size, 0, none⟩)]) ∧ w' = w.alloc (.cells #[.slice a m cap] 84) := by
  refine callsIn_of_wp Try.func88 rfl h16 ?_ hro
  simp only [Try.ntmps88, List.size_toArray, List.length_cons, List.length_nil, Nat.reduceAdd, Nat.reduceSub, Array.replicate_succ, Array.replicate_zero, List.push_toArray, List.append_toArray, List.nil_append, List.cons_append]
  gi_wp2
  go_ret
  exact ⟨rfl, rfl⟩
theorem back_stops (F : Fence) (n : Nat) (h19 : F.fn 112) (hro : F.round = none) (hn : 1 ≤ n) (Bs : Nat) (a : Option Addr) (m cap : Nat) (L : List Win) (w : World) (hBs : Bs < w.heap.size)
    (hc : w.cell? ⟨Bs, 0, none⟩ = some (.slice a m cap)) (hW : WinsAt w a m L) :
    SeqStopsK F n Try.prog 112 #[.pointer (some ⟨Bs, 0, none⟩)] encB (Below w.heap.size) (fun ys => ys = backL L m) (fun pre => ∃ k, k < m ∧ pre = backL L (k + 1)) m w := fun l J Jx W hb _ _ hY h0 => by
  exact backC_any F n h19 hro hn l Bs w.heap.size a m cap L J Jx hY W ((hb.cell (p := ⟨Bs, 0, none⟩) hBs).trans hc) hBs (hW.on hb) (fun hm b off e => by
    obtain ⟨b', off', e', h1, _⟩ := hW.cell 0 hm
    rw [e] at e'
    cases e'
    exact block_lt_of_cell h1) h0
theorem four_new (W : World) (o1 o2 o3 o4 : Obj) : ((((W.alloc o1).alloc o2).alloc o3).alloc o4).heap[W.heap.size]? = some o1 ∧ ((((W.alloc o1).alloc o2).alloc o3).alloc o4).heap[W.heap.size + 1]? = some o2 ∧ ((((W.alloc o1).alloc o2).alloc o3).alloc o4).heap[W.heap.size + 1 + 1]? = some o3 ∧ ((((W.alloc o1).alloc o2).alloc o3).alloc o4).heap[W.heap.size + 1 + 1 + 1]? = some o4 := by
  have s1 : (W.alloc o1).heap.size = W.heap.size + 1 := by simp
  have s2 : ((W.alloc o1).alloc o2).heap.size = W.heap.size + 1 + 1 := by simp
  have s3 : (((W.alloc o1).alloc o2).alloc o3).heap.size = W.heap.size + 1 + 1 + 1 := by simp
  refine ⟨?_, ?_, ?_, ?_⟩
  · rw [Below.heap_alloc _ _ _ (by omega), Below.heap_alloc _ _ _ (by omega), Below.heap_alloc _ _ _ (by omega)]; exact heap_alloc_new _ _
  · rw [Below.heap_alloc _ _ _ (by omega), Below.heap_alloc _ _ _ (by omega), ← s1]; exact heap_alloc_new _ _
  · rw [Below.heap_alloc _ _ _ (by omega), ← s2]; exact heap_alloc_new _ _
  · rw [← s3]; exact heap_alloc_new _ _
/-- Where the loop begins. -/
structure W4 (w : World) (t : Int) (sv : Value) (N : Nat) (W : World) : Prop where
  size : W.heap.size = N + 4
  below : Below N w W
  b0 : Boxed W N 3 (.int .i64 t)
  b1 : Boxed W (N + 1) 3 (.int .i64 0)
  b2 : Boxed W (N + 1 + 1) 4 (.bool false)
  b3 : Boxed W (N + 1 + 1 + 1) 84 sv
theorem w4_made (w : World) (t : Int) (sv : Value) : W4 w t sv w.heap.size ((((w.alloc (.cells #[.int .i64 t] 3)).alloc (.cells #[.int .i64 0] 3)).alloc (.cells #[.bool false] 4)).alloc (.cells #[sv] 84)) := by
  obtain ⟨h0, h1, h2, h3⟩ := four_new w (.cells #[.int .i64 t] 3) (.cells #[.int .i64 0] 3) (.cells #[.bool false] 4) (.cells #[sv] 84)
  exact ⟨by simp, ((((Below.refl _ w).alloc (Nat.le_refl _) _).alloc (by simp) _).alloc (by simp; omega) _).alloc (by simp; omega) _, h0, h1, h2, h3⟩
theorem boxed_on {A B : World} {n b : Nat} {ty : TypeId} {v : Value} (h : Boxed A b ty v) (f : Below n A B) (hb : b < n) : Boxed B b ty v := (f.block b hb).trans h
set_option maxRecDepth 100000 in
set_option maxHeartbeats 2000000 in
theorem last_any {a : Option Addr} {m c : Nat} {L : List Win} {w : World} (t : Int) (h : WinsAt w a m L) :
    Calls Try.prog 58 #[.slice a m c, .int .i64 t] w fun e w' => e = .returned (.tuple #[.int .i64 (lastM t L).1, .bool (lastM t L).2]) ∧ Below w.heap.size w w' := by
  have hlm := h.len
  refine (callsIn_wide (n := 3)).1 ?_
  have hro : Fence.wide.round = none := rfl
  have h1 : 1 ≤ 3 := by omega
  refine callsIn_of_wp_marks Try.func58 rfl trivial ?_ hro
  simp only [Try.ntmps58, List.size_toArray, List.length_cons, List.length_nil, Nat.reduceAdd, Nat.reduceSub, Array.replicate_succ, Array.replicate_zero, List.push_toArray, List.append_toArray, List.nil_append, List.cons_append]
  gi_wp2_with (refine ⟨trivial, ?_⟩; gi_at_call 88; refine (back_any Fence.wide _ trivial hro _ _ _ _).mono ?_; rintro e w' ⟨rfl, rfl⟩)
  have H0 := w4_made w t (.slice a m c)
  have hA0 := h.on H0.below
  obtain ⟨N, hN⟩ : ∃ N, w.heap.size = N := ⟨_, rfl⟩
  simp only [hN] at H0 ⊢
  generalize ((((w.alloc (.cells #[.int .i64 t] 3)).alloc (.cells #[.int .i64 0] 3)).alloc (.cells #[.bool false] 4)).alloc (.cells #[.slice a m c] 84)) = W0 at H0 hA0 ⊢
  have hs0 := H0.size
  refine wpIn_rangeFunc_ownH hro h1 (gf := 112) (lb := #[.pointer (some ⟨N + 1 + 1 + 1, 0, none⟩)]) rfl trivial (enters_of Try.func112 (by kernel_rfl) rfl)
    (back_stops Fence.wide (3 - 1) trivial hro (by omega) (N + 1 + 1 + 1) a m c L W0 (by omega) H0.b3.cell hA0) belowK_t (belowK_b (Nat.le_refl _)) (Below.refl _ _) (fun _ => rfl)
    (fun pre W => (∀ y ∈ pre, t < y.2.1) ∧ Below W0.heap.size W0 W)
    (fun cd pre W => (cd = .ret ∧ ∃ ini x, pre = ini ++ [x] ∧ (∀ y ∈ ini, t < y.2.1) ∧ x.2.1 ≤ t ∧ W.cell? ⟨N + 1, 0, none⟩ = some (.int .i64 (if t < x.2.2 then t else x.2.2)) ∧ W.cell? ⟨N + 1 + 1, 0, none⟩ = some (.bool true)) ∧ Below N w W)
    (OwnFrom.and (fun s A B row hs hg hr => hs) (ownFrom_below (Nat.le_refl _) (Nat.le_refl _)))
    (fun cd => OwnFrom.and (Own.from (fun s A B row hs hg hr => by obtain ⟨hc, ini, x, e1, e2, e3, e4, e5⟩ := hs; exact ⟨hc, ini, x, e1, e2, e3, cell_kept e4 hg hr, cell_kept e5 hg hr⟩) _) (ownFrom_below (by omega) (by omega)))
    ⟨by simp, Below.refl _ _⟩
    (fun x a' W => ∃ Bx, W0.heap.size ≤ Bx ∧ W.cell? ⟨Bx, 0, none⟩ = some (.int .i64 x.2.1) ∧ W.cell? ⟨Bx, 1, none⟩ = some (.int .i64 x.2.2) ∧ a' = { tmps := #[.slice a m c, .int .i64 t, undef, .pointer (some ⟨N, 0, none⟩), .pointer (some ⟨N + 1, 0, none⟩), .pointer (some ⟨N + 1 + 1, 0, none⟩), undef, .pointer (some ⟨Bx, 0, none⟩), .slice a m c, .func (.func 112) #[] #[.pointer (some ⟨N + 1 + 1 + 1, 0, none⟩)], .int .i64 x.1, .agg #[.int .i64 x.2.1, .int .i64 x.2.2], undef, undef, undef, undef, undef, undef, undef, undef], defers := [] })
    (fun x a' _ X Y row hs hg hr => by obtain ⟨Bx, g1, g2, g3, g4⟩ := hs; exact ⟨Bx, g1, cell_kept g2 hg (fun r e => (hr r e).2), cell_kept g3 hg (fun r e => (hr r e).2), g4⟩)
    ?assign ?body ?done ?stop
  case assign =>
    rintro l pre x W K ⟨hp, hB⟩ hK
    dsimp only [encB]
    gi_wp2
    have hr := heap_alloc_new W (.cells #[.int .i64 x.2.1, .int .i64 x.2.2] 54)
    exact hK _ _ ((KeepsOthers.alloc _ _).from _) ((Below.refl _ W).alloc hB.size _) ⟨hp, hB.alloc hB.size _⟩ ⟨W.heap.size, hB.size, by rw [cell_of_row _ _ 0 _ _ _ hr]; rfl, by rw [cell_of_row _ _ 1 _ _ _ hr]; rfl, rfl⟩
  case body =>
    rintro l pre ⟨xi, x1, x2⟩ a' W hl ⟨r, hr⟩ ⟨hp, hB⟩ ⟨Bx, hBx, k0, k1, rfl⟩ hlt
    dsimp only at k0 k1 hp ⊢
    have c0 := (boxed_on H0.b0 hB (by omega)).cell
    have c1 := (boxed_on H0.b1 hB (by omega)).cell
    have f1 := (boxed_on H0.b1 hB (by omega)).frozen
    have c2 := (boxed_on H0.b2 hB (by omega)).cell
    have f2 := (boxed_on H0.b2 hB (by omega)).frozen
    have HBn : Hid (Below N w W) := by
      have h2 : Below N W0 W := hB.mono (by omega)
      exact H0.below.trans h2
    have HB := hide hB
    clear hB hs0
    by_cases hx : x1 ≤ t
    · have HE : Hid (∀ v : Int, v = (if t < x2 then t else x2) → KeepsFrom W0.heap.size W ((W.setCell ⟨N + 1, 0, none⟩ (.int .i64 v)).setCell ⟨N + 1 + 1, 0, none⟩ (.bool true)) ∧
          ((∃ ini x, pre ++ [(xi, x1, x2)] = ini ++ [x] ∧ (∀ y ∈ ini, t < y.2.1) ∧ x.2.1 ≤ t ∧ ((W.setCell ⟨N + 1, 0, none⟩ (.int .i64 v)).setCell ⟨N + 1 + 1, 0, none⟩ (.bool true)).cell? ⟨N + 1, 0, none⟩ = some (.int .i64 (if t < x.2.2 then t else x.2.2)) ∧ ((W.setCell ⟨N + 1, 0, none⟩ (.int .i64 v)).setCell ⟨N + 1 + 1, 0, none⟩ (.bool true)).cell? ⟨N + 1 + 1, 0, none⟩ = some (.bool true)) ∧
          Below N w ((W.setCell ⟨N + 1, 0, none⟩ (.int .i64 v)).setCell ⟨N + 1 + 1, 0, none⟩ (.bool true)))) := fun v hv => by
        have d1 : (W.setCell ⟨N + 1, 0, none⟩ (.int .i64 v)).cell? ⟨N + 1, 0, none⟩ = some (.int .i64 v) := World.cell?_setCell_same' _ _ _ (by rw [c1]; rfl)
        have d2 : (W.setCell ⟨N + 1, 0, none⟩ (.int .i64 v)).cell? ⟨N + 1 + 1, 0, none⟩ = some (.bool false) := by rw [World.cell?_setCell_far _ _ _ _ (by simp)]; exact c2
        refine ⟨((KeepsOthers.setCell _ _ _).trans (KeepsOthers.setCell _ _ _)).from _, ⟨pre, (xi, x1, x2), rfl, hp, hx, ?_, ?_⟩, ?_⟩
        · rw [World.cell?_setCell_far _ _ _ _ (by simp), d1, hv]
        · exact World.cell?_setCell_same' _ _ _ (by rw [d2]; rfl)
        · exact (HBn.out.setCell (p := ⟨N + 1, 0, none⟩) (by simp) _).setCell (p := ⟨N + 1 + 1, 0, none⟩) (by simp; omega) _
      by_cases hy : t ≤ x2
      · have hm := HE.out t (by split <;> omega)
        replace hm := hide hm
        clear HE
        gi_wp2
        exact ⟨hm.out.1, ⟨rfl, hm.out.2.1⟩, hm.out.2.2⟩
      · have hm := HE.out x2 (by split <;> omega)
        replace hm := hide hm
        clear HE
        have hy2 : x2 < t := by omega
        gi_wp2
        obtain ⟨h4, ⟨ini, x, h5⟩, h6⟩ := hm.out
        refine ⟨h4, ⟨rfl, ?_⟩, h6⟩
        exact ⟨ini, x.1, x.2.1, x.2.2, h5.1, fun y1 y2 y3 hy => h5.2.1 (y1, y2, y3) hy, h5.2.2⟩
    · have HP : Hid (∀ y ∈ pre ++ [(xi, x1, x2)], t < y.2.1) := fun y hy => by
        rcases List.mem_append.1 hy with hy | hy
        · exact hp y hy
        · simp at hy; subst hy; show t < x1; omega
      gi_wp2
      exact ⟨KeepsFrom.refl _ _, Below.refl _ _, ⟨by intro y1 y2 y3 hy; exact HP.out (y1, y2, y3) (by simpa using hy), HB.out⟩⟩
  case done =>
    rintro D ys W hD rfl ⟨hp, hB⟩ hK
    have E := hide (last_none (t := t) (L := L) (by rw [hlm]; exact hp))
    have c1 := (boxed_on H0.b1 hB (by omega)).cell
    have f1 := (boxed_on H0.b1 hB (by omega)).frozen
    have c2 := (boxed_on H0.b2 hB (by omega)).cell
    have f2 := (boxed_on H0.b2 hB (by omega)).frozen
    have HBn : Hid (Below N w W) := by
      have h2 : Below N W0 W := hB.mono (by omega)
      exact H0.below.trans h2
    have d1 : ((W.setCell ⟨N + 1, 0, none⟩ (.int .i64 0)).setCell ⟨N + 1 + 1, 0, none⟩ (.bool false)).cell? ⟨N + 1, 0, none⟩ = some (.int .i64 0) := by
      rw [World.cell?_setCell_far _ _ _ _ (by simp)]; exact World.cell?_setCell_same' _ _ _ (by rw [c1]; rfl)
    have d2 : ((W.setCell ⟨N + 1, 0, none⟩ (.int .i64 0)).setCell ⟨N + 1 + 1, 0, none⟩ (.bool false)).cell? ⟨N + 1 + 1, 0, none⟩ = some (.bool false) := by
      refine World.cell?_setCell_same' _ _ _ ?_
      rw [World.cell?_setCell_far _ _ _ _ (by simp), c2]; rfl
    have HD := hide (And.intro d1 d2)
    have HK := hide (((KeepsOthers.setCell W ⟨N + 1, 0, none⟩ (.int .i64 0)).trans (KeepsOthers.setCell _ ⟨N + 1 + 1, 0, none⟩ (.bool false))).same D _ hK rfl)
    have HBB : Hid (Below N w ((W.setCell ⟨N + 1, 0, none⟩ (.int .i64 0)).setCell ⟨N + 1 + 1, 0, none⟩ (.bool false))) := (HBn.out.setCell (p := ⟨N + 1, 0, none⟩) (by simp) _).setCell (p := ⟨N + 1 + 1, 0, none⟩) (by simp; omega) _
    clear hp hB d1 d2
    gi_wp2
    refine ⟨by simp, .inl ⟨_, _, rfl, run_takeDeferred HK.out, ?_⟩⟩
    have hc4 := cell_kept HD.out.1 (grownBy_putObj' _ D (.deferred none)) (fun r e => by cases e; exact ⟨_, HK.out, rfl⟩)
    have hc5 := cell_kept HD.out.2 (grownBy_putObj' _ D (.deferred none)) (fun r e => by cases e; exact ⟨_, HK.out, rfl⟩)
    refine ⟨.tuple #[.int .i64 0, .bool false], ?_, by rw [E.out], ?_⟩
    · simp [results, Try.f58, go_sem, hc4, hc5]
    · rw [hN]
      exact HBB.out.trans (belowK_b (w := W0) (by omega) _ D _ _ hD HK.out rfl rfl)
  case stop =>
    rintro D cd pre W hD ⟨k, hk, rfl⟩ ⟨⟨rfl, ini, x, e1, e2, e3, e4, e5⟩, hB⟩ hK
    have E : Hid (lastM t L = (if t < x.2.2 then t else x.2.2, true)) := by
      rw [backL_succ] at e1
      obtain ⟨r1, r2⟩ := List.append_inj' e1 rfl
      have r3 : x = (((L.length - 1 - k : Nat) : Int), L[L.length - 1 - k]!) := by simpa using r2.symm
      exact last_some (by omega) (by rw [r1]; exact e2) r3 e3
    gi_wp2
    refine ⟨by simp, .inl ⟨_, _, rfl, run_takeDeferred hK, ?_⟩⟩
    have hc4 := cell_kept e4 (grownBy_putObj' _ D (.deferred none)) (fun r e => by cases e; exact ⟨_, hK, rfl⟩)
    have hc5 := cell_kept e5 (grownBy_putObj' _ D (.deferred none)) (fun r e => by cases e; exact ⟨_, hK, rfl⟩)
    refine ⟨.tuple #[.int .i64 (if t < x.2.2 then t else x.2.2), .bool true], ?_, by rw [E.out], ?_⟩
    · simp [results, Try.f58, go_sem, hc4, hc5]
    · rw [hN]
      exact hB.trans (belowK_b (w := W0) (by omega) _ D _ _ hD hK rfl rfl)
end Go.Proofs.Ytndbikoccdjafaa.Hr
