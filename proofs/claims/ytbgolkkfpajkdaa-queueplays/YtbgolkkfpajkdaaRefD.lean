/-
  What the call of the document's Take does.
-/
import Derived.Test.YtbgolkkfpajkdaaRefC
namespace Go.Proofs.Ytbgolkkfpajkdaa
open Go.RowKit Go.Maps

section
variable {w w' : World} {r : Nat} {X : List Pr} {T : Nat → Prop}
theorem rtake_none (h : RAt r [] w T) : Calls Try.prog 11 #[.pointer (some ⟨r, 0, none⟩)] w fun e w' => e = .returned (.tuple #[.int .i64 0, .int .i64 0, .bool false]) ∧ w' = w := by
  obtain ⟨v, h1, h2, _⟩ := h.ex
  have c0 := cell_of_row w r 0 _ _ _ h1
  simp only [List.getElem?_toArray, List.getElem?_cons_zero] at c0
  obtain ⟨a, cap, rfl, hc1, hc2⟩ := h2.shape
  simp only [List.length_nil] at c0
  go_enter Try.func11, Try.ntmps11
  go_wp2
  go_returns
  exact ⟨rfl, rfl⟩
theorem take_succ_at {k : Nat} (hk : k < X.length) : X.take (k + 1) = X.take k ++ [at' X k] := by
  rw [List.take_succ_eq_append_getElem hk]
  simp [at', List.getD_eq_getElem?_getD, hk]
theorem least_snoc {L : List Pr} {p x : Pr} (h : Least L p) (hx : lt x p = true) : Least (L ++ [x]) x := by
  refine ⟨by simp, fun y hy => ?_⟩
  rcases List.mem_append.1 hy with hy | hy
  · exact lt_le hx (h.2 y hy)
  · simp at hy; subst hy; exact lt_irrefl _
theorem least_stay {L : List Pr} {p x : Pr} (h : Least L p) (hx : lt x p = false) : Least (L ++ [x]) p := by
  refine ⟨by simp [h.1], fun y hy => ?_⟩
  rcases List.mem_append.1 hy with hy | hy
  · exact h.2 y hy
  · simp at hy; subst hy; exact hx
/-- The best of the first k lies in block B. -/
def Best (w : World) (B : Nat) (X : List Pr) (w' : World) (k : Nat) : Prop := ∃ p, Least (X.take k) p ∧ w'.heap[B]? = some (.cells #[.int .i64 p.1, .int .i64 p.2] 52 (0, 0)) ∧ Below B w w'
theorem re_trans {w1 : World} {X' : List Pr} {B : Nat} (hB : w.heap.size = B) (hb : Below B w w1) (h : RE r X' T w1 w') : RE r X' T w w' := by
  obtain ⟨hF, T', h1, h2, h3⟩ := h
  refine ⟨(Fr.of_below (by rw [hB]; exact hb) : Fr T w w1).trans hF (fun i h => .inl h), T', h1, fun k hk => ?_, h3⟩
  rcases h2 k hk with h | h
  · exact .inl h
  · exact .inr (Nat.le_trans hb.size h)

set_option maxRecDepth 100000 in
set_option maxHeartbeats 3200000 in
theorem rtake_any (h : RAt r X w T) (hT : ∀ k, T k → k < w.heap.size) (hl : X.length ≤ 4096) (hd : Dis X) (p : Pr) (hp : Least X p) :
    Calls Try.prog 11 #[.pointer (some ⟨r, 0, none⟩)] w fun e w' => e = .returned (.tuple #[.int .i64 p.1, .int .i64 p.2, .bool true]) ∧ RE r (dropM X p.1) T w w' := by
  have hX : 0 < X.length := List.length_pos_of_mem hp.1
  obtain ⟨v, h1, h2, h3⟩ := h.ex
  obtain ⟨g, cap, hv, hc1, hc2⟩ := h2.nonempty hX
  subst hv
  have c0 := cell_of_row w r 0 _ _ _ h1
  simp only [List.getElem?_toArray, List.getElem?_cons_zero] at c0
  have a := h2.cells 0 hX
  simp only [Nat.zero_mul, Nat.zero_add] at a
  obtain ⟨a0, a1⟩ := a
  have hrl := hT r h.tr
  have hgl := hT g (h3 g rfl)
  have hne : ((X.length : Int) == 0) = false := by simp; intro e; rw [e] at hX; simp at hX
  have i0 : (0 : Int) < (X.length : Int) := by omega
  obtain ⟨x0, hx0⟩ : ∃ x, (at' X 0).1 = x := ⟨_, rfl⟩
  obtain ⟨k0, hk0⟩ : ∃ x, (at' X 0).2 = x := ⟨_, rfl⟩
  rw [hx0] at a0
  rw [hk0] at a1
  have HS : Hid (Best w w.heap.size X (w.alloc (.cells #[.int .i64 x0, .int .i64 k0] 52)) 1) := by
    refine ⟨at' X 0, ?_, by rw [hx0, hk0]; exact heap_alloc_new _ _, (Below.refl _ _).alloc (Nat.le_refl _) _⟩
    have e : X.take 1 = [at' X 0] := by have := take_succ_at hX; simpa using this
    rw [e]
    exact ⟨by simp, by simp [lt_irrefl]⟩
  obtain ⟨B, hB⟩ : ∃ B, w.heap.size = B := ⟨_, rfl⟩
  have HR := hide (And.intro h (And.intro hT (And.intro hB (And.intro hd hp))))
  have HC : Hid (∀ wr, Below B w wr → wr.cell? ⟨r, 0, none⟩ = some (.slice (some ⟨g, 0, none⟩) X.length cap) ∧ ∀ j, j < X.length → wr.cell? ⟨g, j * 2, none⟩ = some (.int .i64 (at' X j).1) ∧ wr.cell? ⟨g, j * 2 + 1, none⟩ = some (.int .i64 (at' X j).2)) := fun wr hb =>
    ⟨(hb.cell (p := ⟨r, 0, none⟩) (by show r < B; omega)).trans c0, fun j hj => ⟨(hb.cell (p := ⟨g, j * 2, none⟩) (by show g < B; omega)).trans (h2.cells j hj).1, (hb.cell (p := ⟨g, j * 2 + 1, none⟩) (by show g < B; omega)).trans (h2.cells j hj).2⟩⟩
  clear h h1 h2 h3 hp hd hx0 hk0 hT
  go_enter Try.func11, Try.ntmps11
  go_wp2
  rw [hB] at HS
  generalize w.alloc (.cells #[.int .i64 x0, .int .i64 k0] 52) = W0 at HS ⊢
  rw [hB] at hrl hgl
  clear a0 a1 c0 hB
  go_loopw [6] (fun i wr => ∃ k : Nat, i = .int .i64 k ∧ 1 ≤ k ∧ k ≤ X.length ∧ Hid (Best w B X wr k)) (fun i _ => X.length - (intOf i).toNat)
  case atStart => exact ⟨1, rfl, by omega, by omega, HS.out⟩
  case round =>
    clear HS
    obtain ⟨k, rfl, hk1, hk2, HBe⟩ := hrel
    obtain ⟨q, hq, hqb, hbw⟩ := HBe.out
    obtain ⟨d0, dj⟩ := HC.out wr hbw
    by_cases hlt : k < X.length
    · obtain ⟨e0, e1⟩ := dj k hlt
      obtain ⟨x, hx⟩ : ∃ x, at' X k = x := ⟨_, rfl⟩
      rw [hx] at e0 e1
      obtain ⟨xi, xk⟩ := x
      obtain ⟨qi, qk⟩ := q
      simp only at e0 e1 hqb
      have hBl : B < wr.heap.size := lt_of_block hqb
      have hb2 : Below wr.heap.size wr (wr.alloc (.cells #[.int .i64 xi, .int .i64 xk] 52)) := (Below.refl _ _).alloc (Nat.le_refl _) _
      have q0 := cell_of_row wr B 0 _ _ _ hqb
      have q1 := cell_of_row wr B 1 _ _ _ hqb
      simp only [List.getElem?_toArray, List.getElem?_cons_succ, List.getElem?_cons_zero] at q0 q1
      have s0 := (hb2.cell (p := ⟨B, 0, none⟩) hBl).trans q0
      have s1 := (hb2.cell (p := ⟨B, 1, none⟩) hBl).trans q1
      have z0 := (hb2.frozen (p := ⟨B, 0, none⟩) hBl).trans (frozen_of_row wr B 0 _ _ hqb)
      have z1 := (hb2.frozen (p := ⟨B, 1, none⟩) hBl).trans (frozen_of_row wr B 1 _ _ hqb)
      have y0 := frozen_of_row wr B 0 _ _ hqb
      have y1 := frozen_of_row wr B 1 _ _ hqb
      have i1 : (k : Int) < (X.length : Int) := by omega
      have HY : Hid (lt (xi, xk) (qi, qk) = true → Best w B X (((wr.setCell ⟨B, 0, none⟩ (.int .i64 xi)).setCell ⟨B, 1, none⟩ (.int .i64 xk)).alloc (.cells #[.int .i64 xi, .int .i64 xk] 52)) (k + 1)) := fun hl2 => by
        have hsz : ((wr.setCell ⟨B, 0, none⟩ (.int .i64 xi)).setCell ⟨B, 1, none⟩ (.int .i64 xk)).heap.size = wr.heap.size := by simp [World.setCell]
        refine ⟨(xi, xk), by rw [take_succ_at hlt, hx]; exact least_snoc hq hl2, ?_, ((hbw.setCell (Nat.le_refl _) _).setCell (Nat.le_refl _) _).alloc (by omega) _⟩
        rw [Below.heap_alloc _ _ _ (by omega), heap_setCell_same _ B 1 _ _ _ (heap_setCell_same _ B 0 _ _ _ hqb)]
        rfl
      have HNo : Hid (lt (xi, xk) (qi, qk) = false → Best w B X (wr.alloc (.cells #[.int .i64 xi, .int .i64 xk] 52)) (k + 1)) := fun hl2 =>
        ⟨(qi, qk), by rw [take_succ_at hlt, hx]; exact least_stay hq hl2, (hb2.block B hBl).trans hqb, hbw.alloc (by omega) _⟩
      have g1 : ¬ wr.heap.size = g := by omega
      have g2 : ¬ wr.heap.size = r := by omega
      have g3 : ¬ wr.heap.size = B := by omega
      have hc : (xk < qk) ∨ (¬ xk < qk ∧ xk = qk ∧ xi < qi) ∨ (¬ xk < qk ∧ xk = qk ∧ ¬ xi < qi) ∨ (¬ xk < qk ∧ ¬ xk = qk) := by omega
      clear hq hqb hbw dj hx hb2 HBe
      rcases hc with c1 | ⟨c1, rfl, c3⟩ | ⟨c1, rfl, c3⟩ | ⟨c1, c2⟩
      · have HE := hide (HY.out (by rw [lt_iff]; exact .inl c1))
        go_wp2
        go_roundw
        case rel => exact ⟨k + 1, by go_num, by omega, by omega, HE.out⟩
        case measure => simp [intOf]; omega
      · have HE := hide (HY.out (by rw [lt_iff]; exact .inr ⟨rfl, c3⟩))
        go_wp2
        go_roundw
        case rel => exact ⟨k + 1, by go_num, by omega, by omega, HE.out⟩
        case measure => simp [intOf]; omega
      · have HE := hide (HNo.out (by simp only [lt, decide_eq_false_iff_not]; omega))
        go_wp2
        go_roundw
        case rel => exact ⟨k + 1, by go_num, by omega, by omega, HE.out⟩
        case measure => simp [intOf]; omega
      · have HE := hide (HNo.out (by simp only [lt, decide_eq_false_iff_not]; omega))
        have c2' : (xk == qk) = false := by simpa using c2
        clear c2
        go_wp2
        go_roundw
        case rel => exact ⟨k + 1, by go_num, by omega, by omega, HE.out⟩
        case measure => simp [intOf]; omega
    · rw [List.take_of_length_le (by omega)] at hq
      obtain rfl : q = p := hq.uniq HR.out.2.2.2.2
      obtain ⟨hRA, hT, hB, hd, hp⟩ := HR.out
      have q0 := cell_of_row wr B 0 _ _ _ hqb
      have q1 := cell_of_row wr B 1 _ _ _ hqb
      simp only [List.getElem?_toArray, List.getElem?_cons_succ, List.getElem?_cons_zero] at q0 q1
      have hRA2 : RAt r X wr T := keeps_ref r X w wr (fun _ => False) T hRA (Fr.of_below (by rw [hB]; exact hbw)) hT (fun _ _ h => h)
      have HD : Hid (Calls Try.prog 13 #[.pointer (some ⟨r, 0, none⟩), .int .i64 q.1] wr fun e w' => (∃ b, e = .returned (.bool b)) ∧ (w'.cell? ⟨B, 0, none⟩ = some (.int .i64 q.1) ∧ w'.cell? ⟨B, 1, none⟩ = some (.int .i64 q.2)) ∧ RE r (dropM X q.1) T w w') := by
        refine (rdrop_any hRA2 (fun k hk => Nat.lt_of_lt_of_le (hT k hk) hbw.size) hl hd q.1).mono ?_
        rintro e w' ⟨rfl, hre⟩
        have hbB := hre.1.block B (lt_of_block hqb) (fun e => by have := hT B e; omega)
        have hb' := hbB.trans hqb
        exact ⟨⟨_, rfl⟩, ⟨by rw [cell_of_row w' B 0 _ _ _ hb']; rfl, by rw [cell_of_row w' B 1 _ _ _ hb']; rfl⟩, re_trans hB hbw hre⟩
      obtain ⟨qi, qk⟩ := q
      simp only at q0 q1 HD
      clear hRA hT hB hd hp hRA2 hqb hbw dj HBe hq HR
      go_wp2_with (go_at_call 13; refine HD.out.mono ?_; rintro e w5 ⟨⟨b, rfl⟩, ⟨t0, t1⟩, hre⟩; have HRE := hide hre; clear hre)
      go_quiet (fail)
      go_wp2
      go_returns
      refine ⟨rfl, ?_⟩
      obtain ⟨hF, T', g1, g2, g3⟩ := HRE.out
      exact ⟨hF.drewN _, T', keeps_ref r _ w5 _ (fun _ => False) T' g1 ((Fr.refl _ _).drewN _) g3 (fun _ _ h => h), g2, fun k hk => by rw [drewN_heap]; exact g3 k hk⟩
end
end Go.Proofs.Ytbgolkkfpajkdaa
