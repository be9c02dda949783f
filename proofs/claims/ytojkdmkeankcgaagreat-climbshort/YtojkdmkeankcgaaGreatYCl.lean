/-
  Several texts in one.
-/
import Derived.Test.YtojkdmkeankcgaaGreatCheckP
import Derived.Test.YtojkdmkeankcgaaGreatSearch
import Derived.Test.YtojkdmkeankcgaaGreatYLe
import Derived.Test.YtojkdmkeankcgaaGreatOwn
import Derived.Test.YtojkdmkeankcgaaGreatGather
import Derived.Test.YtojkdmkeankcgaaGreatBegin
import Derived.Deep.LoopGhost
/-  What the calls that read a graph do: Places, leaving, Weight, Len. -/
namespace Go.Proofs.YtojkdmkeankcgaaGreat
open Go.RowKit Go.Sort

/-- The weight that is told of the edge from p to q. -/
def wt (n : Nat) (W : Nat → Nat → Option Int) (p q : Int) : Int := if 0 ≤ p ∧ p < n ∧ 0 ≤ q ∧ q < n then (W p.toNat q.toNat).getD (-1) else -1
section
variable {w : World} {g n : Nat} {W : Nat → Nat → Option Int}
theorem GAt.out (h : GAt w g n W) : ∃ O, w.cell? ⟨g, 0, none⟩ = some (.slice (some ⟨O, 0, none⟩) n n) ∧ ∀ p, p < n → ∃ v, w.cell? ⟨O, p, none⟩ = some v ∧ w.ownsRow 0 75 2 v (rowM n W p).length (flatE (rowM n W p)) := by
  obtain ⟨O, vs, h1, h2⟩ := h
  refine ⟨O, by rw [cell_of_row w g 0 _ _ _ h1]; rfl, fun p hp => ⟨vs.getD p undef, ?_, h2.row p hp⟩⟩
  rw [cell_of_row w O p _ _ _ h2.blk]
  simp [List.getD_eq_getElem?_getD, h2.len, hp]
theorem places_nil (w : World) : Calls Tryz.prog 51 #[.pointer none] w fun e w' => e = .returned (.int .i64 0) ∧ w' = w := by
  go_enter Tryz.func51, Tryz.ntmps51
  go_wp2
  go_ret
  exact ⟨rfl, rfl⟩
theorem places_any (h : GAt w g n W) : Calls Tryz.prog 51 #[.pointer (some ⟨g, 0, none⟩)] w fun e w' => e = .returned (.int .i64 n) ∧ w' = w := by
  obtain ⟨O, h1, _⟩ := h.out
  clear h
  go_enter Tryz.func51, Tryz.ntmps51
  go_wp2
  go_ret
  exact ⟨rfl, rfl⟩
theorem leave_two (W0 : World) (x : Int) (k : Int) (r : Bool) (hr : inR 0 k x = r) : Calls Tryz.prog 97 #[.int .i64 x, .pointer (some ⟨W0.heap.size, 0, none⟩), .pointer (some ⟨W0.heap.size + 1, 0, none⟩)] ((W0.alloc (.cells #[.int .i64 0] 3)).alloc (.cells #[.int .i64 k] 3)) fun e w' => e = .returned (.bool r) ∧ w' = (W0.alloc (.cells #[.int .i64 0] 3)).alloc (.cells #[.int .i64 k] 3) := by
  rw [← hr]
  exact inr_any 0 k x _ _ _ (by simp) (by simp)
/-- What leaving answers for p. -/
def rowZ (n : Nat) (W : Nat → Nat → Option Int) (p : Int) : List (Int × Int) := if 0 ≤ p ∧ p < n then rowM n W p.toNat else []
theorem leaving_any (h : GAt w g n W) (hn : 1 ≤ n ∧ n ≤ 32) (p : Int) : Calls Tryz.prog 80 #[.pointer (some ⟨g, 0, none⟩), .int .i64 p] w fun e w' => ∃ v, e = .returned v ∧ w.ownsRow 0 75 2 v (rowZ n W p).length (flatE (rowZ n W p)) ∧ Below w.heap.size w w' := by
  have HP := hide (places_any h)
  have hw1 : IntKind.i64.wrap ((n : Int) - 1) = (n : Int) - 1 := by rw [IntKind.wrap_i64]; omega
  have HB : Hid (Below w.heap.size w ((w.alloc (.cells #[.int .i64 0] 3)).alloc (.cells #[.int .i64 ((n : Int) - 1)] 3))) := below_two (Below.refl _ _) (Nat.le_refl _) _ _
  cases hp : inR 0 ((n : Int) - 1) p
  · have e : rowZ n W p = [] := by have := of_decide_eq_false hp; unfold rowZ; rw [if_neg (by omega)]
    have HR : Hid (w.ownsRow 0 75 2 (.slice none 0 0) (rowZ n W p).length (flatE (rowZ n W p))) := by rw [e]; exact World.ownsRow_nil _ _ _ _
    have HL := hide (leave_two w p ((n : Int) - 1) false hp)
    clear h e hp
    go_enter Tryz.func80, Tryz.ntmps80
    go_wp2_with (first | (go_at_call 51; refine HP.out.mono ?_; rintro e w' ⟨rfl, rfl⟩) | (go_at_call 81; refine (within_any _ _ _).mono ?_; rintro e w' ⟨rfl, rfl⟩) | (go_at_call 97; refine HL.out.mono ?_; rintro e w' ⟨rfl, rfl⟩))
    go_ret
    exact ⟨_, rfl, HR.out, HB.out⟩
  · have hp2 := of_decide_eq_true hp
    obtain ⟨pn, rfl⟩ : ∃ pn : Nat, p = (pn : Int) := ⟨p.toNat, by omega⟩
    have e : rowZ n W pn = rowM n W pn := by unfold rowZ; rw [if_pos (by omega)]; rfl
    have HL := hide (leave_two w pn ((n : Int) - 1) true hp)
    have h2 := (h.later HB.out).out
    have hlt : pn < n := by omega
    obtain ⟨O, h3, h4⟩ := h2
    obtain ⟨O', h3', h4'⟩ := h.out
    have hOO : O = O' := by
      have hlt : g < w.heap.size := block_lt_of_cell h3'
      rw [HB.out.cell (p := ⟨g, 0, none⟩) hlt, h3'] at h3
      simpa using h3.symm
    subst hOO
    obtain ⟨v, c1, r1⟩ := h4 pn hlt
    obtain ⟨v', c1', r1'⟩ := h4' pn hlt
    have hvv : v = v' := by
      have hlt : O < w.heap.size := block_lt_of_cell c1'
      rw [HB.out.cell (p := ⟨O, pn, none⟩) hlt, c1'] at c1
      simpa using c1.symm
    subst hvv
    have HR : Hid (w.ownsRow 0 75 2 v (rowZ n W pn).length (flatE (rowZ n W pn))) := by rw [e]; exact r1'
    have i1 : (pn : Int) < (n : Int) := by omega
    clear h h4 h4' r1 r1' c1' h3' e hp
    go_enter Tryz.func80, Tryz.ntmps80
    go_wp2_with (first | (go_at_call 51; refine HP.out.mono ?_; rintro e w' ⟨rfl, rfl⟩) | (go_at_call 81; refine (within_any _ _ _).mono ?_; rintro e w' ⟨rfl, rfl⟩) | (go_at_call 97; refine HL.out.mono ?_; rintro e w' ⟨rfl, rfl⟩))
    go_ret
    exact ⟨_, rfl, HR.out, HB.out⟩
end
/-- The weight of the first edge that leads to q. -/
def findW : List (Int × Int) → Int → Int
  | [], _ => -1
  | x :: r, q => if x.1 = q then x.2 else findW r q
theorem findW_mem : ∀ (R : List (Int × Int)) (q v : Int), R.Pairwise (fun x y => x.1 < y.1) → (q, v) ∈ R → findW R q = v
  | [], _, _, _, h => by simp at h
  | x :: r, q, v, hp, h => by
    rw [List.pairwise_cons] at hp
    rcases List.mem_cons.1 h with e | e
    · subst e; simp [findW]
    · have := hp.1 _ e
      simp only at this
      rw [findW, if_neg (by omega)]
      exact findW_mem r q v hp.2 e
theorem findW_none : ∀ (R : List (Int × Int)) (q : Int), (∀ x ∈ R, x.1 ≠ q) → findW R q = -1
  | [], _, _ => rfl
  | x :: r, q, h => by
    rw [findW, if_neg (h x (by simp))]
    exact findW_none r q (fun y hy => h y (by simp [hy]))
theorem findW_row (n : Nat) (W : Nat → Nat → Option Int) (p q : Int) : findW (rowZ n W p) q = wt n W p q := by
  unfold rowZ wt
  by_cases hp : 0 ≤ p ∧ p < n
  · rw [if_pos hp]
    by_cases hq : 0 ≤ q ∧ q < n
    · rw [if_pos ⟨hp.1, hp.2, hq.1, hq.2⟩]
      cases hw : W p.toNat q.toNat with
      | some v => exact findW_mem _ _ _ (rowM_rising _ _ _) (mem_rowM.2 ⟨q.toNat, v, by omega, hw, by rw [show ((q.toNat : Nat) : Int) = q by omega]; rfl⟩)
      | none =>
        refine findW_none _ _ (fun x hx e => ?_)
        obtain ⟨k, v, hk, h1, rfl⟩ := mem_rowM.1 hx
        simp only at e
        rw [← e] at hw
        simp only [Int.toNat_natCast] at hw
        rw [hw] at h1
        cases h1
    · rw [if_neg (by omega)]
      refine findW_none _ _ (fun x hx e => ?_)
      obtain ⟨k, v, hk, h1, rfl⟩ := mem_rowM.1 hx
      simp only at e
      omega
  · rw [if_neg hp, if_neg (by omega)]
    rfl
theorem findW_drop (R : List (Int × Int)) (k : Nat) (h : k < R.length) (q : Int) : findW (R.drop k) q = if (R[k]!).1 = q then (R[k]!).2 else findW (R.drop (k + 1)) q := by
  rw [List.drop_eq_getElem_cons h, getElem!_pos R k h]
  rfl
theorem rowM_len (n : Nat) (W : Nat → Nat → Option Int) (p : Nat) : (rowM n W p).length ≤ n := by
  unfold rowM
  have := List.length_filterMap_le (fun q => (W p q).map fun v => ((q : Int), v)) (List.range n)
  simpa using this
theorem rowZ_len (n : Nat) (W : Nat → Nat → Option Int) (p : Int) : (rowZ n W p).length ≤ n := by
  unfold rowZ
  split
  · exact rowM_len _ _ _
  · simp
theorem own_cells {w : World} {g n cap : Nat} {R : List (Int × Int)} (h : w.ownsRow 0 75 2 (.slice (some ⟨g, 0, none⟩) n cap) n (flatE R)) (hn : R.length = n) (k : Nat) (hk : k < n) : w.cell? ⟨g, k * 2, none⟩ = some (.int .i64 (R[k]!).1) ∧ w.cell? ⟨g, k * 2 + 1, none⟩ = some (.int .i64 (R[k]!).2) := by
  have := flatE_get R k (by omega)
  exact ⟨by rw [h.cellAt _ (by omega)]; exact this.1, by rw [h.cellAt _ (by omega)]; exact this.2⟩
section
variable {w : World} {g n : Nat} {W : Nat → Nat → Option Int}
set_option maxHeartbeats 1600000 in
theorem weight_any (h : GAt w g n W) (hn : 1 ≤ n ∧ n ≤ 32) (p q : Int) : Calls Tryz.prog 55 #[.pointer (some ⟨g, 0, none⟩), .int .i64 p, .int .i64 q] w fun e w' => e = .returned (.int .i64 (wt n W p q)) ∧ Below w.heap.size w w' := by
  have HL := hide (leaving_any h hn p)
  rw [← findW_row]
  have hlen := rowZ_len n W p
  obtain ⟨B, hB⟩ : ∃ B, w.heap.size = B := ⟨_, rfl⟩
  have HB := hide hB
  rw [hB] at HL ⊢
  clear h hB
  generalize rowZ n W p = R at HL hlen ⊢
  go_enter Tryz.func55, Tryz.ntmps55
  go_wp2_with (go_at_call 80; refine HL.out.mono ?_; rintro e w1 ⟨v, rfl, h1, h2⟩; have H1 := hide (And.intro h1 h2); clear h2; obtain ⟨va, vc, rfl⟩ : ∃ a c, v = .slice a R.length c := (by rcases h1.2 with ⟨e, e2⟩ | ⟨g, cap, cur, e, _⟩; exact ⟨none, 0, by rw [e, e2]⟩; exact ⟨_, cap, e⟩); clear h1)
  go_loopw [13] (fun vi wr => ∃ k : Nat, vi = .int .i64 k ∧ k ≤ R.length ∧ Hid (Below B w wr ∧ findW R q = findW (R.drop k) q)) (fun vi _ => R.length - (intOf vi).toNat)
  case atStart => exact ⟨0, rfl, Nat.zero_le _, H1.out.2, by rw [List.drop_zero]⟩
  case round =>
    obtain ⟨k, rfl, hk, HR⟩ := hrel
    have hBr : B ≤ wr.heap.size := by rw [← HB.out]; exact HR.out.1.size
    by_cases hlt : k < R.length
    · rcases H1.out.1.2 with ⟨_, e2⟩ | ⟨gb, cap, cur, e, _⟩
      · omega
      · cases e
        have hgb := (H1.out.1.lt gb rfl).2
        rw [HB.out] at hgb
        obtain ⟨c0, c1⟩ := own_cells H1.out.1 rfl k hlt
        have d0 := (HR.out.1.cell (p := ⟨gb, k * 2, none⟩) hgb).trans c0
        have d1 := (HR.out.1.cell (p := ⟨gb, k * 2 + 1, none⟩) hgb).trans c1
        have HF := hide (HR.out.2.trans (findW_drop R k hlt q))
        obtain ⟨x, hx⟩ : ∃ x, R[k]! = x := ⟨_, rfl⟩
        rw [hx] at d0 d1 HF
        obtain ⟨x1, x2⟩ := x
        simp only at d0 d1
        have HE : Hid (∀ o, Below B w (wr.alloc o)) := fun o => HR.out.1.alloc hBr o
        have i1 : (k : Int) < (R.length : Int) := by omega
        clear c0 c1 hx
        by_cases hq : x1 = q
        · have e : Hid (findW R q = x2) := by show _ = _; rw [HF.out, if_pos hq]
          have hq2 : (x1 == q) = true := by simp [hq]
          replace hq := hide hq
          go_wp2
          go_ret
          exact ⟨by rw [e.out]; rfl, HE.out _⟩
        · have e : Hid (findW R q = findW (R.drop (k + 1)) q) := by show _ = _; rw [HF.out, if_neg hq]
          have hq2 : (x1 == q) = false := by simp [hq]
          replace hq := hide hq
          go_wp2
          go_roundw
          case rel => exact ⟨k + 1, by go_num, by omega, HE.out _, e.out⟩
          case measure => simp [intOf]; omega
    · have : k = R.length := by omega
      subst this
      have e : Hid (findW R q = -1) := by show _ = _; rw [HR.out.2, List.drop_length]; rfl
      go_wp2
      go_ret
      exact ⟨by rw [e.out]; rfl, HR.out.1⟩
/-- So many edges leave the first k places. -/
def sumLen (n : Nat) (W : Nat → Nat → Option Int) : Nat → Nat
  | 0 => 0
  | k + 1 => sumLen n W k + (rowM n W k).length
theorem sumLen_le (n : Nat) (W : Nat → Nat → Option Int) : ∀ k, sumLen n W k ≤ k * n
  | 0 => by simp [sumLen]
  | k + 1 => by
    have := sumLen_le n W k
    have := rowM_len n W k
    rw [sumLen, Nat.succ_mul]
    omega
theorem len_nil (w : World) : Calls Tryz.prog 54 #[.pointer none] w fun e w' => e = .returned (.int .i64 0) ∧ w' = w := by
  have HP := hide (places_nil w)
  go_enter Tryz.func54, Tryz.ntmps54
  go_wp2_with (go_at_call 51; refine HP.out.mono ?_; rintro e w' ⟨rfl, rfl⟩)
  go_loop [3, 7] (fun s i => i = .int .i64 0 ∧ s = .int .i64 0) (fun _ _ => 0)
  case atStart => exact ⟨rfl, rfl⟩
  case round =>
    obtain ⟨rfl, rfl⟩ := hrel
    go_wp2
    go_ret
    exact ⟨rfl, rfl⟩
set_option maxHeartbeats 1600000 in
theorem len_any (h : GAt w g n W) (hn : 1 ≤ n ∧ n ≤ 32) : Calls Tryz.prog 54 #[.pointer (some ⟨g, 0, none⟩)] w fun e w' => e = .returned (.int .i64 (sumLen n W n)) ∧ w' = w := by
  have HP := hide (places_any h)
  obtain ⟨O, h1, h2⟩ := h.out
  have H2 := hide h2
  clear h h2
  go_enter Tryz.func54, Tryz.ntmps54
  go_wp2_with (go_at_call 51; refine HP.out.mono ?_; rintro e w' ⟨rfl, rfl⟩)
  go_loop [3, 7] (fun s i => ∃ k : Nat, i = .int .i64 k ∧ k ≤ n ∧ s = .int .i64 (sumLen n W k)) (fun _ i => n - (intOf i).toNat)
  case atStart => exact ⟨0, rfl, Nat.zero_le _, rfl⟩
  case round =>
    obtain ⟨k, rfl, hk, rfl⟩ := hrel
    by_cases hlt : k < n
    · obtain ⟨v, c1, hv⟩ := H2.out k hlt
      obtain ⟨va, vc, rfl⟩ : ∃ a c, v = .slice a (rowM n W k).length c := by
        rcases hv.2 with ⟨e, e2⟩ | ⟨g, cap, cur, e, _⟩
        · exact ⟨none, 0, by rw [e, e2]⟩
        · exact ⟨_, cap, e⟩
      have b1 := sumLen_le n W k
      have b2 := rowM_len n W k
      have b3 : k * n ≤ 32 * 32 := Nat.mul_le_mul (by omega) hn.2
      have HS : Hid (sumLen n W (k + 1) = sumLen n W k + (rowM n W k).length) := rfl
      generalize sumLen n W k = S at b1 HS ⊢
      generalize (rowM n W k).length = R at b2 c1 HS ⊢
      clear hv
      have i1 : (k : Int) < (n : Int) := by omega
      go_wp2
      go_round
      case rel => exact ⟨k + 1, by go_num, by omega, by rw [HS.out]; go_num⟩
      case measure => simp [intOf]; omega
    · have : k = n := by omega
      subst this
      go_wp2
      go_ret
      exact ⟨rfl, rfl⟩
end
end Go.Proofs.YtojkdmkeankcgaaGreat
/-  Plain steps of short's close, in memory. -/
namespace Go.Proofs.YtojkdmkeankcgaaGreat
open Go.RowKit Go.Sort

theorem plus_any (a b : Int) (ha : 0 ≤ a ∧ a ≤ 4000000000) (hb : 0 ≤ b ∧ b ≤ 4000000000) (w : World) : Calls Tryz.prog 92 #[.int .i64 a, .int .i64 b] w fun e w' => e = .returned (.int .i64 (a + b)) ∧ w' = w := by
  go_enter Tryz.func92, Tryz.ntmps92
  go_wp2
  go_ret
  exact ⟨rfl, rfl⟩
theorem map_set {α : Type} (f f' : Nat → α) (n p : Nat) (h : ∀ v, v ≠ p → f' v = f v) : ((List.range n).map f).set p (f' p) = (List.range n).map f' := by
  apply List.ext_getElem
  · simp
  · intro i h1 h2
    rw [List.getElem_set]
    split
    · rename_i e; subst e; simp
    · rename_i e; simp; exact (h i (fun e2 => e e2.symm)).symm
section
variable {B sb q gc gl ga n : Nat} {w w' : World} {D : Nat → Option Int} {A : Nat → Int} {X X' : List Qu.Pr} {S S' : Nat → Prop}
theorem SrAt.nes (h : SrAt B w sb q gc gl ga n D A X S) : sb ≠ gc ∧ sb ≠ gl ∧ sb ≠ ga ∧ gc ≠ gl ∧ gc ≠ ga := by
  refine ⟨fun e => ?_, fun e => ?_, fun e => ?_, fun e => ?_, fun e => ?_⟩
  · have := h.box; rw [e, h.clo] at this; simp at this
  · have := h.box; rw [e, h.lst] at this; simp at this
  · have := h.box; rw [e, h.ahd] at this; simp at this
  · have := h.clo; rw [e, h.lst] at this; simp at this
  · have := h.clo; rw [e, h.ahd] at this; simp at this
theorem QAt_set {b j : Nat} (h : Qu.QAt w q X S) (hb : ¬ S b) (u : Value) : Qu.QAt (w.setCell ⟨b, j, none⟩ u) q X S :=
  h.fr (T := fun k => k = b) ((Qu.Fr.refl _ _).setCell _ _ (.inl rfl)) (fun _ hk e => hb (e ▸ hk))
/-- A place is closed: its mark, and its least weight. -/
theorem SrAt.mark (h : SrAt B w sb q gc gl ga n D A X S) (p : Nat) (k : Int) : SrAt B ((w.setCell ⟨gc, p, none⟩ (.bool true)).setCell ⟨gl, p, none⟩ (.int .i64 k)) sb q gc gl ga n (upd D p (some k)) A X S := by
  obtain ⟨n1, n2, n3, n4, n5⟩ := h.nes
  have e1 := map_set (fun v => Value.bool (D v).isSome) (fun v => Value.bool (upd D p (some k) v).isSome) n p (fun v hv => by rw [upd_other _ _ hv])
  have e2 := map_set (fun v => Value.int .i64 ((D v).getD (-1))) (fun v => Value.int .i64 ((upd D p (some k) v).getD (-1))) n p (fun v hv => by rw [upd_other _ _ hv])
  simp only [upd_same, Option.isSome_some, Option.getD_some] at e1 e2
  refine ⟨?_, ?_, ?_, ?_, QAt_set (QAt_set h.que h.out.2.1 _) h.out.2.2.1 _, h.ne, h.out, h.ge⟩
  · rw [heap_setCell_other _ _ _ _ n2, heap_setCell_other _ _ _ _ n1]; exact h.box
  · rw [heap_setCell_other _ _ _ _ n4, heap_setCell_same w gc p _ _ _ h.clo, ← e1]; simp
  · have := heap_setCell_same (w.setCell ⟨gc, p, none⟩ (.bool true)) gl p _ _ (.int .i64 k) (by rw [heap_setCell_other _ _ _ _ n4.symm]; exact h.lst)
    rw [this, ← e2]; simp
  · rw [heap_setCell_other _ _ _ _ h.ne.symm, heap_setCell_other _ _ _ _ n5.symm]; exact h.ahd
theorem SrAt.lead (h : SrAt B w sb q gc gl ga n D A X S) (v p : Nat) : SrAt B (w.setCell ⟨ga, v, none⟩ (.int .i64 p)) sb q gc gl ga n D (upd A v (p : Int)) X S := by
  obtain ⟨n1, n2, n3, n4, n5⟩ := h.nes
  have e1 := map_set (fun u => Value.int .i64 (A u)) (fun u => Value.int .i64 (upd A v (p : Int) u)) n v (fun u hu => by rw [upd_other _ _ hu])
  simp only [upd_same] at e1
  refine ⟨?_, ?_, ?_, ?_, QAt_set h.que h.out.2.2.2 _, h.ne, h.out, h.ge⟩
  · rw [heap_setCell_other _ _ _ _ n3]; exact h.box
  · rw [heap_setCell_other _ _ _ _ n5]; exact h.clo
  · rw [heap_setCell_other _ _ _ _ h.ne]; exact h.lst
  · rw [heap_setCell_same w ga v _ _ _ h.ahd, ← e1]; simp
theorem SrAt.cclo (h : SrAt B w sb q gc gl ga n D A X S) (v : Nat) (hv : v < n) : w.cell? ⟨gc, v, none⟩ = some (.bool (D v).isSome) ∧ w.frozen? ⟨gc, v, none⟩ = false := ⟨by rw [cell_of_row _ gc v _ _ _ h.clo]; simp [hv], frozen_of_row w gc v _ _ h.clo⟩
theorem SrAt.clst (h : SrAt B w sb q gc gl ga n D A X S) (v : Nat) (hv : v < n) : w.cell? ⟨gl, v, none⟩ = some (.int .i64 ((D v).getD (-1))) ∧ w.frozen? ⟨gl, v, none⟩ = false := ⟨by rw [cell_of_row _ gl v _ _ _ h.lst]; simp [hv], frozen_of_row w gl v _ _ h.lst⟩
theorem SrAt.cahd (h : SrAt B w sb q gc gl ga n D A X S) (v : Nat) (hv : v < n) : w.cell? ⟨ga, v, none⟩ = some (.int .i64 (A v)) ∧ w.frozen? ⟨ga, v, none⟩ = false := ⟨by rw [cell_of_row _ ga v _ _ _ h.ahd]; simp [hv], frozen_of_row w ga v _ _ h.ahd⟩
theorem SrAt.drewN (h : SrAt B w sb q gc gl ga n D A X S) (k : Nat) : SrAt B (w.drewN k) sb q gc gl ga n D A X S := h.later (Qu.below_drewN (Below.refl _ _) k)
theorem sr_put2 (h : SrAt B w sb q gc gl ga n D A X S) (hB : B ≤ w.heap.size) (x k : Int) (hx : Qu.I64 x) (hk : Qu.I64 k) :
    Calls Tryz.prog 32 #[.pointer (some ⟨q, 0, none⟩), .int .i64 x, .int .i64 k] w fun e w' => e = .returned (.bool (Qu.putM X x k).2) ∧ ∃ S', SrAt B w' sb q gc gl ga n D A (Qu.putM X x k).1 S' ∧ Qu.Fr S w w' ∧ (∀ k, S' k → S k ∨ w.heap.size ≤ k) := by
  refine (Qu.put_any h.que x k hx hk).mono ?_
  rintro e w' ⟨rfl, h1, h2⟩
  have hs : ∀ k, Qu.grow S w w' k → S k ∨ w.heap.size ≤ k := fun k e => by rcases e with e | e; exact .inl e; exact .inr e.1
  exact ⟨rfl, _, h.queue h1 h2 hs hB, h2, hs⟩
end
/-- A row of edges that no search writes. -/
def ERow (w : World) (va : Option Addr) (R : List (Int × Int)) (gc gl ga : Nat) (S : Nat → Prop) : Prop :=
  ∀ k, k < R.length → ∃ gb, va = some ⟨gb, 0, none⟩ ∧ ¬ S gb ∧ gb ≠ gc ∧ gb ≠ gl ∧ gb ≠ ga ∧ w.cell? ⟨gb, k * 2, none⟩ = some (.int .i64 (R[k]!).1) ∧ w.cell? ⟨gb, k * 2 + 1, none⟩ = some (.int .i64 (R[k]!).2)
section
variable {w w' : World} {va : Option Addr} {R : List (Int × Int)} {gc gl ga : Nat} {S S' : Nat → Prop}
theorem ERow.fr (h : ERow w va R gc gl ga S) (f : Qu.Fr S w w') (hS : ∀ k, S' k → S k ∨ w.heap.size ≤ k) : ERow w' va R gc gl ga S' := fun k hk => by
  obtain ⟨gb, e, h1, h2, h3, h4, h5, h6⟩ := h k hk
  have hlt : gb < w.heap.size := block_lt_of_cell h5
  have hb := f.block gb hlt h1
  refine ⟨gb, e, fun e2 => by rcases hS gb e2 with e3 | e3; exact h1 e3; omega, h2, h3, h4, ?_, ?_⟩
  · rw [← h5]; unfold World.cell?; simp only [hb]
  · rw [← h6]; unfold World.cell?; simp only [hb]
theorem ERow.later (h : ERow w va R gc gl ga S) (f : Below w.heap.size w w') : ERow w' va R gc gl ga S := h.fr (Qu.Fr.of_below f) (fun _ h => .inl h)
theorem ERow.set (h : ERow w va R gc gl ga S) {b j : Nat} (hb : b = gc ∨ b = gl ∨ b = ga) (u : Value) : ERow (w.setCell ⟨b, j, none⟩ u) va R gc gl ga S := fun k hk => by
  obtain ⟨gb, e, h1, h2, h3, h4, h5, h6⟩ := h k hk
  have hne : gb ≠ b := by rcases hb with e | e | e <;> (rw [e]; assumption)
  refine ⟨gb, e, h1, h2, h3, h4, ?_, ?_⟩
  · rw [World.cell?_setCell_other _ _ _ _ (fun e => hne (by cases e; rfl))]; exact h5
  · rw [World.cell?_setCell_other _ _ _ _ (fun e => hne (by cases e; rfl))]; exact h6
end
end Go.Proofs.YtojkdmkeankcgaaGreat
/-  What the call of Out does: the edges that leave a place, in memory of their own. -/
namespace Go.Proofs.YtojkdmkeankcgaaGreat
open Go.RowKit Go.Sort

theorem flatE_one (R : List (Int × Int)) : ∀ u ∈ flatE R, u.oneCell' = true := by
  intro u hu
  unfold flatE at hu
  rw [List.mem_flatMap] at hu
  obtain ⟨x, _, hx⟩ := hu
  simp [encE] at hx
  rcases hx with rfl | rfl <;> rfl
theorem own_madeE {w w1 : World} (hb : Below w.heap.size w w1) : (w1.alloc (.cells #[] 75)).ownsRow w.heap.size 75 2 (.slice (some ⟨w1.heap.size, 0, none⟩) 0 0) 0 (flatE []) := World.ownsRow_made w1 #[] 0 hb.size (by decide) rfl
set_option maxHeartbeats 1600000 in
theorem clone_edges (v : Value) (R : List (Int × Int)) (w : World) (h : w.ownsRow 0 75 2 v R.length (flatE R)) (hm : R.length ≤ 32) :
    Calls Tryz.prog 82 #[v] w fun e w' => ∃ v', e = .returned v' ∧ w'.ownsRow w.heap.size 75 2 v' R.length (flatE R) ∧ Below w.heap.size w w' := by
  rcases h.2 with ⟨rfl, h0⟩ | ⟨g, cap, cur, rfl, hr⟩
  · have hR : R = [] := List.eq_nil_of_length_eq_zero h0
    subst hR
    have hq := fun w => Lib.run_eql_slice_nil (P := Tryz.prog) w 73 75 none 0 0 0 0 Tryz.underlying73
    clear h
    go_enter Tryz.func82, Tryz.ntmps82
    go_wp2
    go_ret
    exact ⟨_, rfl, World.ownsRow_nil _ _ _ _, Below.refl _ _⟩
  · obtain ⟨i0, hi0, hy0, hy1, hy2⟩ := info_parts info53
    have H := hide h
    have HI := hide (And.intro hi0 (And.intro hy0 (And.intro hy1 hy2)))
    have hq := fun w => Lib.run_eql_slice_nil (P := Tryz.prog) w 73 75 (some ⟨g, 0, none⟩) R.length cap 0 0 Tryz.underlying73
    have HNW : Hid (∀ j u, (flatE R)[j]? = some u → (w.alloc (.cells #[] 75)).cell? ((⟨g, 0, none⟩ : Addr).add j) = some u) := fun j u hu => by
      have hlt : g < w.heap.size := (h.lt g rfl).2
      rw [add0, World.cell?_alloc_lt _ _ _ (by show g < _; exact hlt)]
      have := World.ownsRow.cells (g := g) h rfl j u hu
      rw [add0] at this
      exact this
    clear h hi0 hy0 hy1 hy2 hr
    go_enter Tryz.func82, Tryz.ntmps82
    go_wp2_with (at_builtin; refine wpList_append_own _ rfl (.tmp 5) (.tmp 6) 73 rfl w.heap.size 75 i0 _ 2 16 Tryz.underlying73 HI.out.1 HI.out.2.1 HI.out.2.2.1 HI.out.2.2.2 rfl (by decide) _ 0 (flatE []) rfl (own_madeE (Below.refl _ _)) ⟨g, 0, none⟩ R.length cap (flatE R) rfl (flatE_len R) HNW.out (flatE_one R) (by unfold maxLen; omega) (by omega) (by simp) ?_)
    intro v1 w2 hown1 hg1 _
    have hb2 : Below w.heap.size w w2 := ((Below.refl w.heap.size w).alloc (Nat.le_refl _) _).grown hg1 (by simp) fun k hk => ((own_madeE (Below.refl _ _)).lt k hk).1
    have HR : Hid (w2.ownsRow w.heap.size 75 2 v1 R.length (flatE R) ∧ Below w.heap.size w w2) := ⟨by simpa [flatE] using hown1, hb2⟩
    obtain ⟨a1, c1, rfl⟩ : ∃ a c, v1 = .slice a R.length c := by
      rcases HR.out.1.2 with ⟨e, e2⟩ | ⟨g, cap, cur, e, _⟩
      · exact ⟨none, 0, by rw [e, e2]⟩
      · exact ⟨_, cap, e⟩
    clear hown1 hg1 hb2
    go_wp2
    go_ret
    exact ⟨_, rfl, HR.out.1, HR.out.2⟩
theorem out_any {w : World} {g n : Nat} {W : Nat → Nat → Option Int} (h : GAt w g n W) (hn : 1 ≤ n ∧ n ≤ 32) (p : Int) :
    Calls Tryz.prog 58 #[.pointer (some ⟨g, 0, none⟩), .int .i64 p] w fun e w' => ∃ v, e = .returned v ∧ w'.ownsRow w.heap.size 75 2 v (rowZ n W p).length (flatE (rowZ n W p)) ∧ Below w.heap.size w w' := by
  have HL := hide (leaving_any h hn p)
  have hlen := rowZ_len n W p
  clear h
  generalize rowZ n W p = R at HL hlen ⊢
  go_enter Tryz.func58, Tryz.ntmps58
  go_wp2_with (first | (go_at_call 80; refine HL.out.mono ?_; rintro e w1 ⟨v, rfl, h1, h2⟩; have hown : w1.ownsRow 0 75 2 v R.length (flatE R) := own_of_block h1 (fun k hk => h2.block k (h1.lt k hk).2); have HC := hide (clone_edges v R w1 hown (by omega)); have H2 := hide h2; clear h1 h2 hown) | (go_at_call 82; refine HC.out.mono ?_; rintro e w2 ⟨v2, rfl, h3, h4⟩; have H3 := hide (And.intro h3 h4); clear h3 h4))
  go_ret
  refine ⟨_, rfl, ?_, H2.out.trans (H3.out.2.mono H2.out.size)⟩
  obtain ⟨e1, e2⟩ := H3.out.1
  refine ⟨e1, ?_⟩
  rcases e2 with e2 | ⟨g, cap, cur, e3, hb, r⟩
  · exact .inl e2
  · exact .inr ⟨g, cap, cur, e3, Nat.le_trans H2.out.size hb, r⟩
end Go.Proofs.YtojkdmkeankcgaaGreat
/-  What the call of short's close does. -/
namespace Go.Proofs.YtojkdmkeankcgaaGreat
open Go.RowKit Go.Sort

/-- While close runs: the search, the row of edges, how far it is. -/
structure ClIn (B : Nat) (w0 : World) (sb q gc gl ga n : Nat) (W : Nat → Nat → Option Int) (s : Nat) (D : Nat → Option Int) (rk : Nat → Nat) (p : Nat) (k : Int) (va : Option Addr) (c : Nat) (A : Nat → Int) (X : List Qu.Pr) (S : Nat → Prop) (wr : World) : Prop where
  below : Below B w0 wr
  hB : B ≤ wr.heap.size
  sr : SrAt B wr sb q gc gl ga n D A X S
  row : ERow wr va (rowM n W p) gc gl ga S
  mid : Mid n W s D X A rk p k c
set_option maxRecDepth 100000 in
set_option maxHeartbeats 6400000 in
theorem close_any {B sb q gc gl ga n s p rc : Nat} {w : World} {W : Nat → Nat → Option Int} {D : Nat → Option Int} {A : Nat → Int} {rk : Nat → Nat} {X : List Qu.Pr} {S : Nat → Prop} {k : Int} {va : Option Addr}
    (hn : 1 ≤ n ∧ n ≤ 32) (hW : WOk n W) (hp : p < n) (hB : B ≤ w.heap.size) (h : SrAt B w sb q gc gl ga n D A X S) (hr : ERow w va (rowM n W p) gc gl ga S) (hm : Mid n W s (upd D p (some k)) X A rk p k 0) :
    Calls Tryz.prog 75 #[.pointer (some ⟨sb, 0, none⟩), .int .i64 p, .int .i64 k, .slice va (rowM n W p).length rc] w fun e w' => e = .returned (.tuple #[]) ∧ ∃ A' X' S', SrAt B w' sb q gc gl ga n (upd D p (some k)) A' X' S' ∧ Mid n W s (upd D p (some k)) X' A' rk p k (rowM n W p).length ∧ Below B w w' := by
  have HN := hide hn
  have HW := hide hW
  have hrl := rowM_len n W p
  have hkb : 0 ≤ k ∧ k ≤ 64000000 := by
    have h1 := hm.core.clo p k hm.hp
    have h2 := cnt_le (upd D p (some k)) n
    omega
  have HPL := hide hp
  obtain ⟨c0, c1, c2, c3⟩ := h.c
  obtain ⟨y1, y2⟩ := h.cclo p hp
  obtain ⟨z1, z2⟩ := h.clst p hp
  have HS : Hid (ClIn B w sb q gc gl ga n W s (upd D p (some k)) rk p k va 0 A X S ((w.setCell ⟨gc, p, none⟩ (.bool true)).setCell ⟨gl, p, none⟩ (.int .i64 k))) :=
    ⟨((Below.refl _ _).setCell h.ge.2.1 _).setCell h.ge.2.2.1 _, by simpa [World.setCell] using hB, h.mark p k, (hr.set (.inl rfl) _).set (.inr (.inl rfl)) _, hm⟩
  obtain ⟨m1, m2, m3, m4, m5⟩ := h.nes
  have i1 : (p : Int) < (n : Int) := by omega
  generalize upd D p (some k) = D' at HS ⊢
  clear h hr hm
  go_enter Tryz.func75, Tryz.ntmps75
  go_wp2
  generalize (w.setCell ⟨gc, p, none⟩ (.bool true)).setCell ⟨gl, p, none⟩ (.int .i64 k) = W0 at HS ⊢
  clear c0 c1 c2 c3 y1 y2 z1 z2
  go_loopw [25] (fun vi wr => ∃ c : Nat, vi = .int .i64 c ∧ c ≤ (rowM n W p).length ∧ Hid (∃ A' X' S', ClIn B w sb q gc gl ga n W s D' rk p k va c A' X' S' wr)) (fun vi _ => (rowM n W p).length - (intOf vi).toNat)
  case atStart => exact ⟨0, rfl, Nat.zero_le _, _, _, _, HS.out⟩
  case round =>
    clear HS
    obtain ⟨c, rfl, hc, HR⟩ := hrel
    obtain ⟨A1, X1, S1, hC⟩ := HR.out
    by_cases hlt : c < (rowM n W p).length
    · obtain ⟨gb, hva, g1, g2, g3, g4, d0, d1⟩ := hC.row c hlt
      subst hva
      have i2 : (c : Int) < ((rowM n W p).length : Int) := by omega
      have hmem : (rowM n W p)[c]! ∈ rowM n W p := by rw [getElem!_pos _ c hlt]; exact List.getElem_mem _
      obtain ⟨v, x, hv, hx, hrow⟩ := mem_rowM.1 hmem
      rw [hrow] at d0 d1
      simp only at d0 d1
      have hxb := HW.out p v x HPL.out hv hx
      have i3 : (v : Int) < (n : Int) := by omega
      have HC := hide hC
      have HSA := hide (hC.sr.later ((Below.refl _ _).alloc (Nat.le_refl _) (.cells #[.int .i64 v, .int .i64 x] 75)))
      have HRA := hide (hC.row.later ((Below.refl _ _).alloc (Nat.le_refl _) (.cells #[.int .i64 v, .int .i64 x] 75)))
      have HBA : Hid (Below B w (wr.alloc (.cells #[.int .i64 v, .int .i64 x] 75)) ∧ B ≤ (wr.alloc (.cells #[.int .i64 v, .int .i64 x] 75)).heap.size) := ⟨hC.below.alloc hC.hB _, by have := hC.hB; simp; omega⟩
      have hnew := heap_alloc_new wr (.cells #[.int .i64 v, .int .i64 x] 75)
      have eb0 := cell_of_row _ wr.heap.size 0 _ _ _ hnew
      have eb1 := cell_of_row _ wr.heap.size 1 _ _ _ hnew
      simp only [List.getElem?_toArray, List.getElem?_cons_succ, List.getElem?_cons_zero] at eb0 eb1
      have hsz : wr.heap.size < (wr.alloc (.cells #[.int .i64 v, .int .i64 x] 75)).heap.size := by simp
      obtain ⟨E, hE⟩ : ∃ E, wr.heap.size = E := ⟨_, rfl⟩
      have HEE := hide hE
      rw [hE] at eb0 eb1 hsz
      clear hC hmem HR hnew hE
      cases hD : D' v with
      | some d =>
        have HM : Hid (Mid n W s D' X1 A1 rk p k (c + 1)) := mid_skip HC.out.mid HW.out HPL.out hlt (d := d) (by rw [hrow]; exact hD)
        go_wp2
        try rw [HEE.out]
        generalize wr.alloc (.cells #[.int .i64 v, .int .i64 x] 75) = W1 at HSA HRA HBA eb0 eb1 hsz ⊢
        obtain ⟨c0, c1, c2, c3⟩ := HSA.out.c
        have y1 := (HSA.out.cclo v hv).1
        rw [hD] at y1
        simp only [Option.isSome_some] at y1
        clear d0 d1 hD
        go_quiet (fail)
        go_wp2
        go_roundw
        case rel => exact ⟨c + 1, by go_num, by omega, A1, X1, S1, Qu.below_drewN HBA.out.1 nq, HBA.out.2, HSA.out.drewN nq, HRA.out.later (Qu.below_drewN (Below.refl _ _) nq), HM.out⟩
        case measure => simp [intOf]; omega
      | none =>
        have HM := hide (mid_put HC.out.mid hn.2 HW.out HPL.out hlt hrow hD)
        go_wp2
        try rw [HEE.out]
        generalize wr.alloc (.cells #[.int .i64 v, .int .i64 x] 75) = W1 at HSA HRA HBA eb0 eb1 hsz ⊢
        obtain ⟨c0, c1, c2, c3⟩ := HSA.out.c
        have y1 := (HSA.out.cclo v hv).1
        rw [hD] at y1
        simp only [Option.isSome_none] at y1
        have HPU := hide (sr_put2 (HSA.out.drewN 1) HBA.out.2 v (k + x) ⟨by omega, by omega⟩ ⟨by omega, by omega⟩)
        have HES : Hid (¬ S1 E) := fun e => by have := HC.out.sr.que.lt E e; have := HEE.out; omega
        generalize Qu.putM X1 v (k + x) = pm at HM HPU
        obtain ⟨X2, b⟩ := pm
        simp only at HM HPU
        have HD := hide hD
        clear d0 d1 hD
        have i4 : 0 ≤ k ∧ k ≤ 4000000000 := by omega
        have i5 : 0 ≤ x ∧ x ≤ 4000000000 := by omega
        first | (go_region_held (fun w' => w'.cell? ⟨sb, 0, none⟩ = some (.pointer (some ⟨q, 0, none⟩)) ∧ w'.cell? ⟨sb, 1, none⟩ = some (.slice (some ⟨gc, 0, none⟩) n n) ∧ w'.cell? ⟨E, 0, none⟩ = some (.int .i64 v) ∧ w'.cell? ⟨E, 1, none⟩ = some (.int .i64 x) ∧ w'.cell? ⟨gc, v, none⟩ = some (.bool false)) (go_keep) (first | (go_at_call 92; refine (plus_any k x i4 i5 _).mono ?_; rintro e w2 ⟨rfl, hw⟩; rw [hw]; clear hw) | (go_at_call 32; refine HPU.out.mono ?_; rintro e w3 ⟨rfl, S2, h1, h2, h3⟩; obtain ⟨t0, t1, t2, t3⟩ := h1.c; have t4 := (h1.cclo v hv).1; rw [HD.out] at t4; simp only [Option.isSome_none] at t4; have t5 : w3.cell? ⟨E, 0, none⟩ = some (.int .i64 v) := (by rw [← eb0]; unfold World.cell?; simp only [h2.block E hsz HES.out]; rfl); have t6 : w3.cell? ⟨E, 1, none⟩ = some (.int .i64 x) := (by rw [← eb1]; unfold World.cell?; simp only [h2.block E hsz HES.out]; rfl); have H3 := hide (And.intro h1 (And.intro h2 h3)); clear h1 h2 h3)))
        have HB3 : Hid (Below B w w3 ∧ B ≤ w3.heap.size) := by
          have f1 : Below B (W1.drewN 1) w3 := H3.out.2.1.below HBA.out.2 HSA.out.ge.2.2.2.2
          exact ⟨(Qu.below_drewN HBA.out.1 1).trans f1, Nat.le_trans HBA.out.2 f1.size⟩
        have HR3 : Hid (ERow w3 (some ⟨gb, 0, none⟩) (rowM n W p) gc gl ga S2) := (HRA.out.later (Qu.below_drewN (Below.refl _ _) 1)).fr H3.out.2.1 H3.out.2.2
        cases b
        · have HM2 : Hid (Mid n W s D' X2 A1 rk p k (c + 1)) := by show Mid _ _ _ _ _ _ _ _ _ _; have := HM.out; simpa using this
          go_wp2
          go_roundw
          case rel => exact ⟨c + 1, by go_num, by omega, A1, X2, S2, HB3.out.1, HB3.out.2, H3.out.1, HR3.out, HM2.out⟩
          case measure => simp [intOf]; omega
        · have HM2 : Hid (Mid n W s D' X2 (upd A1 v (p : Int)) rk p k (c + 1)) := by show Mid _ _ _ _ _ _ _ _ _ _; have := HM.out; simpa using this
          obtain ⟨a1, a2⟩ := H3.out.1.cahd v hv
          have HE3 : Hid (ClIn B w sb q gc gl ga n W s D' rk p k (some ⟨gb, 0, none⟩) (c + 1) (upd A1 v (p : Int)) X2 S2 (w3.setCell ⟨ga, v, none⟩ (.int .i64 p))) :=
            ⟨HB3.out.1.setCell H3.out.1.ge.2.2.2.1 _, by simpa [World.setCell] using HB3.out.2, H3.out.1.lead v p, HR3.out.set (.inr (.inr rfl)) _, HM2.out⟩
          go_wp2
          go_region
          all_goals
            go_wp2
            go_roundw
            case rel => exact ⟨c + 1, by go_num, by omega, _, X2, S2, Qu.below_drewN HE3.out.below 1, HE3.out.hB, HE3.out.sr.drewN 1, HE3.out.row.later (Qu.below_drewN (Below.refl _ _) 1), HE3.out.mid⟩
            case measure => simp [intOf]; omega
    · have hce : c = (rowM n W p).length := by omega
      subst hce
      go_wp2
      go_end0
      exact ⟨rfl, A1, X1, S1, hC.sr, hC.mid, hC.below⟩
end Go.Proofs.YtojkdmkeankcgaaGreat
/-  What the call of short's From does. -/
namespace Go.Proofs.YtojkdmkeankcgaaGreat
open Go.RowKit Go.Sort

theorem isplace_nil (p : Int) (w : World) : Calls Tryz.prog 73 #[.pointer none, .int .i64 p] w fun e w' => e = .returned (.bool false) ∧ w' = w := by
  have HP := hide (places_nil w)
  by_cases h : 0 ≤ p
  · have h2 : decide (p < 0) = false := decide_eq_false (by omega)
    go_enter Tryz.func73, Tryz.ntmps73
    go_wp2_with (go_at_call 51; refine HP.out.mono ?_; rintro e w' ⟨rfl, hw⟩; rw [hw]; clear hw)
    go_ret
    exact ⟨rfl, rfl⟩
  · go_enter Tryz.func73, Tryz.ntmps73
    go_wp2_with (go_at_call 51; refine HP.out.mono ?_; rintro e w' ⟨rfl, hw⟩; rw [hw]; clear hw)
    go_ret
    exact ⟨rfl, rfl⟩
def inN (n : Nat) (p : Int) : Bool := decide (0 ≤ p ∧ p < n)
theorem isplace_any {w : World} {g n : Nat} {W : Nat → Nat → Option Int} (h : GAt w g n W) (p : Int) : Calls Tryz.prog 73 #[.pointer (some ⟨g, 0, none⟩), .int .i64 p] w fun e w' => e = .returned (.bool (inN n p)) ∧ w' = w := by
  have HP := hide (places_any h)
  clear h
  by_cases h1 : 0 ≤ p
  · by_cases h2 : p < n
    · rw [show inN n p = true from decide_eq_true ⟨h1, h2⟩]
      go_enter Tryz.func73, Tryz.ntmps73
      go_wp2_with (go_at_call 51; refine HP.out.mono ?_; rintro e w' ⟨rfl, hw⟩; rw [hw]; clear hw)
      go_ret
      exact ⟨rfl, rfl⟩
    · rw [show inN n p = false from decide_eq_false (fun e => h2 e.2)]
      have h3 : decide (p < (n : Int)) = false := decide_eq_false h2
      go_enter Tryz.func73, Tryz.ntmps73
      go_wp2_with (go_at_call 51; refine HP.out.mono ?_; rintro e w' ⟨rfl, hw⟩; rw [hw]; clear hw)
      go_ret
      exact ⟨rfl, rfl⟩
  · rw [show inN n p = false from decide_eq_false (fun e => h1 e.1)]
    go_enter Tryz.func73, Tryz.ntmps73
    go_wp2_with (go_at_call 51; refine HP.out.mono ?_; rintro e w' ⟨rfl, hw⟩; rw [hw]; clear hw)
    go_ret
    exact ⟨rfl, rfl⟩
theorem from_nil (p : Int) (w : World) : Calls Tryz.prog 52 #[.pointer none, .int .i64 p] w fun e w' => e = .returned (.tuple #[.slice none 0 0, .slice none 0 0]) ∧ w' = w := by
  have HP := hide (isplace_nil p w)
  go_enter Tryz.func52, Tryz.ntmps52
  go_wp2_with (go_at_call 73; refine HP.out.mono ?_; rintro e w' ⟨rfl, hw⟩; rw [hw]; clear hw)
  go_ret2
  exact ⟨rfl, rfl⟩
/-- What From knows between two rounds. -/
structure FrIn (w : World) (sb q gc gl ga n : Nat) (W : Nat → Nat → Option Int) (s : Nat) (D : Nat → Option Int) (A : Nat → Int) (X : List Qu.Pr) (S : Nat → Prop) (rk : Nat → Nat) (wr : World) : Prop where
  below : Below w.heap.size w wr
  sr : SrAt w.heap.size wr sb q gc gl ga n D A X S
  dj : Dj n W s D X A rk
theorem erow_of {w2 w3 : World} {B sb q gc gl ga n : Nat} {D : Nat → Option Int} {A : Nat → Int} {X : List Qu.Pr} {S : Nat → Prop} {va : Option Addr} {rc : Nat} {R : List (Int × Int)} (h : SrAt B w2 sb q gc gl ga n D A X S) (hr : w3.ownsRow w2.heap.size 75 2 (.slice va R.length rc) R.length (flatE R)) : ERow w3 va R gc gl ga S := fun k hk => by
  rcases hr.2 with ⟨_, e2⟩ | ⟨gb, cap, cur, e0, hb, _⟩
  · omega
  · cases e0
    obtain ⟨l1, l2, l3, l4⟩ := h.lts
    have f := flatE_get R k hk
    exact ⟨gb, rfl, fun e => by have := h.que.lt gb e; omega, by omega, by omega, by omega, by rw [hr.cellAt _ (by omega)]; exact f.1, by rw [hr.cellAt _ (by omega)]; exact f.2⟩
def lstV (n : Nat) (D : Nat → Option Int) : List Int := (List.range n).map fun v => (D v).getD (-1)
def ahdV (n : Nat) (A : Nat → Int) : List Int := (List.range n).map A
theorem irow_block {w : World} {g n B : Nat} {xs : List Int} (h : w.heap[g]? = some (.cells (intsV xs).toArray 3 (0, 0))) (hn : xs.length = n) (hB : B ≤ g) (hm : n ≤ 32) : IRow w B (.slice (some ⟨g, 0, none⟩) n n) xs := by
  refine ⟨by rw [intsV_len]; omega, .inr ⟨g, n, _, by rw [hn], hB, h, by omega, by unfold maxLen; omega, by simp [intsV_len, hn], ?_⟩⟩
  simp only
  rw [List.take_of_length_le (by rw [intsV_len]; omega)]
set_option maxRecDepth 100000 in
set_option maxHeartbeats 6400000 in
theorem from_any {w : World} {g n : Nat} {W : Nat → Nat → Option Int} (h : GAt w g n W) (hn : 1 ≤ n ∧ n ≤ 32) (hW : WOk n W) (p : Nat) (hp : p < n) :
    Calls Tryz.prog 52 #[.pointer (some ⟨g, 0, none⟩), .int .i64 p] w fun e w' => ∃ gl ga D A rk, e = .returned (.tuple #[.slice (some ⟨gl, 0, none⟩) n n, .slice (some ⟨ga, 0, none⟩) n n]) ∧ IsLeast n W p D ∧ Back n W p D A rk ∧ IRow w' w.heap.size (.slice (some ⟨gl, 0, none⟩) n n) (lstV n D) ∧ IRow w' w.heap.size (.slice (some ⟨ga, 0, none⟩) n n) (ahdV n A) ∧ Below w.heap.size w w' := by
  have HG := hide h
  have HN := hide hn
  have HW := hide hW
  have HIP := hide (isplace_any h p)
  rw [show inN n (p : Int) = true from decide_eq_true (by omega)] at HIP
  have HPL := hide (places_any h)
  have HBE := hide (begin_any n p hn hp w)
  have HP := hide hp
  clear h hW
  go_enter Tryz.func52, Tryz.ntmps52
  go_wp2_with (first | (go_at_call 73; refine HIP.out.mono ?_; rintro e w' ⟨rfl, hw⟩; rw [hw]; clear hw) | (go_at_call 51; refine HPL.out.mono ?_; rintro e w' ⟨rfl, hw⟩; rw [hw]; clear hw) | (go_at_call 74; refine HBE.out.mono ?_; rintro e w1 ⟨sb, q, gc, gl, ga, S, rfl, h1, h2⟩; have H1 := hide (And.intro h1 h2); clear h1 h2))
  have HS : Hid (FrIn w sb q gc gl ga n W p (fun _ => none) (fun _ => -1) [((p : Int), (0 : Int))] S (fun _ => 0) w1) := ⟨H1.out.2, H1.out.1, dj_zero W hp⟩
  clear H1
  go_loopg [] n (fun k wr => ∃ D A X S rk, k + cnt D n = n ∧ Hid (FrIn w sb q gc gl ga n W p D A X S rk wr))
  case atStart => exact ⟨_, _, _, _, _, by
    have : ∀ m, cnt (fun _ => none) m = 0 := fun m => by induction m with | zero => rfl | succ m ih => rw [cnt, ih]; rfl
    rw [this]; rfl, HS.out⟩
  case round =>
    clear HS
    obtain ⟨D, A, X, S, rk, hk, HR⟩ := hrel
    have c0 := HR.out.sr.c.1
    have hBw := HR.out.below.size
    by_cases hX : X = []
    · subst hX
      have HE := hide (sr_empty HR.out.sr)
      obtain ⟨_, _, c2, c3⟩ := HR.out.sr.c
      go_wp2_with (go_at_call 63; refine HE.out.mono ?_; rintro e w' ⟨rfl, hw⟩; rw [hw]; clear hw)
      go_quiet (fail)
      go_wp2
      go_ret2
      obtain ⟨h1, h2⟩ := dj_end HR.out.dj hn.2
      have hs := HR.out.sr.drewN nq
      exact ⟨gl, ga, D, A, rk, rfl, h1, h2, irow_block (by unfold intsV lstV; rw [List.map_map]; exact hs.lst) (by simp [lstV]) hs.ge.2.2.1 hn.2, irow_block (by unfold intsV ahdV; rw [List.map_map]; exact hs.ahd) (by simp [ahdV]) hs.ge.2.2.2.1 hn.2, Qu.below_drewN HR.out.below nq⟩
    · obtain ⟨y, hy⟩ := Qu.least_ex hX
      have HT := hide (sr_take HR.out.sr hBw y hy)
      obtain ⟨v, hv, hy1, hDv, hmid, hcnt⟩ := dj_take HR.out.dj hy
      obtain ⟨y1, y2⟩ := y
      simp only at hy1 hmid hcnt HT
      subst hy1
      have HM := hide hmid
      have HZ : Hid (rowZ n W v = rowM n W v) := by show _ = _; unfold rowZ; rw [if_pos (by omega)]; rfl
      clear hmid hy
      go_wp2_with (first
        | (go_at_call 63; refine HT.out.mono ?_; rintro e w2 ⟨rfl, ⟨S2, h1⟩, h2⟩; have H2 : Hid (SrAt w.heap.size w2 sb q gc gl ga n D A (Qu.dropM X v) S2 ∧ Below w.heap.size w w2) := ⟨h1, HR.out.below.trans h2⟩; clear h1 h2)
        | (go_at_call 58; refine (out_any (HG.out.later H2.out.2) HN.out v).mono ?_; rw [HZ.out]; rintro e w3 ⟨ve, rfl, h1, h2⟩; obtain ⟨va, rc, rfl⟩ : ∃ a c, ve = .slice a (rowM n W v).length c := (by rcases h1.2 with ⟨e, e2⟩ | ⟨g, cap, cur, e, _⟩; exact ⟨none, 0, by rw [e, e2]⟩; exact ⟨_, cap, e⟩); have H3 : Hid (SrAt w.heap.size w3 sb q gc gl ga n D A (Qu.dropM X v) S2 ∧ Below w.heap.size w w3 ∧ ERow w3 va (rowM n W v) gc gl ga S2) := ⟨H2.out.1.later h2, H2.out.2.trans (h2.mono H2.out.2.size), erow_of H2.out.1 h1⟩; clear h1 h2)
        | (go_at_call 75; refine (close_any HN.out HW.out hv H3.out.2.1.size H3.out.1 H3.out.2.2 HM.out).mono ?_; rintro e w4 ⟨rfl, A4, X4, S4, h1, h2, h3⟩; have H4 : Hid (FrIn w sb q gc gl ga n W p (upd D v (some y2)) A4 X4 S4 (upd rk v (cnt D n)) w4) := ⟨H3.out.2.1.trans h3, h1, mid_end h2⟩; clear h1 h2 h3))
      go_roundg (gk - 1)
      case measure => have := cnt_le (upd D v (some y2)) n; omega
      case rel => exact ⟨_, _, _, _, _, by have := cnt_le (upd D v (some y2)) n; omega, H4.out⟩
end Go.Proofs.YtojkdmkeankcgaaGreat
