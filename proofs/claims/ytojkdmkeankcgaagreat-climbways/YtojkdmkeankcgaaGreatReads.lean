/-
  What the calls that read a graph do: Places, leaving, Weight, Len.
-/
import Derived.Test.YtojkdmkeankcgaaGreatCheckP
namespace Go.Proofs.YtojkdmkeankcgaaGreat
open Go.RowKit Go.Sort

/-- The weight that is told of the edge from p to q. -/
def wt (n : Nat) (W : Nat → Nat → Option Int) (p q : Int) : Int := if 0 ≤ p ∧ p < n ∧ 0 ≤ q ∧ q < n then (W p.toNat q.toNat).getD (-1) else -1
section
variable {w : World} {g n : Nat} {W : Nat → Nat → Option Int}
theorem GAt.out (h : GAt w g n W) : ∃ O, w.cell? ⟨g, 0, none⟩ = some (.slice (some ⟨O, 0, none⟩) n n) ∧ ∀ p, p < n → ∃ v, w.cell? ⟨O, p, none⟩ = some v ∧ w.ownsRow 0 75 2 v (rowM n W p).length (flatE (rowM n W p)) := by
  obtain ⟨O, vs, h1, h2⟩ := h
  refine ⟨O, by rw [cell_of_row w g 0 _ _ _ h1]; rfl, fun p hp => ⟨vs.getD p undef, ?_, h2.row p hp⟩⟩
  rw [cell_of_row w O p _ _ _ h2.blk]
  simp [List.getD_eq_getElem?_getD, h2.len, hp]
theorem places_nil (w : World) : Calls Tryz.prog 51 #[.pointer none] w fun e w' => e = .returned (.int .i64 0) ∧ w' = w := by
  go_enter Tryz.func51, Tryz.ntmps51
  go_wp2
  go_ret
  exact ⟨rfl, rfl⟩
theorem places_any (h : GAt w g n W) : Calls Tryz.prog 51 #[.pointer (some ⟨g, 0, none⟩)] w fun e w' => e = .returned (.int .i64 n) ∧ w' = w := by
  obtain ⟨O, h1, _⟩ := h.out
  clear h
  go_enter Tryz.func51, Tryz.ntmps51
  go_wp2
  go_ret
  exact ⟨rfl, rfl⟩
theorem leave_two (W0 : World) (x : Int) (k : Int) (r : Bool) (hr : inR 0 k x = r) : Calls Tryz.prog 97 #[.int .i64 x, .pointer (some ⟨W0.heap.size, 0, none⟩), .pointer (some ⟨W0.heap.size + 1, 0, none⟩)] ((W0.alloc (.cells #[.int .i64 0] 3)).alloc (.cells #[.int .i64 k] 3)) fun e w' => e = .returned (.bool r) ∧ w' = (W0.alloc (.cells #[.int .i64 0] 3)).alloc (.cells #[.int .i64 k] 3) := by
  rw [← hr]
  exact inr_any 0 k x _ _ _ (by simp) (by simp)
/-- What leaving answers for p. -/
def rowZ (n : Nat) (W : Nat → Nat → Option Int) (p : Int) : List (Int × Int) := if 0 ≤ p ∧ p < n then rowM n W p.toNat else []
theorem leaving_any (h : GAt w g n W) (hn : 1 ≤ n ∧ n ≤ 32) (p : Int) : Calls Tryz.prog 80 #[.pointer (some ⟨g, 0, none⟩), .int .i64 p] w fun e w' => ∃ v, e = .returned v ∧ w.ownsRow 0 75 2 v (rowZ n W p).length (flatE (rowZ n W p)) ∧ Below w.heap.size w w' := by
  have HP := hide (places_any h)
  have hw1 : IntKind.i64.wrap ((n : Int) - 1) = (n : Int) - 1 := by rw [IntKind.wrap_i64]; omega
  have HB : Hid (Below w.heap.size w ((w.alloc (.cells #[.int .i64 0] 3)).alloc (.cells #[.int .i64 ((n : Int) - 1)] 3))) := below_two (Below.refl _ _) (Nat.le_refl _) _ _
  cases hp : inR 0 ((n : Int) - 1) p
  · have e : rowZ n W p = [] := by have := of_decide_eq_false hp; unfold rowZ; rw [if_neg (by omega)]
    have HR : Hid (w.ownsRow 0 75 2 (.slice none 0 0) (rowZ n W p).length (flatE (rowZ n W p))) := by rw [e]; exact World.ownsRow_nil _ _ _ _
    have HL := hide (leave_two w p ((n : Int) - 1) false hp)
    clear h e hp
    go_enter Tryz.func80, Tryz.ntmps80
    go_wp2_with (first | (go_at_call 51; refine HP.out.mono ?_; rintro e w' ⟨rfl, rfl⟩) | (go_at_call 81; refine (within_any _ _ _).mono ?_; rintro e w' ⟨rfl, rfl⟩) | (go_at_call 97; refine HL.out.mono ?_; rintro e w' ⟨rfl, rfl⟩))
    go_ret
    exact ⟨_, rfl, HR.out, HB.out⟩
  · have hp2 := of_decide_eq_true hp
    obtain ⟨pn, rfl⟩ : ∃ pn : Nat, p = (pn : Int) := ⟨p.toNat, by omega⟩
    have e : rowZ n W pn = rowM n W pn := by unfold rowZ; rw [if_pos (by omega)]; rfl
    have HL := hide (leave_two w pn ((n : Int) - 1) true hp)
    have h2 := (h.later HB.out).out
    have hlt : pn < n := by omega
    obtain ⟨O, h3, h4⟩ := h2
    obtain ⟨O', h3', h4'⟩ := h.out
    have hOO : O = O' := by
      have hlt : g < w.heap.size := block_lt_of_cell h3'
      rw [HB.out.cell (p := ⟨g, 0, none⟩) hlt, h3'] at h3
      simpa using h3.symm
    subst hOO
    obtain ⟨v, c1, r1⟩ := h4 pn hlt
    obtain ⟨v', c1', r1'⟩ := h4' pn hlt
    have hvv : v = v' := by
      have hlt : O < w.heap.size := block_lt_of_cell c1'
      rw [HB.out.cell (p := ⟨O, pn, none⟩) hlt, c1'] at c1
      simpa using c1.symm
    subst hvv
    have HR : Hid (w.ownsRow 0 75 2 v (rowZ n W pn).length (flatE (rowZ n W pn))) := by rw [e]; exact r1'
    have i1 : (pn : Int) < (n : Int) := by omega
    clear h h4 h4' r1 r1' c1' h3' e hp
    go_enter Tryz.func80, Tryz.ntmps80
    go_wp2_with (first | (go_at_call 51; refine HP.out.mono ?_; rintro e w' ⟨rfl, rfl⟩) | (go_at_call 81; refine (within_any _ _ _).mono ?_; rintro e w' ⟨rfl, rfl⟩) | (go_at_call 97; refine HL.out.mono ?_; rintro e w' ⟨rfl, rfl⟩))
    go_ret
    exact ⟨_, rfl, HR.out, HB.out⟩
end
/-- The weight of the first edge that leads to q. -/
def findW : List (Int × Int) → Int → Int
  | [], _ => -1
  | x :: r, q => if x.1 = q then x.2 else findW r q
theorem findW_mem : ∀ (R : List (Int × Int)) (q v : Int), R.Pairwise (fun x y => x.1 < y.1) → (q, v) ∈ R → findW R q = v
  | [], _, _, _, h => by simp at h
  | x :: r, q, v, hp, h => by
    rw [List.pairwise_cons] at hp
    rcases List.mem_cons.1 h with e | e
    · subst e; simp [findW]
    · have := hp.1 _ e
      simp only at this
      rw [findW, if_neg (by omega)]
      exact findW_mem r q v hp.2 e
theorem findW_none : ∀ (R : List (Int × Int)) (q : Int), (∀ x ∈ R, x.1 ≠ q) → findW R q = -1
  | [], _, _ => rfl
  | x :: r, q, h => by
    rw [findW, if_neg (h x (by simp))]
    exact findW_none r q (fun y hy => h y (by simp [hy]))
theorem findW_row (n : Nat) (W : Nat → Nat → Option Int) (p q : Int) : findW (rowZ n W p) q = wt n W p q := by
  unfold rowZ wt
  by_cases hp : 0 ≤ p ∧ p < n
  · rw [if_pos hp]
    by_cases hq : 0 ≤ q ∧ q < n
    · rw [if_pos ⟨hp.1, hp.2, hq.1, hq.2⟩]
      cases hw : W p.toNat q.toNat with
      | some v => exact findW_mem _ _ _ (rowM_rising _ _ _) (mem_rowM.2 ⟨q.toNat, v, by omega, hw, by rw [show ((q.toNat : Nat) : Int) = q by omega]; rfl⟩)
      | none =>
        refine findW_none _ _ (fun x hx e => ?_)
        obtain ⟨k, v, hk, h1, rfl⟩ := mem_rowM.1 hx
        simp only at e
        rw [← e] at hw
        simp only [Int.toNat_natCast] at hw
        rw [hw] at h1
        cases h1
    · rw [if_neg (by omega)]
      refine findW_none _ _ (fun x hx e => ?_)
      obtain ⟨k, v, hk, h1, rfl⟩ := mem_rowM.1 hx
      simp only at e
      omega
  · rw [if_neg hp, if_neg (by omega)]
    rfl
theorem findW_drop (R : List (Int × Int)) (k : Nat) (h : k < R.length) (q : Int) : findW (R.drop k) q = if (R[k]!).1 = q then (R[k]!).2 else findW (R.drop (k + 1)) q := by
  rw [List.drop_eq_getElem_cons h, getElem!_pos R k h]
  rfl
theorem rowM_len (n : Nat) (W : Nat → Nat → Option Int) (p : Nat) : (rowM n W p).length ≤ n := by
  unfold rowM
  have := List.length_filterMap_le (fun q => (W p q).map fun v => ((q : Int), v)) (List.range n)
  simpa using this
theorem rowZ_len (n : Nat) (W : Nat → Nat → Option Int) (p : Int) : (rowZ n W p).length ≤ n := by
  unfold rowZ
  split
  · exact rowM_len _ _ _
  · simp
theorem own_cells {w : World} {g n cap : Nat} {R : List (Int × Int)} (h : w.ownsRow 0 75 2 (.slice (some ⟨g, 0, none⟩) n cap) n (flatE R)) (hn : R.length = n) (k : Nat) (hk : k < n) : w.cell? ⟨g, k * 2, none⟩ = some (.int .i64 (R[k]!).1) ∧ w.cell? ⟨g, k * 2 + 1, none⟩ = some (.int .i64 (R[k]!).2) := by
  have := flatE_get R k (by omega)
  exact ⟨by rw [h.cellAt _ (by omega)]; exact this.1, by rw [h.cellAt _ (by omega)]; exact this.2⟩
section
variable {w : World} {g n : Nat} {W : Nat → Nat → Option Int}
set_option maxHeartbeats 1600000 in
theorem weight_any (h : GAt w g n W) (hn : 1 ≤ n ∧ n ≤ 32) (p q : Int) : Calls Tryz.prog 55 #[.pointer (some ⟨g, 0, none⟩), .int .i64 p, .int .i64 q] w fun e w' => e = .returned (.int .i64 (wt n W p q)) ∧ Below w.heap.size w w' := by
  have HL := hide (leaving_any h hn p)
  rw [← findW_row]
  have hlen := rowZ_len n W p
  obtain ⟨B, hB⟩ : ∃ B, w.heap.size = B := ⟨_, rfl⟩
  have HB := hide hB
  rw [hB] at HL ⊢
  clear h hB
  generalize rowZ n W p = R at HL hlen ⊢
  go_enter Tryz.func55, Tryz.ntmps55
  go_wp2_with (go_at_call 80; refine HL.out.mono ?_; rintro e w1 ⟨v, rfl, h1, h2⟩; have H1 := hide (And.intro h1 h2); clear h2; obtain ⟨va, vc, rfl⟩ : ∃ a c, v = .slice a R.length c := (by rcases h1.2 with ⟨e, e2⟩ | ⟨g, cap, cur, e, _⟩; exact ⟨none, 0, by rw [e, e2]⟩; exact ⟨_, cap, e⟩); clear h1)
  go_loopw [13] (fun vi wr => ∃ k : Nat, vi = .int .i64 k ∧ k ≤ R.length ∧ Hid (Below B w wr ∧ findW R q = findW (R.drop k) q)) (fun vi _ => R.length - (intOf vi).toNat)
  case atStart => exact ⟨0, rfl, Nat.zero_le _, H1.out.2, by rw [List.drop_zero]⟩
  case round =>
    obtain ⟨k, rfl, hk, HR⟩ := hrel
    have hBr : B ≤ wr.heap.size := by rw [← HB.out]; exact HR.out.1.size
    by_cases hlt : k < R.length
    · rcases H1.out.1.2 with ⟨_, e2⟩ | ⟨gb, cap, cur, e, _⟩
      · omega
      · cases e
        have hgb := (H1.out.1.lt gb rfl).2
        rw [HB.out] at hgb
        obtain ⟨c0, c1⟩ := own_cells H1.out.1 rfl k hlt
        have d0 := (HR.out.1.cell (p := ⟨gb, k * 2, none⟩) hgb).trans c0
        have d1 := (HR.out.1.cell (p := ⟨gb, k * 2 + 1, none⟩) hgb).trans c1
        have HF := hide (HR.out.2.trans (findW_drop R k hlt q))
        obtain ⟨x, hx⟩ : ∃ x, R[k]! = x := ⟨_, rfl⟩
        rw [hx] at d0 d1 HF
        obtain ⟨x1, x2⟩ := x
        simp only at d0 d1
        have HE : Hid (∀ o, Below B w (wr.alloc o)) := fun o => HR.out.1.alloc hBr o
        have i1 : (k : Int) < (R.length : Int) := by omega
        clear c0 c1 hx
        by_cases hq : x1 = q
        · have e : Hid (findW R q = x2) := by show _ = _; rw [HF.out, if_pos hq]
          have hq2 : (x1 == q) = true := by simp [hq]
          replace hq := hide hq
          go_wp2
          go_ret
          exact ⟨by rw [e.out]; rfl, HE.out _⟩
        · have e : Hid (findW R q = findW (R.drop (k + 1)) q) := by show _ = _; rw [HF.out, if_neg hq]
          have hq2 : (x1 == q) = false := by simp [hq]
          replace hq := hide hq
          go_wp2
          go_roundw
          case rel => exact ⟨k + 1, by go_num, by omega, HE.out _, e.out⟩
          case measure => simp [intOf]; omega
    · have : k = R.length := by omega
      subst this
      have e : Hid (findW R q = -1) := by show _ = _; rw [HR.out.2, List.drop_length]; rfl
      go_wp2
      go_ret
      exact ⟨by rw [e.out]; rfl, HR.out.1⟩
/-- So many edges leave the first k places. -/
def sumLen (n : Nat) (W : Nat → Nat → Option Int) : Nat → Nat
  | 0 => 0
  | k + 1 => sumLen n W k + (rowM n W k).length
theorem sumLen_le (n : Nat) (W : Nat → Nat → Option Int) : ∀ k, sumLen n W k ≤ k * n
  | 0 => by simp [sumLen]
  | k + 1 => by
    have := sumLen_le n W k
    have := rowM_len n W k
    rw [sumLen, Nat.succ_mul]
    omega
theorem len_nil (w : World) : Calls Tryz.prog 54 #[.pointer none] w fun e w' => e = .returned (.int .i64 0) ∧ w' = w := by
  have HP := hide (places_nil w)
  go_enter Tryz.func54, Tryz.ntmps54
  go_wp2_with (go_at_call 51; refine HP.out.mono ?_; rintro e w' ⟨rfl, rfl⟩)
  go_loop [3, 7] (fun s i => i = .int .i64 0 ∧ s = .int .i64 0) (fun _ _ => 0)
  case atStart => exact ⟨rfl, rfl⟩
  case round =>
    obtain ⟨rfl, rfl⟩ := hrel
    go_wp2
    go_ret
    exact ⟨rfl, rfl⟩
set_option maxHeartbeats 1600000 in
theorem len_any (h : GAt w g n W) (hn : 1 ≤ n ∧ n ≤ 32) : Calls Tryz.prog 54 #[.pointer (some ⟨g, 0, none⟩)] w fun e w' => e = .returned (.int .i64 (sumLen n W n)) ∧ w' = w := by
  have HP := hide (places_any h)
  obtain ⟨O, h1, h2⟩ := h.out
  have H2 := hide h2
  clear h h2
  go_enter Tryz.func54, Tryz.ntmps54
  go_wp2_with (go_at_call 51; refine HP.out.mono ?_; rintro e w' ⟨rfl, rfl⟩)
  go_loop [3, 7] (fun s i => ∃ k : Nat, i = .int .i64 k ∧ k ≤ n ∧ s = .int .i64 (sumLen n W k)) (fun _ i => n - (intOf i).toNat)
  case atStart => exact ⟨0, rfl, Nat.zero_le _, rfl⟩
  case round =>
    obtain ⟨k, rfl, hk, rfl⟩ := hrel
    by_cases hlt : k < n
    · obtain ⟨v, c1, hv⟩ := H2.out k hlt
      obtain ⟨va, vc, rfl⟩ : ∃ a c, v = .slice a (rowM n W k).length c := by
        rcases hv.2 with ⟨e, e2⟩ | ⟨g, cap, cur, e, _⟩
        · exact ⟨none, 0, by rw [e, e2]⟩
        · exact ⟨_, cap, e⟩
      have b1 := sumLen_le n W k
      have b2 := rowM_len n W k
      have b3 : k * n ≤ 32 * 32 := Nat.mul_le_mul (by omega) hn.2
      have HS : Hid (sumLen n W (k + 1) = sumLen n W k + (rowM n W k).length) := rfl
      generalize sumLen n W k = S at b1 HS ⊢
      generalize (rowM n W k).length = R at b2 c1 HS ⊢
      clear hv
      have i1 : (k : Int) < (n : Int) := by omega
      go_wp2
      go_round
      case rel => exact ⟨k + 1, by go_num, by omega, by rw [HS.out]; go_num⟩
      case measure => simp [intOf]; omega
    · have : k = n := by omega
      subst this
      go_wp2
      go_ret
      exact ⟨rfl, rfl⟩
end
end Go.Proofs.YtojkdmkeankcgaaGreat
