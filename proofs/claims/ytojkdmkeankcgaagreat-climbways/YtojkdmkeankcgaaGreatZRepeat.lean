/-
  What the call of slices.Repeat does, of one whole number.
-/
import Derived.Test.YtojkdmkeankcgaaGreatShelf
import Derived.Test.YtojkdmkeankcgaaGreatGather
import Derived.Test.YtojkdmkeankcgaaGreatInts
import Derived.Test.YtojkdmkeankcgaaGreatZQa
import Derived.Laws.CopyOwn
namespace Go.Proofs.YtojkdmkeankcgaaGreat
open Go.RowKit Go.Sort

theorem made_ints (n : Nat) (hn : n ≤ 32) (w : World) : (Instr.makeSlice 27 (.int .i64 n) (.int .i64 n)).run Tryz.prog w = .ok (.slice (some ⟨w.heap.size, 0, none⟩) n n) (w.alloc (.cells (List.replicate n (.int .i64 0)).toArray 3)) := by
  obtain ⟨i0, hi0, hz0, hz1, hz2⟩ := info_parts info3
  have := run_makeSlice (P := Tryz.prog) w 27 3 i0 _ Tryz.underlying27 hi0 hz0 .i64 .i64 n n (by omega) (by omega) (by rw [hz1]; omega) (by rw [hz2]; omega) (by omega)
  rw [hz1] at this
  simp only [Int.toNat_natCast, Nat.mul_one] at this
  have e : madeCells (Value.int .i64 0).cells n = (List.replicate n (Value.int .i64 0)).toArray := by
    apply Array.ext
    · simp [madeCells]
    · intro i h1 h2
      simp [madeCells, Value.cells, Nat.mod_one]
  rw [e] at this
  exact this
/-- k times x, then nothing. -/
def rowR (x : Int) (k n : Nat) : List Value := List.replicate k (.int .i64 x) ++ List.replicate (n - k) (.int .i64 0)
theorem rowR_len (x : Int) (k n : Nat) (h : k ≤ n) : (rowR x k n).length = n := by unfold rowR; simp; omega
theorem rowR_zero (x : Int) (n : Nat) : rowR x 0 n = List.replicate n (.int .i64 0) := by simp [rowR]
theorem rowR_splice (x : Int) (k j n : Nat) : splice (rowR x k n) k (List.replicate j (.int .i64 x)) = rowR x (k + j) n := by
  unfold splice rowR
  rw [List.take_left' (by simp), List.length_replicate, List.drop_append, List.length_replicate, List.drop_of_length_le (by simp), List.nil_append, show k + j - k = j by omega, List.drop_replicate, show n - k - j = n - (k + j) by omega, ← List.append_assoc, List.replicate_append_replicate]
theorem rowR_get (x : Int) (k n i : Nat) (h : i < k) : (rowR x k n)[i]? = some (.int .i64 x) := by
  unfold rowR
  rw [List.getElem?_append_left (by simpa using h)]
  simp [h]
/-- A copy within the row, or into it. -/
theorem copy_row (x : Int) (k j n g : Nat) (w : World) (hk : k + j ≤ n) (hg : w.heap[g]? = some (.cells (rowR x k n).toArray 3 (0, 0))) (ad : Addr) (sLen sCap dLen dCap : Nat) (hj : j = Nat.min sLen dLen)
    (hsrc : ∀ i, i < j → w.cell? (ad.add i) = some (.int .i64 x)) :
    (Builtin.copy_ #[27, 27] 3 #[.slice (some ⟨g, k, none⟩) dLen dCap, .slice (some ad) sLen sCap]).run Tryz.prog w = .ok (.int .i64 j) (w.setRow g (rowR x (k + j) n).toArray) := by
  have h := run_copy_row (P := Tryz.prog) w 27 27 3 3 g k dLen dCap ad sLen sCap _ 3 (List.replicate j (.int .i64 x)) Tryz.underlying27 (by kernel_rfl) hg (by rw [List.length_replicate]; exact hj) (fun i v hv => by
    have hi : i < j := by
      rcases Nat.lt_or_ge i j with h' | h'
      · exact h'
      · rw [List.getElem?_eq_none (by rw [List.length_replicate]; exact h')] at hv; cases hv
    rw [hsrc i hi]
    simpa [hi] using hv) (by rw [List.length_replicate, List.size_toArray, rowR_len _ _ _ (by omega)]; exact hk) (fun v hv => by rw [(List.mem_replicate.1 hv).2]; rfl)
  have e := rowR_splice x k j n
  unfold splice at e
  rw [List.length_replicate] at h
  rw [List.length_replicate] at e
  rw [h, List.append_assoc]
  simp only
  rw [e]
  rfl
theorem setRow_alloc (w : World) (a b : Array Value) (t : TypeId) (fr : Nat × Nat) : (w.alloc (.cells a t fr)).setRow w.heap.size b = w.alloc (.cells b t fr) := by
  unfold World.setRow World.alloc
  congr 1
  apply Array.ext
  · simp
  · intro i h1 h2
    simp only [Array.getElem_modify]
    split
    · rename_i e; subst e; simp
    · rename_i e
      have : i < w.heap.size := by simp at h2; omega
      simp [Array.getElem_push, this]
theorem setRow_drewN (w : World) (g : Nat) (b : Array Value) : ∀ q, (w.drewN q).setRow g b = (w.setRow g b).drewN q
  | 0 => rfl
  | q + 1 => by
    show ((w.drewN q).drew).setRow g b = ((w.setRow g b).drewN q).drew
    rw [← setRow_drewN w g b q]
    rfl
set_option maxRecDepth 100000 in
set_option maxHeartbeats 3200000 in
theorem repeat_any (x : Int) (n g0 : Nat) (hn : 1 ≤ n ∧ n ≤ 32) (w : World) (h : w.cell? ⟨g0, 0, none⟩ = some (.int .i64 x)) :
    Calls Tryz.prog 38 #[.slice (some ⟨g0, 0, none⟩) 1 1, .int .i64 n] w fun e w' => e = .returned (.slice (some ⟨w.heap.size, 0, none⟩) n n) ∧ ∃ q, w' = (w.alloc (.cells (List.replicate n (.int .i64 x)).toArray 3)).drewN q := by
  have HM := hide (mul_any 1 n (by omega) (by omega) w)
  rw [show 1 * n / 18446744073709551616 = 0 by omega, show 1 * n % 18446744073709551616 = n by omega] at HM
  have hmk := made_ints n hn.2 w
  have hg0 : g0 < w.heap.size := block_lt_of_cell h
  rw [← rowR_zero x n] at hmk
  have hrun := copy_row x 0 1 n w.heap.size (w.alloc (.cells (rowR x 0 n).toArray 3)) (by omega) (heap_alloc_new _ _) ⟨g0, 0, none⟩ 1 1 n n (Nat.min_eq_left hn.1).symm (fun i hi => by
    rw [add0, World.cell?_alloc_lt _ _ _ (by show g0 < _; exact hg0), show i = 0 by omega]
    exact h)
  rw [setRow_alloc] at hrun
  have u1 : ¬ (9223372036854775807 : Int) < (n : Int) := by omega
  clear h hg0
  go_enter Tryz.func38, Tryz.ntmps38
  go_wp2_with (go_at_call 65; refine HM.out.mono ?_; rintro e w1 ⟨rfl, hw⟩; rw [hw]; clear hw)
  go_loopw [8] (fun vi wr => ∃ k : Nat, vi = .int .i64 k ∧ 1 ≤ k ∧ k ≤ n ∧ ∃ q, Hid (wr = (w.alloc (.cells (rowR x k n).toArray 3)).drewN q)) (fun vi _ => n - (intOf vi).toNat)
  case atStart => exact ⟨1, rfl, Nat.le_refl _, hn.1, 0, rfl⟩
  case round =>
    clear hrun hmk
    obtain ⟨k, rfl, hk1, hk, q, HR⟩ := hrel
    by_cases hlt : k < n
    · have i1 : (k : Int) < (n : Int) := by omega
      obtain ⟨j, hj⟩ : ∃ j, j = Nat.min k (n - k) := ⟨_, rfl⟩
      have hjl : j ≤ k := by rw [hj]; exact Nat.min_le_left _ _
      have hjr : j ≤ n - k := by rw [hj]; exact Nat.min_le_right _ _
      have hj0 : 1 ≤ j := by rw [hj]; exact Nat.le_min.2 ⟨hk1, by omega⟩
      have HJ := hide hj
      clear hj
      have hj1 : 1 ≤ j ∧ k + j ≤ n := by omega
      have hg : wr.drew.heap[w.heap.size]? = some (.cells (rowR x k n).toArray 3 (0, 0)) := by
        show wr.heap[w.heap.size]? = _
        rw [HR.out, Qu.drewN_heap]
        exact heap_alloc_new _ _
      have hrun := copy_row x k j n w.heap.size wr.drew hj1.2 hg ⟨w.heap.size, 0, none⟩ k n (n - k) (n - k) HJ.out (fun i hi => by
        rw [add0, cell_of_row _ w.heap.size i _ _ _ hg, List.getElem?_toArray]
        exact rowR_get x k n i (by omega))
      have H2 : Hid (wr.drew.setRow w.heap.size (rowR x (k + j) n).toArray = (w.alloc (.cells (rowR x (k + j) n).toArray 3)).drewN (q + 1)) := by
        show wr.drew.setRow _ _ = _
        rw [HR.out]
        show (((w.alloc (.cells (rowR x k n).toArray 3)).drewN q).setRow w.heap.size (rowR x (k + j) n).toArray).drew = _
        rw [setRow_drewN, setRow_alloc]
        rfl
      clear HR hg
      go_wp2
      go_region
      all_goals
        go_wp2
        go_roundw
        case rel => exact ⟨k + j, by go_num, by omega, by omega, q + 1, H2.out⟩
        case measure => simp [intOf]; omega
    · have hkn : k = n := by omega
      subst hkn
      have HE : Hid (wr = (w.alloc (.cells (List.replicate k (.int .i64 x)).toArray 3)).drewN q) := by
        have := HR.out
        rw [show rowR x k k = List.replicate k (.int .i64 x) by simp [rowR]] at this
        exact this
      go_wp2
      go_ret
      exact ⟨rfl, q, HE.out⟩
end Go.Proofs.YtojkdmkeankcgaaGreat
