/-
  slack on a plan without steps, or of no vehicle.
-/
import Derived.BigRegion
import Derived.Test.YtndbikoccdjafaaACLineG
import Derived.Test.YtndbikoccdjafaaASkQG
namespace Go.Proofs.Ytndbikoccdjafaa
open Go.RowKit
set_option maxRecDepth 100000 in
set_option maxHeartbeats 6400000 in
theorem latest_out {w : World} {x : PrbS} {p : Prb} {n : Nat} {vi : Int} {a : Option Addr} (h : PrbV w x p) (hx : n ≤ 1 ∨ manB p vi = false) (hn : n ≤ 1000) (c : Nat) (tm ds wt sv co : Int) : Calls Try.prog 13 #[.agg (prbE p x), .agg (planC vi (.slice a n c) tm ds wt sv co)] w fun e w' => e = .returned (.slice none 0 0) ∧ Below w.heap.size w w' := by
  have HP := hide h
  obtain ⟨ta, tc, da, dc, va, vc, ja, jc, sa, sc, rfl⟩ := h.open
  clear h
  have H35 : Hid (∀ W2, Below w.heap.size w W2 → Calls Try.prog 35 #[.agg #[.int .i64 p.dims, .int .i64 p.time.n, .slice ta p.time.cells.length tc, .int .i64 p.dist.n, .slice da p.dist.cells.length dc, .slice va p.vs.length vc, .slice ja p.js.length jc, .slice sa p.ss.length sc], .agg #[.int .i64 vi, .slice a n c, .int .i64 tm, .int .i64 ds, .int .i64 wt, .int .i64 sv, .int .i64 co]] W2 fun e w' => e = .returned (.bool (manB p vi)) ∧ Below W2.heap.size W2 w') := fun W2 hf => smanned_any (HP.out.on hf) vi tm ds wt sv co
  unfold prbE planC
  simp only
  obtain ⟨W, hW⟩ : ∃ W, (w.alloc (.cells #[.int .i64 p.dims, .int .i64 p.time.n, .slice ta p.time.cells.length tc, .int .i64 p.dist.n, .slice da p.dist.cells.length dc, .slice va p.vs.length vc, .slice ja p.js.length jc, .slice sa p.ss.length sc] 29)).alloc (.cells #[.int .i64 vi, .slice a n c, .int .i64 tm, .int .i64 ds, .int .i64 wt, .int .i64 sv, .int .i64 co] 34) = W := ⟨_, rfl⟩
  have HB : Hid (Below w.heap.size w W) := by show Below _ _ _; rw [← hW]; exact ((Below.refl _ _).alloc (Nat.le_refl _) _).alloc (by simp) _
  have HX1 : Hid (W.heap[w.heap.size]? = some (.cells #[.int .i64 p.dims, .int .i64 p.time.n, .slice ta p.time.cells.length tc, .int .i64 p.dist.n, .slice da p.dist.cells.length dc, .slice va p.vs.length vc, .slice ja p.js.length jc, .slice sa p.ss.length sc] 29 (0, 0))) := by
    show _ = _
    rw [← hW, heap_alloc_old _ _ (by simp)]
    exact new_block _ _
  have HX2 : Hid (W.heap[w.heap.size + 1]? = some (.cells #[.int .i64 vi, .slice a n c, .int .i64 tm, .int .i64 ds, .int .i64 wt, .int .i64 sv, .int .i64 co] 34 (0, 0))) := by
    show _ = _
    rw [← hW]
    have h9 := new_block (w.alloc (.cells #[.int .i64 p.dims, .int .i64 p.time.n, .slice ta p.time.cells.length tc, .int .i64 p.dist.n, .slice da p.dist.cells.length dc, .slice va p.vs.length vc, .slice ja p.js.length jc, .slice sa p.ss.length sc] 29)) (.cells #[.int .i64 vi, .slice a n c, .int .i64 tm, .int .i64 ds, .int .i64 wt, .int .i64 sv, .int .i64 co] 34)
    rw [show (w.alloc (.cells #[.int .i64 p.dims, .int .i64 p.time.n, .slice ta p.time.cells.length tc, .int .i64 p.dist.n, .slice da p.dist.cells.length dc, .slice va p.vs.length vc, .slice ja p.js.length jc, .slice sa p.ss.length sc] 29)).heap.size = w.heap.size + 1 from by simp] at h9
    exact h9
  have a10 : W.cell? ⟨w.heap.size, 0, none⟩ = some (.int .i64 p.dims) := cell_of_row _ _ _ _ _ _ HX1.out
  have a11 : W.cell? ⟨w.heap.size, 1, none⟩ = some (.int .i64 p.time.n) := cell_of_row _ _ _ _ _ _ HX1.out
  have a12 : W.cell? ⟨w.heap.size, 2, none⟩ = some (.slice ta p.time.cells.length tc) := cell_of_row _ _ _ _ _ _ HX1.out
  have a13 : W.cell? ⟨w.heap.size, 3, none⟩ = some (.int .i64 p.dist.n) := cell_of_row _ _ _ _ _ _ HX1.out
  have a14 : W.cell? ⟨w.heap.size, 4, none⟩ = some (.slice da p.dist.cells.length dc) := cell_of_row _ _ _ _ _ _ HX1.out
  have a15 : W.cell? ⟨w.heap.size, 5, none⟩ = some (.slice va p.vs.length vc) := cell_of_row _ _ _ _ _ _ HX1.out
  have a16 : W.cell? ⟨w.heap.size, 6, none⟩ = some (.slice ja p.js.length jc) := cell_of_row _ _ _ _ _ _ HX1.out
  have a17 : W.cell? ⟨w.heap.size, 7, none⟩ = some (.slice sa p.ss.length sc) := cell_of_row _ _ _ _ _ _ HX1.out
  have a20 : W.cell? ⟨w.heap.size + 1, 0, none⟩ = some (.int .i64 vi) := cell_of_row _ _ _ _ _ _ HX2.out
  have a21 : W.cell? ⟨w.heap.size + 1, 1, none⟩ = some (.slice a n c) := cell_of_row _ _ _ _ _ _ HX2.out
  have a22 : W.cell? ⟨w.heap.size + 1, 2, none⟩ = some (.int .i64 tm) := cell_of_row _ _ _ _ _ _ HX2.out
  have a23 : W.cell? ⟨w.heap.size + 1, 3, none⟩ = some (.int .i64 ds) := cell_of_row _ _ _ _ _ _ HX2.out
  have a24 : W.cell? ⟨w.heap.size + 1, 4, none⟩ = some (.int .i64 wt) := cell_of_row _ _ _ _ _ _ HX2.out
  have a25 : W.cell? ⟨w.heap.size + 1, 5, none⟩ = some (.int .i64 sv) := cell_of_row _ _ _ _ _ _ HX2.out
  have a26 : W.cell? ⟨w.heap.size + 1, 6, none⟩ = some (.int .i64 co) := cell_of_row _ _ _ _ _ _ HX2.out
  by_cases h1 : n ≤ 1
  · have i1 : IntKind.i64.wrap ((n : Int) - 1) = (n : Int) - 1 := by rw [IntKind.wrap_i64]; omega
    have i2 : (n : Int) - 1 < 1 := by omega
    clear hx
    go_enter Try.func13, Try.ntmps13
    go_wp2_with fail
    go_ret
    exact ⟨rfl, HB.out⟩
  · obtain ⟨m, hm⟩ : ∃ m, n = m + 1 := ⟨n - 1, by omega⟩
    have i1 : IntKind.i64.wrap ((n : Int) - 1) = (m : Int) := by rw [IntKind.wrap_i64]; omega
    have i2 : ¬ (m : Int) < 1 := by omega
    have hx2 : manB p vi = false := by rcases hx with h | h; exact absurd h h1; exact h
    rw [hx2] at H35
    clear hx hm hx2 h1
    go_enter Try.func13, Try.ntmps13
    go_wp2_with (first | (go_at_call 35; refine (H35.out _ HB.out).mono ?_; rintro e u1 ⟨rfl, kk⟩; have E1 := hide kk; clear kk) | fail)
    go_ret
    exact ⟨rfl, below_on HB.out E1.out⟩
set_option maxRecDepth 100000 in
set_option maxHeartbeats 6400000 in
theorem spare_out {w : World} {x : PrbS} {p : Prb} {n : Nat} {vi : Int} {a : Option Addr} (h : PrbV w x p) (hx : n ≤ 1 ∨ manB p vi = false) (hn : n ≤ 1000) (c : Nat) (tm ds wt sv co : Int) : Calls Try.prog 15 #[.agg (prbE p x), .agg (planC vi (.slice a n c) tm ds wt sv co)] w fun e w' => e = .returned (.slice none 0 0) ∧ Below w.heap.size w w' := by
  have HP := hide h
  obtain ⟨ta, tc, da, dc, va, vc, ja, jc, sa, sc, rfl⟩ := h.open
  clear h
  have H13 : Hid (∀ W2, Below w.heap.size w W2 → Calls Try.prog 13 #[.agg #[.int .i64 p.dims, .int .i64 p.time.n, .slice ta p.time.cells.length tc, .int .i64 p.dist.n, .slice da p.dist.cells.length dc, .slice va p.vs.length vc, .slice ja p.js.length jc, .slice sa p.ss.length sc], .agg #[.int .i64 vi, .slice a n c, .int .i64 tm, .int .i64 ds, .int .i64 wt, .int .i64 sv, .int .i64 co]] W2 fun e w' => e = .returned (.slice none 0 0) ∧ Below W2.heap.size W2 w') := fun W2 hf => latest_out (HP.out.on hf) hx hn c tm ds wt sv co
  clear hx
  unfold prbE planC
  simp only
  obtain ⟨W, hW⟩ : ∃ W, (w.alloc (.cells #[.int .i64 p.dims, .int .i64 p.time.n, .slice ta p.time.cells.length tc, .int .i64 p.dist.n, .slice da p.dist.cells.length dc, .slice va p.vs.length vc, .slice ja p.js.length jc, .slice sa p.ss.length sc] 29)).alloc (.cells #[.int .i64 vi, .slice a n c, .int .i64 tm, .int .i64 ds, .int .i64 wt, .int .i64 sv, .int .i64 co] 34) = W := ⟨_, rfl⟩
  have HB : Hid (Below w.heap.size w W) := by show Below _ _ _; rw [← hW]; exact ((Below.refl _ _).alloc (Nat.le_refl _) _).alloc (by simp) _
  have HX1 : Hid (W.heap[w.heap.size]? = some (.cells #[.int .i64 p.dims, .int .i64 p.time.n, .slice ta p.time.cells.length tc, .int .i64 p.dist.n, .slice da p.dist.cells.length dc, .slice va p.vs.length vc, .slice ja p.js.length jc, .slice sa p.ss.length sc] 29 (0, 0))) := by
    show _ = _
    rw [← hW, heap_alloc_old _ _ (by simp)]
    exact new_block _ _
  have HX2 : Hid (W.heap[w.heap.size + 1]? = some (.cells #[.int .i64 vi, .slice a n c, .int .i64 tm, .int .i64 ds, .int .i64 wt, .int .i64 sv, .int .i64 co] 34 (0, 0))) := by
    show _ = _
    rw [← hW]
    have h9 := new_block (w.alloc (.cells #[.int .i64 p.dims, .int .i64 p.time.n, .slice ta p.time.cells.length tc, .int .i64 p.dist.n, .slice da p.dist.cells.length dc, .slice va p.vs.length vc, .slice ja p.js.length jc, .slice sa p.ss.length sc] 29)) (.cells #[.int .i64 vi, .slice a n c, .int .i64 tm, .int .i64 ds, .int .i64 wt, .int .i64 sv, .int .i64 co] 34)
    rw [show (w.alloc (.cells #[.int .i64 p.dims, .int .i64 p.time.n, .slice ta p.time.cells.length tc, .int .i64 p.dist.n, .slice da p.dist.cells.length dc, .slice va p.vs.length vc, .slice ja p.js.length jc, .slice sa p.ss.length sc] 29)).heap.size = w.heap.size + 1 from by simp] at h9
    exact h9
  have a10 : W.cell? ⟨w.heap.size, 0, none⟩ = some (.int .i64 p.dims) := cell_of_row _ _ _ _ _ _ HX1.out
  have a11 : W.cell? ⟨w.heap.size, 1, none⟩ = some (.int .i64 p.time.n) := cell_of_row _ _ _ _ _ _ HX1.out
  have a12 : W.cell? ⟨w.heap.size, 2, none⟩ = some (.slice ta p.time.cells.length tc) := cell_of_row _ _ _ _ _ _ HX1.out
  have a13 : W.cell? ⟨w.heap.size, 3, none⟩ = some (.int .i64 p.dist.n) := cell_of_row _ _ _ _ _ _ HX1.out
  have a14 : W.cell? ⟨w.heap.size, 4, none⟩ = some (.slice da p.dist.cells.length dc) := cell_of_row _ _ _ _ _ _ HX1.out
  have a15 : W.cell? ⟨w.heap.size, 5, none⟩ = some (.slice va p.vs.length vc) := cell_of_row _ _ _ _ _ _ HX1.out
  have a16 : W.cell? ⟨w.heap.size, 6, none⟩ = some (.slice ja p.js.length jc) := cell_of_row _ _ _ _ _ _ HX1.out
  have a17 : W.cell? ⟨w.heap.size, 7, none⟩ = some (.slice sa p.ss.length sc) := cell_of_row _ _ _ _ _ _ HX1.out
  have a20 : W.cell? ⟨w.heap.size + 1, 0, none⟩ = some (.int .i64 vi) := cell_of_row _ _ _ _ _ _ HX2.out
  have a21 : W.cell? ⟨w.heap.size + 1, 1, none⟩ = some (.slice a n c) := cell_of_row _ _ _ _ _ _ HX2.out
  have a22 : W.cell? ⟨w.heap.size + 1, 2, none⟩ = some (.int .i64 tm) := cell_of_row _ _ _ _ _ _ HX2.out
  have a23 : W.cell? ⟨w.heap.size + 1, 3, none⟩ = some (.int .i64 ds) := cell_of_row _ _ _ _ _ _ HX2.out
  have a24 : W.cell? ⟨w.heap.size + 1, 4, none⟩ = some (.int .i64 wt) := cell_of_row _ _ _ _ _ _ HX2.out
  have a25 : W.cell? ⟨w.heap.size + 1, 5, none⟩ = some (.int .i64 sv) := cell_of_row _ _ _ _ _ _ HX2.out
  have a26 : W.cell? ⟨w.heap.size + 1, 6, none⟩ = some (.int .i64 co) := cell_of_row _ _ _ _ _ _ HX2.out
  go_enter Try.func15, Try.ntmps15
  go_wp2_with (first | (go_at_call 13; refine (H13.out _ HB.out).mono ?_; rintro e u1 ⟨rfl, kk⟩; have E1 := hide kk; clear kk) | fail)
  go_loopw [12] (fun vi wr => vi = .int .i64 0 ∧ Hid (Below w.heap.size w wr)) (fun _ _ => 0)
  case atStart => exact ⟨rfl, below_on HB.out E1.out⟩
  case round =>
    obtain ⟨rfl, HR⟩ := hrel
    go_wp2_with fail
    go_ret
    exact ⟨rfl, HR.out⟩
set_option maxRecDepth 100000 in
set_option maxHeartbeats 6400000 in
theorem ends_nil {w : World} {x : PrbS} {p : Prb} {n : Nat} {vi : Int} {a : Option Addr} (h : PrbV w x p) (hx : n ≤ 1 ∨ manB p vi = false) (hn : n ≤ 1000) (c : Nat) (tm ds wt sv co : Int) (i t : Int) : Calls Try.prog 17 #[.agg (prbE p x), .agg (planC vi (.slice a n c) tm ds wt sv co), .int .i64 i, .int .i64 t] w fun e w' => e = .returned (.tuple #[.int .i64 0, .bool false]) ∧ Below w.heap.size w w' := by
  have HP := hide h
  obtain ⟨ta, tc, da, dc, va, vc, ja, jc, sa, sc, rfl⟩ := h.open
  clear h
  have H13 : Hid (∀ W2, Below w.heap.size w W2 → Calls Try.prog 13 #[.agg #[.int .i64 p.dims, .int .i64 p.time.n, .slice ta p.time.cells.length tc, .int .i64 p.dist.n, .slice da p.dist.cells.length dc, .slice va p.vs.length vc, .slice ja p.js.length jc, .slice sa p.ss.length sc], .agg #[.int .i64 vi, .slice a n c, .int .i64 tm, .int .i64 ds, .int .i64 wt, .int .i64 sv, .int .i64 co]] W2 fun e w' => e = .returned (.slice none 0 0) ∧ Below W2.heap.size W2 w') := fun W2 hf => latest_out (HP.out.on hf) hx hn c tm ds wt sv co
  clear hx
  unfold prbE planC
  simp only
  obtain ⟨W, hW⟩ : ∃ W, (w.alloc (.cells #[.int .i64 p.dims, .int .i64 p.time.n, .slice ta p.time.cells.length tc, .int .i64 p.dist.n, .slice da p.dist.cells.length dc, .slice va p.vs.length vc, .slice ja p.js.length jc, .slice sa p.ss.length sc] 29)).alloc (.cells #[.int .i64 vi, .slice a n c, .int .i64 tm, .int .i64 ds, .int .i64 wt, .int .i64 sv, .int .i64 co] 34) = W := ⟨_, rfl⟩
  have HB : Hid (Below w.heap.size w W) := by show Below _ _ _; rw [← hW]; exact ((Below.refl _ _).alloc (Nat.le_refl _) _).alloc (by simp) _
  have HX1 : Hid (W.heap[w.heap.size]? = some (.cells #[.int .i64 p.dims, .int .i64 p.time.n, .slice ta p.time.cells.length tc, .int .i64 p.dist.n, .slice da p.dist.cells.length dc, .slice va p.vs.length vc, .slice ja p.js.length jc, .slice sa p.ss.length sc] 29 (0, 0))) := by
    show _ = _
    rw [← hW, heap_alloc_old _ _ (by simp)]
    exact new_block _ _
  have HX2 : Hid (W.heap[w.heap.size + 1]? = some (.cells #[.int .i64 vi, .slice a n c, .int .i64 tm, .int .i64 ds, .int .i64 wt, .int .i64 sv, .int .i64 co] 34 (0, 0))) := by
    show _ = _
    rw [← hW]
    have h9 := new_block (w.alloc (.cells #[.int .i64 p.dims, .int .i64 p.time.n, .slice ta p.time.cells.length tc, .int .i64 p.dist.n, .slice da p.dist.cells.length dc, .slice va p.vs.length vc, .slice ja p.js.length jc, .slice sa p.ss.length sc] 29)) (.cells #[.int .i64 vi, .slice a n c, .int .i64 tm, .int .i64 ds, .int .i64 wt, .int .i64 sv, .int .i64 co] 34)
    rw [show (w.alloc (.cells #[.int .i64 p.dims, .int .i64 p.time.n, .slice ta p.time.cells.length tc, .int .i64 p.dist.n, .slice da p.dist.cells.length dc, .slice va p.vs.length vc, .slice ja p.js.length jc, .slice sa p.ss.length sc] 29)).heap.size = w.heap.size + 1 from by simp] at h9
    exact h9
  have a10 : W.cell? ⟨w.heap.size, 0, none⟩ = some (.int .i64 p.dims) := cell_of_row _ _ _ _ _ _ HX1.out
  have a11 : W.cell? ⟨w.heap.size, 1, none⟩ = some (.int .i64 p.time.n) := cell_of_row _ _ _ _ _ _ HX1.out
  have a12 : W.cell? ⟨w.heap.size, 2, none⟩ = some (.slice ta p.time.cells.length tc) := cell_of_row _ _ _ _ _ _ HX1.out
  have a13 : W.cell? ⟨w.heap.size, 3, none⟩ = some (.int .i64 p.dist.n) := cell_of_row _ _ _ _ _ _ HX1.out
  have a14 : W.cell? ⟨w.heap.size, 4, none⟩ = some (.slice da p.dist.cells.length dc) := cell_of_row _ _ _ _ _ _ HX1.out
  have a15 : W.cell? ⟨w.heap.size, 5, none⟩ = some (.slice va p.vs.length vc) := cell_of_row _ _ _ _ _ _ HX1.out
  have a16 : W.cell? ⟨w.heap.size, 6, none⟩ = some (.slice ja p.js.length jc) := cell_of_row _ _ _ _ _ _ HX1.out
  have a17 : W.cell? ⟨w.heap.size, 7, none⟩ = some (.slice sa p.ss.length sc) := cell_of_row _ _ _ _ _ _ HX1.out
  have a20 : W.cell? ⟨w.heap.size + 1, 0, none⟩ = some (.int .i64 vi) := cell_of_row _ _ _ _ _ _ HX2.out
  have a21 : W.cell? ⟨w.heap.size + 1, 1, none⟩ = some (.slice a n c) := cell_of_row _ _ _ _ _ _ HX2.out
  have a22 : W.cell? ⟨w.heap.size + 1, 2, none⟩ = some (.int .i64 tm) := cell_of_row _ _ _ _ _ _ HX2.out
  have a23 : W.cell? ⟨w.heap.size + 1, 3, none⟩ = some (.int .i64 ds) := cell_of_row _ _ _ _ _ _ HX2.out
  have a24 : W.cell? ⟨w.heap.size + 1, 4, none⟩ = some (.int .i64 wt) := cell_of_row _ _ _ _ _ _ HX2.out
  have a25 : W.cell? ⟨w.heap.size + 1, 5, none⟩ = some (.int .i64 sv) := cell_of_row _ _ _ _ _ _ HX2.out
  have a26 : W.cell? ⟨w.heap.size + 1, 6, none⟩ = some (.int .i64 co) := cell_of_row _ _ _ _ _ _ HX2.out
  by_cases h0 : i < 0
  · go_enter Try.func17, Try.ntmps17
    go_wp2_with (first | (go_at_call 13; refine (H13.out _ HB.out).mono ?_; rintro e u1 ⟨rfl, kk⟩; have E1 := hide kk; clear kk) | fail)
    go_ret2
    exact ⟨rfl, below_on HB.out E1.out⟩
  · have h1 : (0 : Int) ≤ i := by omega
    go_enter Try.func17, Try.ntmps17
    go_wp2_with (first | (go_at_call 13; refine (H13.out _ HB.out).mono ?_; rintro e u1 ⟨rfl, kk⟩; have E1 := hide kk; clear kk) | fail)
    go_ret2
    exact ⟨rfl, below_on HB.out E1.out⟩
end Go.Proofs.Ytndbikoccdjafaa
