/-
  The law's made 12: the plan of a route.
-/
import Derived.BigRegion
import Derived.Test.YtndbikoccdjafaaBCRFt
import Derived.Test.YtndbikoccdjafaaBCBrkPG
namespace Go.Proofs.Ytndbikoccdjafaa
open Go.RowKit
/-- Is there a plan? -/
def madeB (p : Prb) (vi : Int) (V : List Vst) : Bool := lawM p && decide (V.length ≤ 30) && decide (fitE p vi V = 0)
theorem PlanW.base {w : World} {b b2 : Nat} {v : Value} {pl : PlanT} (h : PlanW w b v pl) (hb : b2 ≤ b) : PlanW w b2 v pl := by
  obtain ⟨a, n, c, ys, e, hr, hn⟩ := h
  exact ⟨a, n, c, ys, e, StpR.mono hr hb hb, hn⟩
theorem PlanW.grw {w w' : World} {b x : Nat} {v : Value} {pl : PlanT} (h : PlanW w b v pl) (hx : x < b) (hg : w.grownBy w' (some x)) : PlanW w' b v pl := by
  obtain ⟨a, n, c, ys, e, hr, hn⟩ := h
  refine ⟨a, n, c, ys, e, row_set hr hg (fun g hg9 => ?_) (fun y hy g hg9 => ?_), hn⟩
  · have := (World.ownsRow.lt hr.own g hg9).1
    omega
  · obtain ⟨k, hk⟩ := List.getElem?_of_mem hy
    obtain ⟨hkl, _⟩ := List.getElem?_eq_some_iff.1 hk
    have hs := (hr.sat k _ y (List.getElem?_eq_getElem (show k < pl.steps.length by rw [← hr.len]; exact hkl)) hk).1
    have := (World.ownsRow.lt hs g hg9).1
    omega
set_option maxRecDepth 100000 in
set_option maxHeartbeats 6400000 in
theorem made_any {w : World} {x : PrbS} {p : Prb} {m vc : Nat} {va : Option Addr} {V : List Vst} (h : PrbV w x p) (hV : VsV w (.slice va m vc) V) (hm : V.length = m) (vi : Int) : Calls Try.prog 12 #[.agg (prbE p x), .int .i64 vi, .slice va m vc] w fun e w' => ∃ v pl, e = .returned (.tuple #[v, .bool (madeB p vi V)]) ∧ PlanW w' w.heap.size v pl ∧ (madeB p vi V = true → pl = fitP p vi V) ∧ Below w.heap.size w w' := by
  have HP := hide h
  have HV := hide hV
  have HM := hide hm
  have hmb : m * 16 ≤ 140737488351232 := by obtain ⟨_, _, e, hb, _⟩ := hV; rw [← hm]; exact hb
  clear hV
  obtain ⟨ta, tc, da, dc, va', vc', ja, jc, sa, sc, rfl⟩ := h.open
  clear h
  obtain ⟨bb, hbb⟩ : ∃ b, lawM p = b := ⟨_, rfl⟩
  have HL := hide hbb
  have H18 : Hid (∀ W2, Below w.heap.size w W2 → Calls Try.prog 18 #[.agg #[.int .i64 p.dims, .int .i64 p.time.n, .slice ta p.time.cells.length tc, .int .i64 p.dist.n, .slice da p.dist.cells.length dc, .slice va' p.vs.length vc', .slice ja p.js.length jc, .slice sa p.ss.length sc]] W2 fun e w' => e = .returned (.bool bb) ∧ Below W2.heap.size W2 w') := fun W2 hf => by
    have h9 := lawful12_any (HP.out.on hf)
    rw [HL.out] at h9
    exact h9
  have HF : Hid (∀ pl, madeB p vi V = false → pl = false → Calls Try.prog 12 #[.agg #[.int .i64 p.dims, .int .i64 p.time.n, .slice ta p.time.cells.length tc, .int .i64 p.dist.n, .slice da p.dist.cells.length dc, .slice va' p.vs.length vc', .slice ja p.js.length jc, .slice sa p.ss.length sc], .int .i64 vi, .slice va m vc] w (fun e w' => e = .returned (.tuple #[.agg #[.int .i64 0, .slice none 0 0, .int .i64 0, .int .i64 0, .int .i64 0, .int .i64 0, .int .i64 0], .bool false]) ∧ Below w.heap.size w w') → Calls Try.prog 12 #[.agg #[.int .i64 p.dims, .int .i64 p.time.n, .slice ta p.time.cells.length tc, .int .i64 p.dist.n, .slice da p.dist.cells.length dc, .slice va' p.vs.length vc', .slice ja p.js.length jc, .slice sa p.ss.length sc], .int .i64 vi, .slice va m vc] w fun e w' => ∃ v pl, e = .returned (.tuple #[v, .bool (madeB p vi V)]) ∧ PlanW w' w.heap.size v pl ∧ (madeB p vi V = true → pl = fitP p vi V) ∧ Below w.heap.size w w') := fun pl hf _ hc => by
    refine hc.mono ?_
    rintro e w' ⟨rfl, k9⟩
    exact ⟨_, planZ, by rw [hf]; rfl, planZ_w _ _, (fun hh => by rw [hf] at hh; cases hh), k9⟩
  have HBW : Hid (∀ A B, Below w.heap.size w ((w.alloc A).alloc B)) := fun A B => ((Below.refl _ _).alloc (Nat.le_refl _) A).alloc (by simp) B
  show Calls Try.prog 12 #[.agg #[.int .i64 p.dims, .int .i64 p.time.n, .slice ta p.time.cells.length tc, .int .i64 p.dist.n, .slice da p.dist.cells.length dc, .slice va' p.vs.length vc', .slice ja p.js.length jc, .slice sa p.ss.length sc], .int .i64 vi, .slice va m vc] w _
  obtain ⟨W, hW⟩ : ∃ W, (w.alloc (.cells #[.int .i64 p.dims, .int .i64 p.time.n, .slice ta p.time.cells.length tc, .int .i64 p.dist.n, .slice da p.dist.cells.length dc, .slice va' p.vs.length vc', .slice ja p.js.length jc, .slice sa p.ss.length sc] 29)).alloc (.cells #[.int .i64 0, .slice none 0 0, .int .i64 0, .int .i64 0, .int .i64 0, .int .i64 0, .int .i64 0] 34) = W := ⟨_, rfl⟩
  have HB : Hid (Below w.heap.size w W) := by show Below _ _ _; rw [← hW]; exact HBW.out _ _
  have HX1 : Hid (W.heap[w.heap.size]? = some (.cells #[.int .i64 p.dims, .int .i64 p.time.n, .slice ta p.time.cells.length tc, .int .i64 p.dist.n, .slice da p.dist.cells.length dc, .slice va' p.vs.length vc', .slice ja p.js.length jc, .slice sa p.ss.length sc] 29 (0, 0))) := by
    show _ = _
    rw [← hW, heap_alloc_old _ _ (by simp)]
    exact new_block _ _
  have HX2 : Hid (W.heap[w.heap.size + 1]? = some (.cells #[.int .i64 0, .slice none 0 0, .int .i64 0, .int .i64 0, .int .i64 0, .int .i64 0, .int .i64 0] 34 (0, 0))) := by
    show _ = _
    rw [← hW]
    have h9 := new_block (w.alloc (.cells #[.int .i64 p.dims, .int .i64 p.time.n, .slice ta p.time.cells.length tc, .int .i64 p.dist.n, .slice da p.dist.cells.length dc, .slice va' p.vs.length vc', .slice ja p.js.length jc, .slice sa p.ss.length sc] 29)) (.cells #[.int .i64 0, .slice none 0 0, .int .i64 0, .int .i64 0, .int .i64 0, .int .i64 0, .int .i64 0] 34)
    simp only [World.size_alloc] at h9
    exact h9
  have a10 : W.cell? ⟨w.heap.size, 0, none⟩ = some (.int .i64 p.dims) := cell_of_row _ _ _ _ _ _ HX1.out
  have a11 : W.cell? ⟨w.heap.size, 1, none⟩ = some (.int .i64 p.time.n) := cell_of_row _ _ _ _ _ _ HX1.out
  have a12 : W.cell? ⟨w.heap.size, 2, none⟩ = some (.slice ta p.time.cells.length tc) := cell_of_row _ _ _ _ _ _ HX1.out
  have a13 : W.cell? ⟨w.heap.size, 3, none⟩ = some (.int .i64 p.dist.n) := cell_of_row _ _ _ _ _ _ HX1.out
  have a14 : W.cell? ⟨w.heap.size, 4, none⟩ = some (.slice da p.dist.cells.length dc) := cell_of_row _ _ _ _ _ _ HX1.out
  have a15 : W.cell? ⟨w.heap.size, 5, none⟩ = some (.slice va' p.vs.length vc') := cell_of_row _ _ _ _ _ _ HX1.out
  have a16 : W.cell? ⟨w.heap.size, 6, none⟩ = some (.slice ja p.js.length jc) := cell_of_row _ _ _ _ _ _ HX1.out
  have a17 : W.cell? ⟨w.heap.size, 7, none⟩ = some (.slice sa p.ss.length sc) := cell_of_row _ _ _ _ _ _ HX1.out
  have a20 : W.cell? ⟨w.heap.size + 1, 0, none⟩ = some (.int .i64 0) := cell_of_row _ _ _ _ _ _ HX2.out
  have a21 : W.cell? ⟨w.heap.size + 1, 1, none⟩ = some (.slice none 0 0) := cell_of_row _ _ _ _ _ _ HX2.out
  have a22 : W.cell? ⟨w.heap.size + 1, 2, none⟩ = some (.int .i64 0) := cell_of_row _ _ _ _ _ _ HX2.out
  have a23 : W.cell? ⟨w.heap.size + 1, 3, none⟩ = some (.int .i64 0) := cell_of_row _ _ _ _ _ _ HX2.out
  have a24 : W.cell? ⟨w.heap.size + 1, 4, none⟩ = some (.int .i64 0) := cell_of_row _ _ _ _ _ _ HX2.out
  have a25 : W.cell? ⟨w.heap.size + 1, 5, none⟩ = some (.int .i64 0) := cell_of_row _ _ _ _ _ _ HX2.out
  have a26 : W.cell? ⟨w.heap.size + 1, 6, none⟩ = some (.int .i64 0) := cell_of_row _ _ _ _ _ _ HX2.out
  have f20 : W.frozen? ⟨w.heap.size + 1, 0, none⟩ = false := frozen_of_row _ _ _ _ _ HX2.out
  have f21 : W.frozen? ⟨w.heap.size + 1, 1, none⟩ = false := frozen_of_row _ _ _ _ _ HX2.out
  have f22 : W.frozen? ⟨w.heap.size + 1, 2, none⟩ = false := frozen_of_row _ _ _ _ _ HX2.out
  have f23 : W.frozen? ⟨w.heap.size + 1, 3, none⟩ = false := frozen_of_row _ _ _ _ _ HX2.out
  have f24 : W.frozen? ⟨w.heap.size + 1, 4, none⟩ = false := frozen_of_row _ _ _ _ _ HX2.out
  have f25 : W.frozen? ⟨w.heap.size + 1, 5, none⟩ = false := frozen_of_row _ _ _ _ _ HX2.out
  have f26 : W.frozen? ⟨w.heap.size + 1, 6, none⟩ = false := frozen_of_row _ _ _ _ _ HX2.out
  cases bb with
  | false =>
    refine HF.out false (by unfold madeB; rw [HL.out]; rfl) rfl ?_
    clear hbb HF
    go_enter Try.func12, Try.ntmps12
    go_wp2_with (first | (go_at_call 18; refine (H18.out _ HB.out).mono ?_; rintro e u1 ⟨rfl, kk⟩; have K1 := hide kk; clear kk; have b10 : u1.cell? ⟨w.heap.size, 0, none⟩ = some (.int .i64 p.dims) := ((bcell K1.out).1 _ _ (lt_of_block HX1.out)).trans (cell_of_row _ _ _ _ _ _ HX1.out); have b11 : u1.cell? ⟨w.heap.size, 1, none⟩ = some (.int .i64 p.time.n) := ((bcell K1.out).1 _ _ (lt_of_block HX1.out)).trans (cell_of_row _ _ _ _ _ _ HX1.out); have b12 : u1.cell? ⟨w.heap.size, 2, none⟩ = some (.slice ta p.time.cells.length tc) := ((bcell K1.out).1 _ _ (lt_of_block HX1.out)).trans (cell_of_row _ _ _ _ _ _ HX1.out); have b13 : u1.cell? ⟨w.heap.size, 3, none⟩ = some (.int .i64 p.dist.n) := ((bcell K1.out).1 _ _ (lt_of_block HX1.out)).trans (cell_of_row _ _ _ _ _ _ HX1.out); have b14 : u1.cell? ⟨w.heap.size, 4, none⟩ = some (.slice da p.dist.cells.length dc) := ((bcell K1.out).1 _ _ (lt_of_block HX1.out)).trans (cell_of_row _ _ _ _ _ _ HX1.out); have b15 : u1.cell? ⟨w.heap.size, 5, none⟩ = some (.slice va' p.vs.length vc') := ((bcell K1.out).1 _ _ (lt_of_block HX1.out)).trans (cell_of_row _ _ _ _ _ _ HX1.out); have b16 : u1.cell? ⟨w.heap.size, 6, none⟩ = some (.slice ja p.js.length jc) := ((bcell K1.out).1 _ _ (lt_of_block HX1.out)).trans (cell_of_row _ _ _ _ _ _ HX1.out); have b17 : u1.cell? ⟨w.heap.size, 7, none⟩ = some (.slice sa p.ss.length sc) := ((bcell K1.out).1 _ _ (lt_of_block HX1.out)).trans (cell_of_row _ _ _ _ _ _ HX1.out); have b20 : u1.cell? ⟨w.heap.size + 1, 0, none⟩ = some (.int .i64 0) := ((bcell K1.out).1 _ _ (lt_of_block HX2.out)).trans (cell_of_row _ _ _ _ _ _ HX2.out); have b21 : u1.cell? ⟨w.heap.size + 1, 1, none⟩ = some (.slice none 0 0) := ((bcell K1.out).1 _ _ (lt_of_block HX2.out)).trans (cell_of_row _ _ _ _ _ _ HX2.out); have b22 : u1.cell? ⟨w.heap.size + 1, 2, none⟩ = some (.int .i64 0) := ((bcell K1.out).1 _ _ (lt_of_block HX2.out)).trans (cell_of_row _ _ _ _ _ _ HX2.out); have b23 : u1.cell? ⟨w.heap.size + 1, 3, none⟩ = some (.int .i64 0) := ((bcell K1.out).1 _ _ (lt_of_block HX2.out)).trans (cell_of_row _ _ _ _ _ _ HX2.out); have b24 : u1.cell? ⟨w.heap.size + 1, 4, none⟩ = some (.int .i64 0) := ((bcell K1.out).1 _ _ (lt_of_block HX2.out)).trans (cell_of_row _ _ _ _ _ _ HX2.out); have b25 : u1.cell? ⟨w.heap.size + 1, 5, none⟩ = some (.int .i64 0) := ((bcell K1.out).1 _ _ (lt_of_block HX2.out)).trans (cell_of_row _ _ _ _ _ _ HX2.out); have b26 : u1.cell? ⟨w.heap.size + 1, 6, none⟩ = some (.int .i64 0) := ((bcell K1.out).1 _ _ (lt_of_block HX2.out)).trans (cell_of_row _ _ _ _ _ _ HX2.out); have g20 : u1.frozen? ⟨w.heap.size + 1, 0, none⟩ = false := frozen_of_row _ _ _ _ _ ((K1.out.block _ (lt_of_block HX2.out)).trans HX2.out); have g21 : u1.frozen? ⟨w.heap.size + 1, 1, none⟩ = false := frozen_of_row _ _ _ _ _ ((K1.out.block _ (lt_of_block HX2.out)).trans HX2.out); have g22 : u1.frozen? ⟨w.heap.size + 1, 2, none⟩ = false := frozen_of_row _ _ _ _ _ ((K1.out.block _ (lt_of_block HX2.out)).trans HX2.out); have g23 : u1.frozen? ⟨w.heap.size + 1, 3, none⟩ = false := frozen_of_row _ _ _ _ _ ((K1.out.block _ (lt_of_block HX2.out)).trans HX2.out); have g24 : u1.frozen? ⟨w.heap.size + 1, 4, none⟩ = false := frozen_of_row _ _ _ _ _ ((K1.out.block _ (lt_of_block HX2.out)).trans HX2.out); have g25 : u1.frozen? ⟨w.heap.size + 1, 5, none⟩ = false := frozen_of_row _ _ _ _ _ ((K1.out.block _ (lt_of_block HX2.out)).trans HX2.out); have g26 : u1.frozen? ⟨w.heap.size + 1, 6, none⟩ = false := frozen_of_row _ _ _ _ _ ((K1.out.block _ (lt_of_block HX2.out)).trans HX2.out)) | fail)
    obtain ⟨Z, hZ, hz1, hz2⟩ := put7 (.int .i64 0) (.slice none 0 0) (.int .i64 0) (.int .i64 0) (.int .i64 0) (.int .i64 0) (.int .i64 0) ((K1.out.block _ (lt_of_block HX2.out)).trans HX2.out)
    rw [← hZ]
    clear hZ
    have cs : ∀ j, Z.cell? ⟨w.heap.size + 1, j, none⟩ = (#[.int .i64 0, .slice none 0 0, .int .i64 0, .int .i64 0, .int .i64 0, .int .i64 0, .int .i64 0] : Array Value)[j]? := fun j => cell_of_row _ _ _ _ _ _ hz1
    refine bodyPost_ret (v := .tuple #[.agg #[.int .i64 0, .slice none 0 0, .int .i64 0, .int .i64 0, .int .i64 0, .int .i64 0, .int .i64 0], .bool false]) ?_ rfl ⟨rfl, ?_⟩
    · simp [results, Try.results12, go_sem, cs]
    · exact (below_on HB.out K1.out).trans (grw_low hz2 (by omega) (below_on HB.out K1.out).size)
  | true =>
    by_cases hm1 : 30 < m
    · refine HF.out false (by unfold madeB; rw [decide_eq_false (show ¬ V.length ≤ 30 by omega), Bool.and_false]; rfl) rfl ?_
      clear hbb HF
      have y2 : (30 : Int) < (m : Int) := by omega
      have y3 : decide ((30 : Int) < (m : Int)) = true := decide_eq_true y2
      go_enter Try.func12, Try.ntmps12
      go_wp2_with (first | (go_at_call 18; refine (H18.out _ HB.out).mono ?_; rintro e u1 ⟨rfl, kk⟩; have K1 := hide kk; clear kk; have b10 : u1.cell? ⟨w.heap.size, 0, none⟩ = some (.int .i64 p.dims) := ((bcell K1.out).1 _ _ (lt_of_block HX1.out)).trans (cell_of_row _ _ _ _ _ _ HX1.out); have b11 : u1.cell? ⟨w.heap.size, 1, none⟩ = some (.int .i64 p.time.n) := ((bcell K1.out).1 _ _ (lt_of_block HX1.out)).trans (cell_of_row _ _ _ _ _ _ HX1.out); have b12 : u1.cell? ⟨w.heap.size, 2, none⟩ = some (.slice ta p.time.cells.length tc) := ((bcell K1.out).1 _ _ (lt_of_block HX1.out)).trans (cell_of_row _ _ _ _ _ _ HX1.out); have b13 : u1.cell? ⟨w.heap.size, 3, none⟩ = some (.int .i64 p.dist.n) := ((bcell K1.out).1 _ _ (lt_of_block HX1.out)).trans (cell_of_row _ _ _ _ _ _ HX1.out); have b14 : u1.cell? ⟨w.heap.size, 4, none⟩ = some (.slice da p.dist.cells.length dc) := ((bcell K1.out).1 _ _ (lt_of_block HX1.out)).trans (cell_of_row _ _ _ _ _ _ HX1.out); have b15 : u1.cell? ⟨w.heap.size, 5, none⟩ = some (.slice va' p.vs.length vc') := ((bcell K1.out).1 _ _ (lt_of_block HX1.out)).trans (cell_of_row _ _ _ _ _ _ HX1.out); have b16 : u1.cell? ⟨w.heap.size, 6, none⟩ = some (.slice ja p.js.length jc) := ((bcell K1.out).1 _ _ (lt_of_block HX1.out)).trans (cell_of_row _ _ _ _ _ _ HX1.out); have b17 : u1.cell? ⟨w.heap.size, 7, none⟩ = some (.slice sa p.ss.length sc) := ((bcell K1.out).1 _ _ (lt_of_block HX1.out)).trans (cell_of_row _ _ _ _ _ _ HX1.out); have b20 : u1.cell? ⟨w.heap.size + 1, 0, none⟩ = some (.int .i64 0) := ((bcell K1.out).1 _ _ (lt_of_block HX2.out)).trans (cell_of_row _ _ _ _ _ _ HX2.out); have b21 : u1.cell? ⟨w.heap.size + 1, 1, none⟩ = some (.slice none 0 0) := ((bcell K1.out).1 _ _ (lt_of_block HX2.out)).trans (cell_of_row _ _ _ _ _ _ HX2.out); have b22 : u1.cell? ⟨w.heap.size + 1, 2, none⟩ = some (.int .i64 0) := ((bcell K1.out).1 _ _ (lt_of_block HX2.out)).trans (cell_of_row _ _ _ _ _ _ HX2.out); have b23 : u1.cell? ⟨w.heap.size + 1, 3, none⟩ = some (.int .i64 0) := ((bcell K1.out).1 _ _ (lt_of_block HX2.out)).trans (cell_of_row _ _ _ _ _ _ HX2.out); have b24 : u1.cell? ⟨w.heap.size + 1, 4, none⟩ = some (.int .i64 0) := ((bcell K1.out).1 _ _ (lt_of_block HX2.out)).trans (cell_of_row _ _ _ _ _ _ HX2.out); have b25 : u1.cell? ⟨w.heap.size + 1, 5, none⟩ = some (.int .i64 0) := ((bcell K1.out).1 _ _ (lt_of_block HX2.out)).trans (cell_of_row _ _ _ _ _ _ HX2.out); have b26 : u1.cell? ⟨w.heap.size + 1, 6, none⟩ = some (.int .i64 0) := ((bcell K1.out).1 _ _ (lt_of_block HX2.out)).trans (cell_of_row _ _ _ _ _ _ HX2.out); have g20 : u1.frozen? ⟨w.heap.size + 1, 0, none⟩ = false := frozen_of_row _ _ _ _ _ ((K1.out.block _ (lt_of_block HX2.out)).trans HX2.out); have g21 : u1.frozen? ⟨w.heap.size + 1, 1, none⟩ = false := frozen_of_row _ _ _ _ _ ((K1.out.block _ (lt_of_block HX2.out)).trans HX2.out); have g22 : u1.frozen? ⟨w.heap.size + 1, 2, none⟩ = false := frozen_of_row _ _ _ _ _ ((K1.out.block _ (lt_of_block HX2.out)).trans HX2.out); have g23 : u1.frozen? ⟨w.heap.size + 1, 3, none⟩ = false := frozen_of_row _ _ _ _ _ ((K1.out.block _ (lt_of_block HX2.out)).trans HX2.out); have g24 : u1.frozen? ⟨w.heap.size + 1, 4, none⟩ = false := frozen_of_row _ _ _ _ _ ((K1.out.block _ (lt_of_block HX2.out)).trans HX2.out); have g25 : u1.frozen? ⟨w.heap.size + 1, 5, none⟩ = false := frozen_of_row _ _ _ _ _ ((K1.out.block _ (lt_of_block HX2.out)).trans HX2.out); have g26 : u1.frozen? ⟨w.heap.size + 1, 6, none⟩ = false := frozen_of_row _ _ _ _ _ ((K1.out.block _ (lt_of_block HX2.out)).trans HX2.out)) | fail)
      obtain ⟨Z, hZ, hz1, hz2⟩ := put7 (.int .i64 0) (.slice none 0 0) (.int .i64 0) (.int .i64 0) (.int .i64 0) (.int .i64 0) (.int .i64 0) ((K1.out.block _ (lt_of_block HX2.out)).trans HX2.out)
      rw [← hZ]
      clear hZ
      have cs : ∀ j, Z.cell? ⟨w.heap.size + 1, j, none⟩ = (#[.int .i64 0, .slice none 0 0, .int .i64 0, .int .i64 0, .int .i64 0, .int .i64 0, .int .i64 0] : Array Value)[j]? := fun j => cell_of_row _ _ _ _ _ _ hz1
      refine bodyPost_ret (v := .tuple #[.agg #[.int .i64 0, .slice none 0 0, .int .i64 0, .int .i64 0, .int .i64 0, .int .i64 0, .int .i64 0], .bool false]) ?_ rfl ⟨rfl, ?_⟩
      · simp [results, Try.results12, go_sem, cs]
      · exact (below_on HB.out K1.out).trans (grw_low hz2 (by omega) (below_on HB.out K1.out).size)
    · have y2 : ¬ (30 : Int) < (m : Int) := by omega
      obtain ⟨er, her⟩ : ∃ z, fitE p vi V = z := ⟨_, rfl⟩
      obtain ⟨pr, hpr⟩ : ∃ z, fitP p vi V = z := ⟨_, rfl⟩
      have hmd : madeB p vi V = decide (er = 0) := by unfold madeB; rw [HL.out, her, decide_eq_true (show V.length ≤ 30 by omega)]; rfl
      rw [hmd, hpr]
      have H34 : Hid (∀ W2, Below w.heap.size w W2 → Calls Try.prog 34 #[.agg #[.int .i64 p.dims, .int .i64 p.time.n, .slice ta p.time.cells.length tc, .int .i64 p.dist.n, .slice da p.dist.cells.length dc, .slice va' p.vs.length vc', .slice ja p.js.length jc, .slice sa p.ss.length sc], .int .i64 vi, .slice va m vc] W2 fun e w' => ∃ pa pn pc, e = .returned (.tuple #[.agg #[.int .i64 pr.veh, .slice pa pn pc, .int .i64 pr.time, .int .i64 pr.dist, .int .i64 pr.wait, .int .i64 pr.serv, .int .i64 pr.cost], .int .i64 er]) ∧ PlanW w' W2.heap.size (.agg #[.int .i64 pr.veh, .slice pa pn pc, .int .i64 pr.time, .int .i64 pr.dist, .int .i64 pr.wait, .int .i64 pr.serv, .int .i64 pr.cost]) pr ∧ Below W2.heap.size W2 w') := fun W2 hf => by
        have h9 := rfit_any' (vi := vi) (HP.out.on hf) HL.out (PrV.on HV.out hf) HM.out (by omega)
        rw [her, hpr] at h9
        refine h9.mono ?_
        rintro e w' ⟨u, rfl, hu, k9⟩
        obtain ⟨pa, pn, pc, ys, rfl, _, _⟩ := id hu
        exact ⟨pa, pn, pc, rfl, hu, k9⟩
      have HED : Hid ((er == 0) = decide (er = 0)) := by show _ = _; by_cases h : er = 0 <;> simp [h]
      clear hbb HF her hpr hmd
      go_enter Try.func12, Try.ntmps12
      go_upto_region 4 with (first | (go_at_call 34; refine (H34.out _ (below_on HB.out K1.out)).mono ?_; rintro e u2 ⟨pa, pn, pc, rfl, hpw, kk⟩; have K2 := hide (below_on K1.out kk); have HPW := hide hpw; have HU1 := hide K1.out.size; clear kk hpw b10 b11 b12 b13 b14 b15 b16 b17 b20 g20 b21 g21 b22 g22 b23 g23 b24 g24 b25 g25 b26 g26) | (go_at_call 18; refine (H18.out _ HB.out).mono ?_; rintro e u1 ⟨rfl, kk⟩; have K1 := hide kk; clear kk; have b10 : u1.cell? ⟨w.heap.size, 0, none⟩ = some (.int .i64 p.dims) := ((bcell K1.out).1 _ _ (lt_of_block HX1.out)).trans (cell_of_row _ _ _ _ _ _ HX1.out); have b11 : u1.cell? ⟨w.heap.size, 1, none⟩ = some (.int .i64 p.time.n) := ((bcell K1.out).1 _ _ (lt_of_block HX1.out)).trans (cell_of_row _ _ _ _ _ _ HX1.out); have b12 : u1.cell? ⟨w.heap.size, 2, none⟩ = some (.slice ta p.time.cells.length tc) := ((bcell K1.out).1 _ _ (lt_of_block HX1.out)).trans (cell_of_row _ _ _ _ _ _ HX1.out); have b13 : u1.cell? ⟨w.heap.size, 3, none⟩ = some (.int .i64 p.dist.n) := ((bcell K1.out).1 _ _ (lt_of_block HX1.out)).trans (cell_of_row _ _ _ _ _ _ HX1.out); have b14 : u1.cell? ⟨w.heap.size, 4, none⟩ = some (.slice da p.dist.cells.length dc) := ((bcell K1.out).1 _ _ (lt_of_block HX1.out)).trans (cell_of_row _ _ _ _ _ _ HX1.out); have b15 : u1.cell? ⟨w.heap.size, 5, none⟩ = some (.slice va' p.vs.length vc') := ((bcell K1.out).1 _ _ (lt_of_block HX1.out)).trans (cell_of_row _ _ _ _ _ _ HX1.out); have b16 : u1.cell? ⟨w.heap.size, 6, none⟩ = some (.slice ja p.js.length jc) := ((bcell K1.out).1 _ _ (lt_of_block HX1.out)).trans (cell_of_row _ _ _ _ _ _ HX1.out); have b17 : u1.cell? ⟨w.heap.size, 7, none⟩ = some (.slice sa p.ss.length sc) := ((bcell K1.out).1 _ _ (lt_of_block HX1.out)).trans (cell_of_row _ _ _ _ _ _ HX1.out); have b20 : u1.cell? ⟨w.heap.size + 1, 0, none⟩ = some (.int .i64 0) := ((bcell K1.out).1 _ _ (lt_of_block HX2.out)).trans (cell_of_row _ _ _ _ _ _ HX2.out); have b21 : u1.cell? ⟨w.heap.size + 1, 1, none⟩ = some (.slice none 0 0) := ((bcell K1.out).1 _ _ (lt_of_block HX2.out)).trans (cell_of_row _ _ _ _ _ _ HX2.out); have b22 : u1.cell? ⟨w.heap.size + 1, 2, none⟩ = some (.int .i64 0) := ((bcell K1.out).1 _ _ (lt_of_block HX2.out)).trans (cell_of_row _ _ _ _ _ _ HX2.out); have b23 : u1.cell? ⟨w.heap.size + 1, 3, none⟩ = some (.int .i64 0) := ((bcell K1.out).1 _ _ (lt_of_block HX2.out)).trans (cell_of_row _ _ _ _ _ _ HX2.out); have b24 : u1.cell? ⟨w.heap.size + 1, 4, none⟩ = some (.int .i64 0) := ((bcell K1.out).1 _ _ (lt_of_block HX2.out)).trans (cell_of_row _ _ _ _ _ _ HX2.out); have b25 : u1.cell? ⟨w.heap.size + 1, 5, none⟩ = some (.int .i64 0) := ((bcell K1.out).1 _ _ (lt_of_block HX2.out)).trans (cell_of_row _ _ _ _ _ _ HX2.out); have b26 : u1.cell? ⟨w.heap.size + 1, 6, none⟩ = some (.int .i64 0) := ((bcell K1.out).1 _ _ (lt_of_block HX2.out)).trans (cell_of_row _ _ _ _ _ _ HX2.out); have g20 : u1.frozen? ⟨w.heap.size + 1, 0, none⟩ = false := frozen_of_row _ _ _ _ _ ((K1.out.block _ (lt_of_block HX2.out)).trans HX2.out); have g21 : u1.frozen? ⟨w.heap.size + 1, 1, none⟩ = false := frozen_of_row _ _ _ _ _ ((K1.out.block _ (lt_of_block HX2.out)).trans HX2.out); have g22 : u1.frozen? ⟨w.heap.size + 1, 2, none⟩ = false := frozen_of_row _ _ _ _ _ ((K1.out.block _ (lt_of_block HX2.out)).trans HX2.out); have g23 : u1.frozen? ⟨w.heap.size + 1, 3, none⟩ = false := frozen_of_row _ _ _ _ _ ((K1.out.block _ (lt_of_block HX2.out)).trans HX2.out); have g24 : u1.frozen? ⟨w.heap.size + 1, 4, none⟩ = false := frozen_of_row _ _ _ _ _ ((K1.out.block _ (lt_of_block HX2.out)).trans HX2.out); have g25 : u1.frozen? ⟨w.heap.size + 1, 5, none⟩ = false := frozen_of_row _ _ _ _ _ ((K1.out.block _ (lt_of_block HX2.out)).trans HX2.out); have g26 : u1.frozen? ⟨w.heap.size + 1, 6, none⟩ = false := frozen_of_row _ _ _ _ _ ((K1.out.block _ (lt_of_block HX2.out)).trans HX2.out)) | fail)
      obtain ⟨u3, hu3⟩ : ∃ z, u2.alloc (.cells #[.int .i64 pr.veh, .slice pa pn pc, .int .i64 pr.time, .int .i64 pr.dist, .int .i64 pr.wait, .int .i64 pr.serv, .int .i64 pr.cost] 34) = z := ⟨_, rfl⟩
      rw [hu3]
      have HX8 : Hid (u3.heap[u2.heap.size]? = some (.cells #[.int .i64 pr.veh, .slice pa pn pc, .int .i64 pr.time, .int .i64 pr.dist, .int .i64 pr.wait, .int .i64 pr.serv, .int .i64 pr.cost] 34 (0, 0))) := by show _ = _; rw [← hu3]; exact new_block _ _
      have K3 : Hid (Below W.heap.size W u3) := by show Below _ _ _; rw [← hu3]; exact below_on K2.out ((Below.refl _ _).alloc (Nat.le_refl _) _)
      have HPW3 : Hid (PlanW u3 u1.heap.size (.agg #[.int .i64 pr.veh, .slice pa pn pc, .int .i64 pr.time, .int .i64 pr.dist, .int .i64 pr.wait, .int .i64 pr.serv, .int .i64 pr.cost]) pr) := by rw [← hu3]; exact HPW.out.on ((Below.refl _ _).alloc (Nat.le_refl _) _)
      have q30 : u3.cell? ⟨u2.heap.size, 0, none⟩ = some (.int .i64 pr.veh) := cell_of_row _ _ _ _ _ _ HX8.out
      have q31 : u3.cell? ⟨u2.heap.size, 1, none⟩ = some (.slice pa pn pc) := cell_of_row _ _ _ _ _ _ HX8.out
      have q32 : u3.cell? ⟨u2.heap.size, 2, none⟩ = some (.int .i64 pr.time) := cell_of_row _ _ _ _ _ _ HX8.out
      have q33 : u3.cell? ⟨u2.heap.size, 3, none⟩ = some (.int .i64 pr.dist) := cell_of_row _ _ _ _ _ _ HX8.out
      have q34 : u3.cell? ⟨u2.heap.size, 4, none⟩ = some (.int .i64 pr.wait) := cell_of_row _ _ _ _ _ _ HX8.out
      have q35 : u3.cell? ⟨u2.heap.size, 5, none⟩ = some (.int .i64 pr.serv) := cell_of_row _ _ _ _ _ _ HX8.out
      have q36 : u3.cell? ⟨u2.heap.size, 6, none⟩ = some (.int .i64 pr.cost) := cell_of_row _ _ _ _ _ _ HX8.out
      have b20 : u3.cell? ⟨w.heap.size + 1, 0, none⟩ = some (.int .i64 0) := ((bcell K3.out).1 _ _ (lt_of_block HX2.out)).trans (cell_of_row _ _ _ _ _ _ HX2.out)
      have b21 : u3.cell? ⟨w.heap.size + 1, 1, none⟩ = some (.slice none 0 0) := ((bcell K3.out).1 _ _ (lt_of_block HX2.out)).trans (cell_of_row _ _ _ _ _ _ HX2.out)
      have b22 : u3.cell? ⟨w.heap.size + 1, 2, none⟩ = some (.int .i64 0) := ((bcell K3.out).1 _ _ (lt_of_block HX2.out)).trans (cell_of_row _ _ _ _ _ _ HX2.out)
      have b23 : u3.cell? ⟨w.heap.size + 1, 3, none⟩ = some (.int .i64 0) := ((bcell K3.out).1 _ _ (lt_of_block HX2.out)).trans (cell_of_row _ _ _ _ _ _ HX2.out)
      have b24 : u3.cell? ⟨w.heap.size + 1, 4, none⟩ = some (.int .i64 0) := ((bcell K3.out).1 _ _ (lt_of_block HX2.out)).trans (cell_of_row _ _ _ _ _ _ HX2.out)
      have b25 : u3.cell? ⟨w.heap.size + 1, 5, none⟩ = some (.int .i64 0) := ((bcell K3.out).1 _ _ (lt_of_block HX2.out)).trans (cell_of_row _ _ _ _ _ _ HX2.out)
      have b26 : u3.cell? ⟨w.heap.size + 1, 6, none⟩ = some (.int .i64 0) := ((bcell K3.out).1 _ _ (lt_of_block HX2.out)).trans (cell_of_row _ _ _ _ _ _ HX2.out)
      have g20 : u3.frozen? ⟨w.heap.size + 1, 0, none⟩ = false := frozen_of_row _ _ _ _ _ ((K3.out.block _ (lt_of_block HX2.out)).trans HX2.out)
      have g21 : u3.frozen? ⟨w.heap.size + 1, 1, none⟩ = false := frozen_of_row _ _ _ _ _ ((K3.out.block _ (lt_of_block HX2.out)).trans HX2.out)
      have g22 : u3.frozen? ⟨w.heap.size + 1, 2, none⟩ = false := frozen_of_row _ _ _ _ _ ((K3.out.block _ (lt_of_block HX2.out)).trans HX2.out)
      have g23 : u3.frozen? ⟨w.heap.size + 1, 3, none⟩ = false := frozen_of_row _ _ _ _ _ ((K3.out.block _ (lt_of_block HX2.out)).trans HX2.out)
      have g24 : u3.frozen? ⟨w.heap.size + 1, 4, none⟩ = false := frozen_of_row _ _ _ _ _ ((K3.out.block _ (lt_of_block HX2.out)).trans HX2.out)
      have g25 : u3.frozen? ⟨w.heap.size + 1, 5, none⟩ = false := frozen_of_row _ _ _ _ _ ((K3.out.block _ (lt_of_block HX2.out)).trans HX2.out)
      have g26 : u3.frozen? ⟨w.heap.size + 1, 6, none⟩ = false := frozen_of_row _ _ _ _ _ ((K3.out.block _ (lt_of_block HX2.out)).trans HX2.out)
      have hw1 : w.heap.size + 1 < u1.heap.size := by have h1 := lt_of_block HX2.out; have h2 := HU1.out; omega
      have HW1 := hide hw1
      clear hu3 hw1
      go_wp2_with fail
      obtain ⟨Z, hZ, hz1, hz2⟩ := put7 (.int .i64 pr.veh) (.slice pa pn pc) (.int .i64 pr.time) (.int .i64 pr.dist) (.int .i64 pr.wait) (.int .i64 pr.serv) (.int .i64 pr.cost) ((K3.out.block _ (lt_of_block HX2.out)).trans HX2.out)
      rw [← hZ]
      clear hZ
      have cs : ∀ j, Z.cell? ⟨w.heap.size + 1, j, none⟩ = (#[.int .i64 pr.veh, .slice pa pn pc, .int .i64 pr.time, .int .i64 pr.dist, .int .i64 pr.wait, .int .i64 pr.serv, .int .i64 pr.cost] : Array Value)[j]? := fun j => cell_of_row _ _ _ _ _ _ hz1
      refine bodyPost_ret (v := .tuple #[.agg #[.int .i64 pr.veh, .slice pa pn pc, .int .i64 pr.time, .int .i64 pr.dist, .int .i64 pr.wait, .int .i64 pr.serv, .int .i64 pr.cost], .bool (decide (er = 0))]) ?_ rfl ⟨_, pr, rfl, ?_, fun _ => rfl, ?_⟩
      · (first | simp [results, Try.results12, go_sem, cs, HED.out] | simp [results, Try.results12, go_sem, cs])
      · exact PlanW.base (PlanW.grw HPW3.out HW1.out hz2) (below_on HB.out (Below.trans (Below.refl _ _) K1.out)).size
      · exact (below_on HB.out K3.out).trans (grw_low hz2 (by omega) (below_on HB.out K3.out).size)
end Go.Proofs.Ytndbikoccdjafaa
