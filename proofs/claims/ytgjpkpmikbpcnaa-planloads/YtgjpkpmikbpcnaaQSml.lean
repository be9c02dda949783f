/-
  What the calls of small and able of a tour do.
-/
import Derived.Test.YtgjpkpmikbpcnaaQTrAG
namespace Go.Proofs.Ytgjpkpmikbpcnaa
open Go.RowKit
set_option maxRecDepth 100000 in
set_option maxHeartbeats 6400000 in
theorem small_any {w : World} {x : PrbS} {p : Prb} {k m vc : Nat} {va : Option Addr} {V : List Vst} (h : PrbV w x p) (hl : lawM p = true) (hk : k < p.vs.length) (hV : VsV w (.slice va m vc) V) (hm : V.length = m) (hm3 : m ≤ 100) : Calls Try.prog 101 #[.agg (tourE p x k (.slice va m vc))] w fun e w' => e = .returned (.bool (smallM (p.vs.getD k vz) V)) ∧ Below w.heap.size w w' := by
  have HL := hide hl
  clear hl
  obtain ⟨ca, cc, ba, bc, hcar⟩ := h.car hk
  have HCAR := hide hcar
  clear hcar
  have HB0 : Hid (∀ A, Below w.heap.size w (w.alloc A)) := fun A => (Below.refl _ _).alloc (Nat.le_refl _) A
  have HP := hide h
  have HV := hide hV
  have HM := hide hm
  have hmb : m * 16 ≤ 140737488351232 := by obtain ⟨_, _, e, hb, _⟩ := hV; rw [← hm]; exact hb
  clear hV hm
  obtain ⟨ta, tc, da, dc, va', vc', ja, jc, sa, sc, rfl⟩ := h.open
  clear h
  have HTE : Hid (tourE p ⟨.slice ta p.time.cells.length tc, .slice da p.dist.cells.length dc, .slice va' p.vs.length vc', .slice ja p.js.length jc, .slice sa p.ss.length sc⟩ k (.slice va m vc) = #[.int .i64 p.dims, .int .i64 p.time.n, .slice ta p.time.cells.length tc, .int .i64 p.dist.n, .slice da p.dist.cells.length dc, .slice va' p.vs.length vc', .slice ja p.js.length jc, .slice sa p.ss.length sc, .int .i64 k, .slice va m vc]) := rfl
  rw [HTE.out]
  obtain ⟨W, hW⟩ : ∃ W, W = w.alloc (.cells #[.int .i64 p.dims, .int .i64 p.time.n, .slice ta p.time.cells.length tc, .int .i64 p.dist.n, .slice da p.dist.cells.length dc, .slice va' p.vs.length vc', .slice ja p.js.length jc, .slice sa p.ss.length sc, .int .i64 k, .slice va m vc] 121) := ⟨_, rfl⟩
  have HBW : Hid (Below w.heap.size w W) := by rw [hW]; exact HB0.out _
  have HLW : Hid (w.heap.size < W.heap.size) := by show _ < _; rw [hW]; simp
  have HC : Hid (∀ j, W.cell? ⟨w.heap.size, j, none⟩ = (#[.int .i64 p.dims, .int .i64 p.time.n, .slice ta p.time.cells.length tc, .int .i64 p.dist.n, .slice da p.dist.cells.length dc, .slice va' p.vs.length vc', .slice ja p.js.length jc, .slice sa p.ss.length sc, .int .i64 k, .slice va m vc] : Array Value)[j]?) := fun j => by rw [hW]; exact cell_of_row _ _ _ _ _ _ (heap_alloc_new w _)
  have H123 : Hid (∀ W2, Below w.heap.size w W2 → Calls Try.prog 123 #[.agg #[.int .i64 p.dims, .int .i64 p.time.n, .slice ta p.time.cells.length tc, .int .i64 p.dist.n, .slice da p.dist.cells.length dc, .slice va' p.vs.length vc', .slice ja p.js.length jc, .slice sa p.ss.length sc, .int .i64 k, .slice va m vc]] W2 fun e w' => ∃ v, e = .returned v ∧ TRow w' W2.heap.size v (tasksV V) ∧ Below W2.heap.size W2 w') := fun W2 hf => by have h9 := tasksT_any (k := k) (va := va) (m := m) (vc := vc) (HP.out.on hf) (PrV.on HV.out hf) HM.out hm3; exact h9
  have H74 : Hid (∀ W2, Below w.heap.size w W2 → Calls Try.prog 74 #[.agg #[.int .i64 p.dims, .int .i64 p.time.n, .slice ta p.time.cells.length tc, .int .i64 p.dist.n, .slice da p.dist.cells.length dc, .slice va' p.vs.length vc', .slice ja p.js.length jc, .slice sa p.ss.length sc, .int .i64 k, .slice va m vc]] W2 fun e w' => e = .returned (.agg (vehA (p.vs.getD k vz) (.slice ca (p.vs.getD k vz).cap.length cc) (.slice ba (p.vs.getD k vz).brks.length bc))) ∧ Below W2.heap.size W2 w') := fun W2 hf => by have h9 := car_at (va := va) (m := m) (vc := vc) (HP.out.on hf) (HCAR.out.on hf); exact h9
  obtain ⟨v1, hv1⟩ : ∃ v1, p.vs.getD k vz = v1 := ⟨_, rfl⟩
  have HV1 := hide hv1
  rw [hv1] at H74
  clear hv1
  rw [HV1.out]
  unfold smallM
  obtain ⟨n, hn⟩ : ∃ n, (tasksV V).length = n := ⟨_, rfl⟩
  have hnb : n ≤ 100 := by have := tasksV_le V; have := HM.out; omega
  have HN := hide hn
  rw [hn]
  clear hn
  have hfd8 : ∀ X, (Instr.field 86 (.agg (vehA v1 (.slice ca v1.cap.length cc) (.slice ba v1.brks.length bc))) 8).run Try.prog X = .ok (.int .i64 v1.maxT) X := fun X => by kernel_rfl
  go_enter Try.func101, Try.ntmps101
  go_wp2_with fail
  rw [← hW]
  clear hW
  have b0 : W.cell? ⟨w.heap.size, 0, none⟩ = some (.int .i64 p.dims) := ((bcell (Below.refl _ _)).1 _ 0 HLW.out).trans (HC.out 0)
  have b1 : W.cell? ⟨w.heap.size, 1, none⟩ = some (.int .i64 p.time.n) := ((bcell (Below.refl _ _)).1 _ 1 HLW.out).trans (HC.out 1)
  have b2 : W.cell? ⟨w.heap.size, 2, none⟩ = some (.slice ta p.time.cells.length tc) := ((bcell (Below.refl _ _)).1 _ 2 HLW.out).trans (HC.out 2)
  have b3 : W.cell? ⟨w.heap.size, 3, none⟩ = some (.int .i64 p.dist.n) := ((bcell (Below.refl _ _)).1 _ 3 HLW.out).trans (HC.out 3)
  have b4 : W.cell? ⟨w.heap.size, 4, none⟩ = some (.slice da p.dist.cells.length dc) := ((bcell (Below.refl _ _)).1 _ 4 HLW.out).trans (HC.out 4)
  have b5 : W.cell? ⟨w.heap.size, 5, none⟩ = some (.slice va' p.vs.length vc') := ((bcell (Below.refl _ _)).1 _ 5 HLW.out).trans (HC.out 5)
  have b6 : W.cell? ⟨w.heap.size, 6, none⟩ = some (.slice ja p.js.length jc) := ((bcell (Below.refl _ _)).1 _ 6 HLW.out).trans (HC.out 6)
  have b7 : W.cell? ⟨w.heap.size, 7, none⟩ = some (.slice sa p.ss.length sc) := ((bcell (Below.refl _ _)).1 _ 7 HLW.out).trans (HC.out 7)
  have b8 : W.cell? ⟨w.heap.size, 8, none⟩ = some (.int .i64 k) := ((bcell (Below.refl _ _)).1 _ 8 HLW.out).trans (HC.out 8)
  have b9 : W.cell? ⟨w.heap.size, 9, none⟩ = some (.slice va m vc) := ((bcell (Below.refl _ _)).1 _ 9 HLW.out).trans (HC.out 9)
  first | (go_region_held3 (fun w' => w'.cell? ⟨w.heap.size, 0, none⟩ = some (.int .i64 p.dims) ∧ w'.cell? ⟨w.heap.size, 1, none⟩ = some (.int .i64 p.time.n) ∧ w'.cell? ⟨w.heap.size, 2, none⟩ = some (.slice ta p.time.cells.length tc) ∧ w'.cell? ⟨w.heap.size, 3, none⟩ = some (.int .i64 p.dist.n) ∧ w'.cell? ⟨w.heap.size, 4, none⟩ = some (.slice da p.dist.cells.length dc) ∧ w'.cell? ⟨w.heap.size, 5, none⟩ = some (.slice va' p.vs.length vc') ∧ w'.cell? ⟨w.heap.size, 6, none⟩ = some (.slice ja p.js.length jc) ∧ w'.cell? ⟨w.heap.size, 7, none⟩ = some (.slice sa p.ss.length sc) ∧ w'.cell? ⟨w.heap.size, 8, none⟩ = some (.int .i64 k) ∧ w'.cell? ⟨w.heap.size, 9, none⟩ = some (.slice va m vc)) (go_keep) (first | (go_at_call 123; refine (H123.out _ (below_on HBW.out (Below.refl _ _).drew)).mono ?_; rintro e w1 ⟨sv, rfl, Q1, k1⟩; obtain ⟨sA, sC, rfl⟩ := TRow.shape Q1; rw [HN.out]; have E1 := hide (below_on ((Below.refl _ _).drew) k1); have c0 : w1.cell? ⟨w.heap.size, 0, none⟩ = some (.int .i64 p.dims) := ((bcell E1.out).1 _ 0 HLW.out).trans (HC.out 0); have c1 : w1.cell? ⟨w.heap.size, 1, none⟩ = some (.int .i64 p.time.n) := ((bcell E1.out).1 _ 1 HLW.out).trans (HC.out 1); have c2 : w1.cell? ⟨w.heap.size, 2, none⟩ = some (.slice ta p.time.cells.length tc) := ((bcell E1.out).1 _ 2 HLW.out).trans (HC.out 2); have c3 : w1.cell? ⟨w.heap.size, 3, none⟩ = some (.int .i64 p.dist.n) := ((bcell E1.out).1 _ 3 HLW.out).trans (HC.out 3); have c4 : w1.cell? ⟨w.heap.size, 4, none⟩ = some (.slice da p.dist.cells.length dc) := ((bcell E1.out).1 _ 4 HLW.out).trans (HC.out 4); have c5 : w1.cell? ⟨w.heap.size, 5, none⟩ = some (.slice va' p.vs.length vc') := ((bcell E1.out).1 _ 5 HLW.out).trans (HC.out 5); have c6 : w1.cell? ⟨w.heap.size, 6, none⟩ = some (.slice ja p.js.length jc) := ((bcell E1.out).1 _ 6 HLW.out).trans (HC.out 6); have c7 : w1.cell? ⟨w.heap.size, 7, none⟩ = some (.slice sa p.ss.length sc) := ((bcell E1.out).1 _ 7 HLW.out).trans (HC.out 7); have c8 : w1.cell? ⟨w.heap.size, 8, none⟩ = some (.int .i64 k) := ((bcell E1.out).1 _ 8 HLW.out).trans (HC.out 8); have c9 : w1.cell? ⟨w.heap.size, 9, none⟩ = some (.slice va m vc) := ((bcell E1.out).1 _ 9 HLW.out).trans (HC.out 9); clear k1 Q1) | (go_at_call 74; refine (H74.out _ (below_on HBW.out E1.out)).mono ?_; rintro e w2 ⟨rfl, k2⟩; have E2 := hide (below_on E1.out k2); have d0 : w2.cell? ⟨w.heap.size, 0, none⟩ = some (.int .i64 p.dims) := ((bcell E2.out).1 _ 0 HLW.out).trans (HC.out 0); have d1 : w2.cell? ⟨w.heap.size, 1, none⟩ = some (.int .i64 p.time.n) := ((bcell E2.out).1 _ 1 HLW.out).trans (HC.out 1); have d2 : w2.cell? ⟨w.heap.size, 2, none⟩ = some (.slice ta p.time.cells.length tc) := ((bcell E2.out).1 _ 2 HLW.out).trans (HC.out 2); have d3 : w2.cell? ⟨w.heap.size, 3, none⟩ = some (.int .i64 p.dist.n) := ((bcell E2.out).1 _ 3 HLW.out).trans (HC.out 3); have d4 : w2.cell? ⟨w.heap.size, 4, none⟩ = some (.slice da p.dist.cells.length dc) := ((bcell E2.out).1 _ 4 HLW.out).trans (HC.out 4); have d5 : w2.cell? ⟨w.heap.size, 5, none⟩ = some (.slice va' p.vs.length vc') := ((bcell E2.out).1 _ 5 HLW.out).trans (HC.out 5); have d6 : w2.cell? ⟨w.heap.size, 6, none⟩ = some (.slice ja p.js.length jc) := ((bcell E2.out).1 _ 6 HLW.out).trans (HC.out 6); have d7 : w2.cell? ⟨w.heap.size, 7, none⟩ = some (.slice sa p.ss.length sc) := ((bcell E2.out).1 _ 7 HLW.out).trans (HC.out 7); have d8 : w2.cell? ⟨w.heap.size, 8, none⟩ = some (.int .i64 k) := ((bcell E2.out).1 _ 8 HLW.out).trans (HC.out 8); have d9 : w2.cell? ⟨w.heap.size, 9, none⟩ = some (.slice va m vc) := ((bcell E2.out).1 _ 9 HLW.out).trans (HC.out 9); clear k2) | fail)) | fail
  rename_i hHeld
  clear hHeld
  go_wp2_with fail
  go_ret
  exact ⟨rfl, below_on HBW.out E2.out⟩
end Go.Proofs.Ytgjpkpmikbpcnaa
