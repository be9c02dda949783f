/-
  What the calls of linked and timely of a tour do.
-/
import Derived.Test.YtgjpkpmikbpcnaaQTrAG
namespace Go.Proofs.Ytgjpkpmikbpcnaa
open Go.RowKit
set_option maxRecDepth 100000 in
set_option maxHeartbeats 6400000 in
theorem linked_any {w : World} {x : PrbS} {p : Prb} {k m vc : Nat} {va : Option Addr} {V : List Vst} (h : PrbV w x p) (hl : lawM p = true) (hk : k < p.vs.length) (hV : VsV w (.slice va m vc) V) (hm : V.length = m) (hm2 : m ≤ 110) (hbr : ∀ u ∈ V, u.1 = 4 → ∃ j : Nat, u.2 = j ∧ j < (p.vs.getD k vz).brks.length) : Calls Try.prog 103 #[.agg (tourE p x k (.slice va m vc))] w fun e w' => e = .returned (.bool (linkedM p (stopsM p (p.vs.getD k vz) V))) ∧ Below w.heap.size w w' := by
  have HL := hide hl
  have HW := hide (ways_ok hl)
  have HBR := hide hbr
  clear hl hbr
  have HB0 : Hid (∀ A, Below w.heap.size w (w.alloc A)) := fun A => (Below.refl _ _).alloc (Nat.le_refl _) A
  have HP := hide h
  have HV := hide hV
  have HM := hide hm
  have hmb : m * 16 ≤ 140737488351232 := by obtain ⟨_, _, e, hb, _⟩ := hV; rw [← hm]; exact hb
  clear hV hm
  obtain ⟨ta, tc, da, dc, va', vc', ja, jc, sa, sc, rfl⟩ := h.open
  clear h
  have HTE : Hid (tourE p ⟨.slice ta p.time.cells.length tc, .slice da p.dist.cells.length dc, .slice va' p.vs.length vc', .slice ja p.js.length jc, .slice sa p.ss.length sc⟩ k (.slice va m vc) = #[.int .i64 p.dims, .int .i64 p.time.n, .slice ta p.time.cells.length tc, .int .i64 p.dist.n, .slice da p.dist.cells.length dc, .slice va' p.vs.length vc', .slice ja p.js.length jc, .slice sa p.ss.length sc, .int .i64 k, .slice va m vc]) := rfl
  rw [HTE.out]
  obtain ⟨W, hW⟩ : ∃ W, W = w.alloc (.cells #[.int .i64 p.dims, .int .i64 p.time.n, .slice ta p.time.cells.length tc, .int .i64 p.dist.n, .slice da p.dist.cells.length dc, .slice va' p.vs.length vc', .slice ja p.js.length jc, .slice sa p.ss.length sc, .int .i64 k, .slice va m vc] 121) := ⟨_, rfl⟩
  have HBW : Hid (Below w.heap.size w W) := by rw [hW]; exact HB0.out _
  have HLW : Hid (w.heap.size < W.heap.size) := by show _ < _; rw [hW]; simp
  have HC : Hid (∀ j, W.cell? ⟨w.heap.size, j, none⟩ = (#[.int .i64 p.dims, .int .i64 p.time.n, .slice ta p.time.cells.length tc, .int .i64 p.dist.n, .slice da p.dist.cells.length dc, .slice va' p.vs.length vc', .slice ja p.js.length jc, .slice sa p.ss.length sc, .int .i64 k, .slice va m vc] : Array Value)[j]?) := fun j => by rw [hW]; exact cell_of_row _ _ _ _ _ _ (heap_alloc_new w _)
  have H75 : Hid (∀ W2, Below w.heap.size w W2 → Calls Try.prog 75 #[.agg #[.int .i64 p.dims, .int .i64 p.time.n, .slice ta p.time.cells.length tc, .int .i64 p.dist.n, .slice da p.dist.cells.length dc, .slice va' p.vs.length vc', .slice ja p.js.length jc, .slice sa p.ss.length sc, .int .i64 k, .slice va m vc]] W2 fun e w' => ∃ v, e = .returned v ∧ StpsV w' v (stopsM p (p.vs.getD k vz) V) ∧ Below W2.heap.size W2 w') := fun W2 hf => by have h9 := stops_any (va := va) (m := m) (vc := vc) (HP.out.on hf) HL.out hk (PrV.on HV.out hf) HM.out hm2 HBR.out; exact h9
  obtain ⟨S, hS⟩ : ∃ S, (stopsM p (p.vs.getD k vz) V) = S := ⟨_, rfl⟩
  obtain ⟨nS, hnS⟩ : ∃ n, m + 2 = n := ⟨_, rfl⟩
  have HSN : Hid (S.length = nS) := by show _ = _; rw [← hS, stopsM_len, HM.out]; exact hnS
  have HNS := hide hnS
  have hnb : nS ≤ 112 := by omega
  clear hnS
  rw [hS] at H75 ⊢
  clear hS
  go_enter Try.func103, Try.ntmps103
  go_wp2_with fail
  rw [← hW]
  clear hW
  have b0 : W.cell? ⟨w.heap.size, 0, none⟩ = some (.int .i64 p.dims) := ((bcell (Below.refl _ _)).1 _ 0 HLW.out).trans (HC.out 0)
  have b1 : W.cell? ⟨w.heap.size, 1, none⟩ = some (.int .i64 p.time.n) := ((bcell (Below.refl _ _)).1 _ 1 HLW.out).trans (HC.out 1)
  have b2 : W.cell? ⟨w.heap.size, 2, none⟩ = some (.slice ta p.time.cells.length tc) := ((bcell (Below.refl _ _)).1 _ 2 HLW.out).trans (HC.out 2)
  have b3 : W.cell? ⟨w.heap.size, 3, none⟩ = some (.int .i64 p.dist.n) := ((bcell (Below.refl _ _)).1 _ 3 HLW.out).trans (HC.out 3)
  have b4 : W.cell? ⟨w.heap.size, 4, none⟩ = some (.slice da p.dist.cells.length dc) := ((bcell (Below.refl _ _)).1 _ 4 HLW.out).trans (HC.out 4)
  have b5 : W.cell? ⟨w.heap.size, 5, none⟩ = some (.slice va' p.vs.length vc') := ((bcell (Below.refl _ _)).1 _ 5 HLW.out).trans (HC.out 5)
  have b6 : W.cell? ⟨w.heap.size, 6, none⟩ = some (.slice ja p.js.length jc) := ((bcell (Below.refl _ _)).1 _ 6 HLW.out).trans (HC.out 6)
  have b7 : W.cell? ⟨w.heap.size, 7, none⟩ = some (.slice sa p.ss.length sc) := ((bcell (Below.refl _ _)).1 _ 7 HLW.out).trans (HC.out 7)
  have b8 : W.cell? ⟨w.heap.size, 8, none⟩ = some (.int .i64 k) := ((bcell (Below.refl _ _)).1 _ 8 HLW.out).trans (HC.out 8)
  have b9 : W.cell? ⟨w.heap.size, 9, none⟩ = some (.slice va m vc) := ((bcell (Below.refl _ _)).1 _ 9 HLW.out).trans (HC.out 9)
  go_wp2_with (first | (go_at_call 75; refine (H75.out _ HBW.out).mono ?_; rintro e w1 ⟨sv, rfl, Q1, k1⟩; obtain ⟨sA, sC, rfl⟩ := SlV.shape Q1; rw [HSN.out] at Q1 ⊢; have HST := hide Q1; have E1 := hide k1; clear k1 Q1) | fail)
  clear b0 b1 b2 b3 b4 b5 b6 b7 b8 b9
  have H107t : Hid (∀ W2 (i : Nat), Below w.heap.size w W2 → StpsV W2 (.slice sA nS sC) S → i < S.length → Calls Try.prog 107 #[.agg #[.int .i64 p.time.n, .slice ta p.time.cells.length tc], .slice sA nS sC, .int .i64 (i : Int)] W2 fun e w' => e = .returned (.int .i64 (travelM p.time S i)) ∧ Below W2.heap.size W2 w') := fun W2 i hf hs hi => by have h9 := travel_at (HP.out.t.on hf) HW.out.st hs hi; exact h9
  have H107d : Hid (∀ W2 (i : Nat), Below w.heap.size w W2 → StpsV W2 (.slice sA nS sC) S → i < S.length → Calls Try.prog 107 #[.agg #[.int .i64 p.dist.n, .slice da p.dist.cells.length dc], .slice sA nS sC, .int .i64 (i : Int)] W2 fun e w' => e = .returned (.int .i64 (travelM p.dist S i)) ∧ Below W2.heap.size W2 w') := fun W2 i hf hs hi => by have h9 := travel_at (HP.out.d.on hf) HW.out.sd hs hi; exact h9
  go_loopw [9] (fun vi wr => ∃ q : Nat, vi = .int .i64 q ∧ q ≤ nS ∧ Hid (∀ i, i < q → (decide (0 ≤ travelM p.time S i) && decide (0 ≤ travelM p.dist S i)) = true) ∧ Hid (Below w1.heap.size w1 wr)) (fun vi _ => nS - (intOf vi).toNat)
  case atStart => exact ⟨0, rfl, Nat.zero_le _, fun i hi => by omega, Below.refl _ _⟩
  case round =>
    obtain ⟨q, rfl, hq, HI, HB⟩ := hrel
    have EB : Hid (Below W.heap.size W wr) := below_on E1.out HB.out
    have EW : Hid (Below w.heap.size w wr) := below_on HBW.out EB.out
    by_cases hqm : q < nS
    · have i1 : (q : Int) < (nS : Int) := by omega
      obtain ⟨tt, htt⟩ : ∃ z, travelM p.time S q = z := ⟨_, rfl⟩
      obtain ⟨td, htd⟩ : ∃ z, travelM p.dist S q = z := ⟨_, rfl⟩
      have HTT := hide htt
      have HTD := hide htd
      have HQS : Hid (q < S.length) := by show _ < _; rw [HSN.out]; exact hqm
      clear htt htd
      have r1 : wr.cell? ⟨w.heap.size, 1, none⟩ = some (.int .i64 p.time.n) := ((bcell EB.out).1 _ 1 HLW.out).trans (HC.out 1)
      have r2 : wr.cell? ⟨w.heap.size, 2, none⟩ = some (.slice ta p.time.cells.length tc) := ((bcell EB.out).1 _ 2 HLW.out).trans (HC.out 2)
      have r3 : wr.cell? ⟨w.heap.size, 3, none⟩ = some (.int .i64 p.dist.n) := ((bcell EB.out).1 _ 3 HLW.out).trans (HC.out 3)
      have r4 : wr.cell? ⟨w.heap.size, 4, none⟩ = some (.slice da p.dist.cells.length dc) := ((bcell EB.out).1 _ 4 HLW.out).trans (HC.out 4)
      by_cases h1 : tt < 0
      · have HF : Hid (linkedM p S = false) := all_not (by rw [HSN.out]; exact hqm) (by rw [HTT.out]; simp; omega)
        go_wp2_with (first | (go_at_call 107; refine (H107t.out _ q EW.out (SlV.on HST.out HB.out (by decide) fun _ _ => StpV.on HB.out) HQS.out).mono ?_; rintro e w2 ⟨rfl, k2⟩; rw [HTT.out]; have E2 := hide (below_on EW.out k2); clear k2) | fail)
        go_ret
        exact ⟨by simp [HF.out], E2.out⟩
      · have h1' : 0 ≤ tt := by omega
        by_cases h2 : td < 0
        · have HF : Hid (linkedM p S = false) := all_not (by rw [HSN.out]; exact hqm) (by rw [HTT.out, HTD.out]; simp; omega)
          go_wp2_with (first | (go_at_call 107; refine (H107d.out _ q E2.out (SlV.on HST.out F2.out (by decide) fun _ _ => StpV.on F2.out) HQS.out).mono ?_; rintro e w3 ⟨rfl, k3⟩; rw [HTD.out]; have E3 := hide (below_on E2.out k3); clear k3) | (go_at_call 107; refine (H107t.out _ q EW.out (SlV.on HST.out HB.out (by decide) fun _ _ => StpV.on HB.out) HQS.out).mono ?_; rintro e w2 ⟨rfl, k2⟩; rw [HTT.out]; have F2 := hide (below_on HB.out k2); have E2 := hide (below_on EW.out k2); have G2 := hide (below_on EB.out k2); have s3 : w2.cell? ⟨w.heap.size, 3, none⟩ = some (.int .i64 p.dist.n) := ((bcell G2.out).1 _ 3 HLW.out).trans (HC.out 3); have s4 : w2.cell? ⟨w.heap.size, 4, none⟩ = some (.slice da p.dist.cells.length dc) := ((bcell G2.out).1 _ 4 HLW.out).trans (HC.out 4); clear k2) | fail)
          go_ret
          exact ⟨by simp [HF.out], E3.out⟩
        · have h2' : 0 ≤ td := by omega
          go_wp2_with (first | (go_at_call 107; refine (H107d.out _ q E2.out (SlV.on HST.out F2.out (by decide) fun _ _ => StpV.on F2.out) HQS.out).mono ?_; rintro e w3 ⟨rfl, k3⟩; rw [HTD.out]; have F3 := hide (below_on F2.out k3); clear k3) | (go_at_call 107; refine (H107t.out _ q EW.out (SlV.on HST.out HB.out (by decide) fun _ _ => StpV.on HB.out) HQS.out).mono ?_; rintro e w2 ⟨rfl, k2⟩; rw [HTT.out]; have F2 := hide (below_on HB.out k2); have E2 := hide (below_on EW.out k2); have G2 := hide (below_on EB.out k2); have s3 : w2.cell? ⟨w.heap.size, 3, none⟩ = some (.int .i64 p.dist.n) := ((bcell G2.out).1 _ 3 HLW.out).trans (HC.out 3); have s4 : w2.cell? ⟨w.heap.size, 4, none⟩ = some (.slice da p.dist.cells.length dc) := ((bcell G2.out).1 _ 4 HLW.out).trans (HC.out 4); clear k2) | fail)
          go_roundw
          case rel => exact ⟨q + 1, by go_num, by omega, (fun i hi => by rcases Nat.lt_succ_iff_lt_or_eq.1 hi with h9 | h9; exact HI.out i h9; rw [h9, HTT.out, HTD.out]; simp; omega), F3.out⟩
          case measure => simp [intOf]; omega
    · have i1 : ¬ (q : Int) < (nS : Int) := by omega
      have HF : Hid (linkedM p S = true) := all_yes fun i hi => HI.out i (by rw [HSN.out] at hi; omega)
      go_wp2
      go_ret
      exact ⟨by simp [HF.out], EW.out⟩
end Go.Proofs.Ytgjpkpmikbpcnaa
