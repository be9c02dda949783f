/-
  What the call of timely of a tour does.
-/
import Derived.Test.YtgjpkpmikbpcnaaQTrAG
namespace Go.Proofs.Ytgjpkpmikbpcnaa
open Go.RowKit
set_option maxRecDepth 100000 in
set_option maxHeartbeats 12800000 in
theorem timely_any {w : World} {x : PrbS} {p : Prb} {k m vc : Nat} {va : Option Addr} {V : List Vst} (h : PrbV w x p) (hl : lawM p = true) (hk : k < p.vs.length) (hV : VsV w (.slice va m vc) V) (hm : V.length = m) (hm2 : m ≤ 110) (hbr : ∀ u ∈ V, u.1 = 4 → ∃ j : Nat, u.2 = j ∧ j < (p.vs.getD k vz).brks.length) : Calls Try.prog 104 #[.agg (tourE p x k (.slice va m vc))] w fun e w' => e = .returned (.bool (timelyM p.time (stopsM p (p.vs.getD k vz) V) (p.vs.getD k vz).shift.1)) ∧ Below w.heap.size w w' := by
  have HL := hide hl
  have HW := hide (ways_ok hl)
  have hvo := veh_ok (law_veh hl hk)
  have hsh : 0 ≤ (p.vs.getD k vz).shift.1 ∧ (p.vs.getD k vz).shift.1 ≤ 1000000 := by have := hvo.shift; omega
  have HSO := hide (stops_ok hl hvo V)
  have HBR := hide hbr
  clear hl hbr hvo
  obtain ⟨ca, cc, ba, bc, hcar⟩ := h.car hk
  have HCAR := hide hcar
  clear hcar
  have HB0 : Hid (∀ A, Below w.heap.size w (w.alloc A)) := fun A => (Below.refl _ _).alloc (Nat.le_refl _) A
  have HP := hide h
  have HV := hide hV
  have HM := hide hm
  have hmb : m * 16 ≤ 140737488351232 := by obtain ⟨_, _, e, hb, _⟩ := hV; rw [← hm]; exact hb
  clear hV hm
  obtain ⟨ta, tc, da, dc, va', vc', ja, jc, sa, sc, rfl⟩ := h.open
  clear h
  have HTE : Hid (tourE p ⟨.slice ta p.time.cells.length tc, .slice da p.dist.cells.length dc, .slice va' p.vs.length vc', .slice ja p.js.length jc, .slice sa p.ss.length sc⟩ k (.slice va m vc) = #[.int .i64 p.dims, .int .i64 p.time.n, .slice ta p.time.cells.length tc, .int .i64 p.dist.n, .slice da p.dist.cells.length dc, .slice va' p.vs.length vc', .slice ja p.js.length jc, .slice sa p.ss.length sc, .int .i64 k, .slice va m vc]) := rfl
  rw [HTE.out]
  obtain ⟨W, hW⟩ : ∃ W, W = w.alloc (.cells #[.int .i64 p.dims, .int .i64 p.time.n, .slice ta p.time.cells.length tc, .int .i64 p.dist.n, .slice da p.dist.cells.length dc, .slice va' p.vs.length vc', .slice ja p.js.length jc, .slice sa p.ss.length sc, .int .i64 k, .slice va m vc] 121) := ⟨_, rfl⟩
  have HBW : Hid (Below w.heap.size w W) := by rw [hW]; exact HB0.out _
  have HLW : Hid (w.heap.size < W.heap.size) := by show _ < _; rw [hW]; simp
  have HC : Hid (∀ j, W.cell? ⟨w.heap.size, j, none⟩ = (#[.int .i64 p.dims, .int .i64 p.time.n, .slice ta p.time.cells.length tc, .int .i64 p.dist.n, .slice da p.dist.cells.length dc, .slice va' p.vs.length vc', .slice ja p.js.length jc, .slice sa p.ss.length sc, .int .i64 k, .slice va m vc] : Array Value)[j]?) := fun j => by rw [hW]; exact cell_of_row _ _ _ _ _ _ (heap_alloc_new w _)
  have H75 : Hid (∀ W2, Below w.heap.size w W2 → Calls Try.prog 75 #[.agg #[.int .i64 p.dims, .int .i64 p.time.n, .slice ta p.time.cells.length tc, .int .i64 p.dist.n, .slice da p.dist.cells.length dc, .slice va' p.vs.length vc', .slice ja p.js.length jc, .slice sa p.ss.length sc, .int .i64 k, .slice va m vc]] W2 fun e w' => ∃ v, e = .returned v ∧ StpsV w' v (stopsM p (p.vs.getD k vz) V) ∧ Below W2.heap.size W2 w') := fun W2 hf => by have h9 := stops_any (va := va) (m := m) (vc := vc) (HP.out.on hf) HL.out hk (PrV.on HV.out hf) HM.out hm2 HBR.out; exact h9
  obtain ⟨S, hS⟩ : ∃ S, (stopsM p (p.vs.getD k vz) V) = S := ⟨_, rfl⟩
  obtain ⟨nS, hnS⟩ : ∃ n, m + 2 = n := ⟨_, rfl⟩
  have HSN : Hid (S.length = nS) := by show _ = _; rw [← hS, stopsM_len, HM.out]; exact hnS
  have HNS := hide hnS
  have hnb : nS ≤ 112 := by omega
  clear hnS
  rw [hS] at H75 HSO ⊢
  clear hS
  have H74 : Hid (∀ W2, Below w.heap.size w W2 → Calls Try.prog 74 #[.agg #[.int .i64 p.dims, .int .i64 p.time.n, .slice ta p.time.cells.length tc, .int .i64 p.dist.n, .slice da p.dist.cells.length dc, .slice va' p.vs.length vc', .slice ja p.js.length jc, .slice sa p.ss.length sc, .int .i64 k, .slice va m vc]] W2 fun e w' => e = .returned (.agg (vehA (p.vs.getD k vz) (.slice ca (p.vs.getD k vz).cap.length cc) (.slice ba (p.vs.getD k vz).brks.length bc))) ∧ Below W2.heap.size W2 w') := fun W2 hf => by have h9 := car_at (va := va) (m := m) (vc := vc) (HP.out.on hf) (HCAR.out.on hf); exact h9
  obtain ⟨v1, hv1⟩ : ∃ v1, p.vs.getD k vz = v1 := ⟨_, rfl⟩
  have HV1 := hide hv1
  rw [hv1] at H74
  clear hv1
  rw [HV1.out] at hsh ⊢
  obtain ⟨fr, hfr⟩ : ∃ q, v1.shift.1 = q := ⟨_, rfl⟩
  rw [hfr] at hsh ⊢
  have hfd4 : ∀ X, (Instr.field 86 (.agg (vehA v1 (.slice ca v1.cap.length cc) (.slice ba v1.brks.length bc))) 4).run Try.prog X = .ok (.agg #[.int .i64 v1.shift.1, .int .i64 v1.shift.2]) X := fun X => by kernel_rfl
  rw [hfr] at hfd4
  clear hfr
  have hf61 : ∀ X, (Instr.field 61 (.agg #[.int .i64 fr, .int .i64 v1.shift.2]) 0).run Try.prog X = .ok (.int .i64 fr) X := fun X => by kernel_rfl
  have HSH := hide hsh
  go_enter Try.func104, Try.ntmps104
  go_wp2_with fail
  rw [← hW]
  clear hW
  have b0 : W.cell? ⟨w.heap.size, 0, none⟩ = some (.int .i64 p.dims) := ((bcell (Below.refl _ _)).1 _ 0 HLW.out).trans (HC.out 0)
  have b1 : W.cell? ⟨w.heap.size, 1, none⟩ = some (.int .i64 p.time.n) := ((bcell (Below.refl _ _)).1 _ 1 HLW.out).trans (HC.out 1)
  have b2 : W.cell? ⟨w.heap.size, 2, none⟩ = some (.slice ta p.time.cells.length tc) := ((bcell (Below.refl _ _)).1 _ 2 HLW.out).trans (HC.out 2)
  have b3 : W.cell? ⟨w.heap.size, 3, none⟩ = some (.int .i64 p.dist.n) := ((bcell (Below.refl _ _)).1 _ 3 HLW.out).trans (HC.out 3)
  have b4 : W.cell? ⟨w.heap.size, 4, none⟩ = some (.slice da p.dist.cells.length dc) := ((bcell (Below.refl _ _)).1 _ 4 HLW.out).trans (HC.out 4)
  have b5 : W.cell? ⟨w.heap.size, 5, none⟩ = some (.slice va' p.vs.length vc') := ((bcell (Below.refl _ _)).1 _ 5 HLW.out).trans (HC.out 5)
  have b6 : W.cell? ⟨w.heap.size, 6, none⟩ = some (.slice ja p.js.length jc) := ((bcell (Below.refl _ _)).1 _ 6 HLW.out).trans (HC.out 6)
  have b7 : W.cell? ⟨w.heap.size, 7, none⟩ = some (.slice sa p.ss.length sc) := ((bcell (Below.refl _ _)).1 _ 7 HLW.out).trans (HC.out 7)
  have b8 : W.cell? ⟨w.heap.size, 8, none⟩ = some (.int .i64 k) := ((bcell (Below.refl _ _)).1 _ 8 HLW.out).trans (HC.out 8)
  have b9 : W.cell? ⟨w.heap.size, 9, none⟩ = some (.slice va m vc) := ((bcell (Below.refl _ _)).1 _ 9 HLW.out).trans (HC.out 9)
  first | (go_region_held3 (fun w' => w'.cell? ⟨w.heap.size, 0, none⟩ = some (.int .i64 p.dims) ∧ w'.cell? ⟨w.heap.size, 1, none⟩ = some (.int .i64 p.time.n) ∧ w'.cell? ⟨w.heap.size, 2, none⟩ = some (.slice ta p.time.cells.length tc) ∧ w'.cell? ⟨w.heap.size, 3, none⟩ = some (.int .i64 p.dist.n) ∧ w'.cell? ⟨w.heap.size, 4, none⟩ = some (.slice da p.dist.cells.length dc) ∧ w'.cell? ⟨w.heap.size, 5, none⟩ = some (.slice va' p.vs.length vc') ∧ w'.cell? ⟨w.heap.size, 6, none⟩ = some (.slice ja p.js.length jc) ∧ w'.cell? ⟨w.heap.size, 7, none⟩ = some (.slice sa p.ss.length sc) ∧ w'.cell? ⟨w.heap.size, 8, none⟩ = some (.int .i64 k) ∧ w'.cell? ⟨w.heap.size, 9, none⟩ = some (.slice va m vc)) (go_keep) (first | (go_at_call 75; refine (H75.out _ (below_on HBW.out (Below.refl _ _).drew)).mono ?_; rintro e w1 ⟨sv, rfl, Q1, k1⟩; obtain ⟨sA, sC, rfl⟩ := SlV.shape Q1; rw [HSN.out] at Q1 ⊢; have HST1 := hide Q1; have E1 := hide (below_on ((Below.refl _ _).drew) k1); have c0 : w1.cell? ⟨w.heap.size, 0, none⟩ = some (.int .i64 p.dims) := ((bcell E1.out).1 _ 0 HLW.out).trans (HC.out 0); have c1 : w1.cell? ⟨w.heap.size, 1, none⟩ = some (.int .i64 p.time.n) := ((bcell E1.out).1 _ 1 HLW.out).trans (HC.out 1); have c2 : w1.cell? ⟨w.heap.size, 2, none⟩ = some (.slice ta p.time.cells.length tc) := ((bcell E1.out).1 _ 2 HLW.out).trans (HC.out 2); have c3 : w1.cell? ⟨w.heap.size, 3, none⟩ = some (.int .i64 p.dist.n) := ((bcell E1.out).1 _ 3 HLW.out).trans (HC.out 3); have c4 : w1.cell? ⟨w.heap.size, 4, none⟩ = some (.slice da p.dist.cells.length dc) := ((bcell E1.out).1 _ 4 HLW.out).trans (HC.out 4); have c5 : w1.cell? ⟨w.heap.size, 5, none⟩ = some (.slice va' p.vs.length vc') := ((bcell E1.out).1 _ 5 HLW.out).trans (HC.out 5); have c6 : w1.cell? ⟨w.heap.size, 6, none⟩ = some (.slice ja p.js.length jc) := ((bcell E1.out).1 _ 6 HLW.out).trans (HC.out 6); have c7 : w1.cell? ⟨w.heap.size, 7, none⟩ = some (.slice sa p.ss.length sc) := ((bcell E1.out).1 _ 7 HLW.out).trans (HC.out 7); have c8 : w1.cell? ⟨w.heap.size, 8, none⟩ = some (.int .i64 k) := ((bcell E1.out).1 _ 8 HLW.out).trans (HC.out 8); have c9 : w1.cell? ⟨w.heap.size, 9, none⟩ = some (.slice va m vc) := ((bcell E1.out).1 _ 9 HLW.out).trans (HC.out 9); clear k1 Q1) | (go_at_call 74; refine (H74.out _ (below_on HBW.out E1.out)).mono ?_; rintro e w2 ⟨rfl, k2⟩; have HST := hide (SlV.on HST1.out k2 (by decide) fun _ _ => StpV.on k2); have E2 := hide (below_on E1.out k2); have d0 : w2.cell? ⟨w.heap.size, 0, none⟩ = some (.int .i64 p.dims) := ((bcell E2.out).1 _ 0 HLW.out).trans (HC.out 0); have d1 : w2.cell? ⟨w.heap.size, 1, none⟩ = some (.int .i64 p.time.n) := ((bcell E2.out).1 _ 1 HLW.out).trans (HC.out 1); have d2 : w2.cell? ⟨w.heap.size, 2, none⟩ = some (.slice ta p.time.cells.length tc) := ((bcell E2.out).1 _ 2 HLW.out).trans (HC.out 2); have d3 : w2.cell? ⟨w.heap.size, 3, none⟩ = some (.int .i64 p.dist.n) := ((bcell E2.out).1 _ 3 HLW.out).trans (HC.out 3); have d4 : w2.cell? ⟨w.heap.size, 4, none⟩ = some (.slice da p.dist.cells.length dc) := ((bcell E2.out).1 _ 4 HLW.out).trans (HC.out 4); have d5 : w2.cell? ⟨w.heap.size, 5, none⟩ = some (.slice va' p.vs.length vc') := ((bcell E2.out).1 _ 5 HLW.out).trans (HC.out 5); have d6 : w2.cell? ⟨w.heap.size, 6, none⟩ = some (.slice ja p.js.length jc) := ((bcell E2.out).1 _ 6 HLW.out).trans (HC.out 6); have d7 : w2.cell? ⟨w.heap.size, 7, none⟩ = some (.slice sa p.ss.length sc) := ((bcell E2.out).1 _ 7 HLW.out).trans (HC.out 7); have d8 : w2.cell? ⟨w.heap.size, 8, none⟩ = some (.int .i64 k) := ((bcell E2.out).1 _ 8 HLW.out).trans (HC.out 8); have d9 : w2.cell? ⟨w.heap.size, 9, none⟩ = some (.slice va m vc) := ((bcell E2.out).1 _ 9 HLW.out).trans (HC.out 9); clear k2) | fail)) | fail
  rename_i hHeld
  clear hHeld b0 b1 b2 b3 b4 b5 b6 b7 b8 b9 c0 c1 c2 c3 c4 c5 c6 c7 c8 c9 HST1 E1 hfd4 hf61
  go_wp2_with fail
  clear d0 d1 d2 d3 d4 d5 d6 d7 d8 d9
  have H107t : Hid (∀ W2 (i : Nat), Below w.heap.size w W2 → StpsV W2 (.slice sA nS sC) S → i < S.length → Calls Try.prog 107 #[.agg #[.int .i64 p.time.n, .slice ta p.time.cells.length tc], .slice sA nS sC, .int .i64 (i : Int)] W2 fun e w' => e = .returned (.int .i64 (travelM p.time S i)) ∧ Below W2.heap.size W2 w') := fun W2 i hf hs hi => by have h9 := travel_at (HP.out.t.on hf) HW.out.st hs hi; exact h9
  go_loopw [18, 4] (fun vi v4 wr => ∃ (q : Nat) (lf : Int), vi = .int .i64 q ∧ v4 = .int .i64 lf ∧ q ≤ nS ∧ Hid (lfM p.time S fr q = lf) ∧ Hid (∀ i, i < q → (begM p.time S fr i).2 = true) ∧ Hid (Below w2.heap.size w2 wr)) (fun vi _ _ => nS - (intOf vi).toNat)
  case atStart => exact ⟨0, fr, rfl, rfl, Nat.zero_le _, rfl, (fun i hi => by omega), Below.refl _ _⟩
  case round =>
    obtain ⟨q, lf, rfl, rfl, hq, HLF, HI, HB⟩ := hrel
    have EB : Hid (Below W.heap.size W wr) := below_on E2.out HB.out
    have EW : Hid (Below w.heap.size w wr) := below_on HBW.out EB.out
    by_cases hqm : q < nS
    · have i1 : (q : Int) < (nS : Int) := by omega
      have i2 : (0 : Int) ≤ (q : Int) := by omega
      have i3 : ¬ (nS : Int) ≤ (q : Int) := by omega
      have HQS : Hid (q < S.length) := by show _ < _; rw [HSN.out]; exact hqm
      have HSTr := hide (SlV.on HST.out HB.out (by decide) fun _ _ => StpV.on HB.out)
      obtain ⟨tt, htt⟩ : ∃ z, travelM p.time S q = z := ⟨_, rfl⟩
      have hlb := lf_ok (m := p.time) HSO.out HSH.out q
      have htb := travel_ok HW.out.mt S q
      have hso := HSO.out q
      obtain ⟨s, hs⟩ : ∃ s, S.getD q sz = s := ⟨_, rfl⟩
      obtain ⟨b, off, cc', y, he, hb, hcs, hy⟩ := stp_cells HSTr.out HQS.out
      injection he with he1 he2 he3
      subst he1 he3
      clear he2
      rw [hs] at hcs hy hso
      obtain ⟨pl, hpl⟩ : ∃ z, s.place = z := ⟨_, rfl⟩
      obtain ⟨sv, hsv⟩ : ∃ z, s.serv = z := ⟨_, rfl⟩
      obtain ⟨ya, yc, rfl⟩ := hy.shape
      obtain ⟨nw, hnw⟩ : ∃ z, s.wins.length = z := ⟨_, rfl⟩
      have c0 : wr.cell? ⟨b, off + q * 3, none⟩ = some (.int .i64 pl) := by rw [← hpl]; exact hcs 0 (by decide)
      have c1 : wr.cell? ⟨b, off + q * 3 + 1, none⟩ = some (.int .i64 sv) := by rw [← hsv]; exact hcs 1 (by decide)
      have c2 : wr.cell? ⟨b, off + q * 3 + 2, none⟩ = some (.slice ya nw yc) := by rw [← hnw]; exact hcs 2 (by decide)
      obtain ⟨bs, bo, hbg⟩ : ∃ bs bo, Hr.startM (lf + tt) s.wins = (bs, bo) := ⟨_, _, rfl⟩
      have hstk := start_ok hso.1 (lf + tt)
      rw [hbg] at hstk
      simp only at hstk
      rw [HLF.out] at hlb
      rw [htt] at htb
      have HBG : Hid (begM p.time S fr q = (bs, bo)) := by show _ = _; unfold begM arrM; rw [HLF.out, htt, hs, hbg]
      have HLS : Hid (lfM p.time S fr (q + 1) = bs + sv) := by show _ = _; rw [lfM_succ, HBG.out, hs, hsv]
      have HY : Hid (WinsV wr (.slice ya nw yc) s.wins) := by rw [← hnw]; exact hy
      have hwr : IntKind.i64.wrap (lf + tt) = lf + tt := by rw [IntKind.wrap_i64]; omega
      have hsb := hso.2
      rw [hsv] at hsb
      have H108 : Hid (∀ W2, Below wr.heap.size wr W2 → Calls Try.prog 108 #[.agg #[.int .i64 pl, .int .i64 sv, .slice ya nw yc], .int .i64 (lf + tt)] W2 fun e w' => e = .returned (.tuple #[.int .i64 bs, .int .i64 (bs + sv), .bool bo]) ∧ Below W2.heap.size W2 w') := fun W2 hf => by have h9 := stay_any pl sv (lf + tt) (HY.out.on hf) (by rw [hbg]; simp only; omega) (by rw [hbg]; simp only; omega); rw [hbg] at h9; exact h9
      have HTT := hide htt
      clear hbg hy hcs hpl hsv hnw hs htt hso
      have r1 : wr.cell? ⟨w.heap.size, 1, none⟩ = some (.int .i64 p.time.n) := ((bcell EB.out).1 _ 1 HLW.out).trans (HC.out 1)
      have r2 : wr.cell? ⟨w.heap.size, 2, none⟩ = some (.slice ta p.time.cells.length tc) := ((bcell EB.out).1 _ 2 HLW.out).trans (HC.out 2)
      have lw0 : w.heap.size < wr.heap.size := Nat.lt_of_lt_of_le HLW.out EB.out.size
      have nw0 : ¬ w.heap.size = wr.heap.size := by omega
      go_wp2_with fail
      obtain ⟨X, hX⟩ : ∃ X, X = wr.alloc (.cells #[.int .i64 pl, .int .i64 sv, .slice ya nw yc] 45) := ⟨_, rfl⟩
      rw [← hX]
      have HX : Hid (Below wr.heap.size wr X) := by rw [hX]; exact (Below.refl _ _).alloc (Nat.le_refl _) _
      have lX0 : w.heap.size < X.heap.size := Nat.lt_of_lt_of_le lw0 HX.out.size
      have lXr : wr.heap.size < X.heap.size := by rw [hX]; simp
      have x0 : X.cell? ⟨wr.heap.size, 0, none⟩ = some (.int .i64 pl) := by rw [hX]; exact cell_of_row _ _ _ _ _ _ (heap_alloc_new wr _)
      have x1 : X.cell? ⟨wr.heap.size, 1, none⟩ = some (.int .i64 sv) := by rw [hX]; exact cell_of_row _ _ _ _ _ _ (heap_alloc_new wr _)
      have x2 : X.cell? ⟨wr.heap.size, 2, none⟩ = some (.slice ya nw yc) := by rw [hX]; exact cell_of_row _ _ _ _ _ _ (heap_alloc_new wr _)
      have y1 : X.cell? ⟨w.heap.size, 1, none⟩ = some (.int .i64 p.time.n) := ((bcell HX.out).1 _ 1 lw0).trans r1
      have y2 : X.cell? ⟨w.heap.size, 2, none⟩ = some (.slice ta p.time.cells.length tc) := ((bcell HX.out).1 _ 2 lw0).trans r2
      clear hX c0 c1 c2 r1 r2
      first | (go_region_held3 (fun w' => w'.cell? ⟨w.heap.size, 1, none⟩ = some (.int .i64 p.time.n) ∧ w'.cell? ⟨w.heap.size, 2, none⟩ = some (.slice ta p.time.cells.length tc) ∧ w'.cell? ⟨wr.heap.size, 0, none⟩ = some (.int .i64 pl) ∧ w'.cell? ⟨wr.heap.size, 1, none⟩ = some (.int .i64 sv) ∧ w'.cell? ⟨wr.heap.size, 2, none⟩ = some (.slice ya nw yc)) (go_keep) (first | (go_at_call 107; refine (H107t.out _ q (below_on EW.out (below_on HX.out (Below.refl _ _).drew)) (SlV.on HSTr.out (below_on HX.out (Below.refl _ _).drew) (by decide) fun _ _ => StpV.on (below_on HX.out (Below.refl _ _).drew)) HQS.out).mono ?_; rintro e w3 ⟨rfl, k3⟩; rw [HTT.out]; have E3 := hide (below_on ((Below.refl _ _).drew) k3); have ty1 : w3.cell? ⟨w.heap.size, 1, none⟩ = some (.int .i64 p.time.n) := ((bcell E3.out).1 _ 1 lX0).trans y1; have ty2 : w3.cell? ⟨w.heap.size, 2, none⟩ = some (.slice ta p.time.cells.length tc) := ((bcell E3.out).1 _ 2 lX0).trans y2; have tx0 : w3.cell? ⟨wr.heap.size, 0, none⟩ = some (.int .i64 pl) := ((bcell E3.out).1 _ 0 lXr).trans x0; have tx1 : w3.cell? ⟨wr.heap.size, 1, none⟩ = some (.int .i64 sv) := ((bcell E3.out).1 _ 1 lXr).trans x1; have tx2 : w3.cell? ⟨wr.heap.size, 2, none⟩ = some (.slice ya nw yc) := ((bcell E3.out).1 _ 2 lXr).trans x2; clear k3) | (go_at_call 108; refine (H108.out _ (below_on HX.out E3.out)).mono ?_; rintro e w4 ⟨rfl, k4⟩; have E4 := hide (below_on E3.out k4); have uy1 : w4.cell? ⟨w.heap.size, 1, none⟩ = some (.int .i64 p.time.n) := ((bcell E4.out).1 _ 1 lX0).trans y1; have uy2 : w4.cell? ⟨w.heap.size, 2, none⟩ = some (.slice ta p.time.cells.length tc) := ((bcell E4.out).1 _ 2 lX0).trans y2; have ux0 : w4.cell? ⟨wr.heap.size, 0, none⟩ = some (.int .i64 pl) := ((bcell E4.out).1 _ 0 lXr).trans x0; have ux1 : w4.cell? ⟨wr.heap.size, 1, none⟩ = some (.int .i64 sv) := ((bcell E4.out).1 _ 1 lXr).trans x1; have ux2 : w4.cell? ⟨wr.heap.size, 2, none⟩ = some (.slice ya nw yc) := ((bcell E4.out).1 _ 2 lXr).trans x2; clear k4) | fail)) | fail
      rename_i hHeld
      clear hHeld
      have E5 : Hid (Below wr.heap.size wr w4) := below_on HX.out E4.out
      clear x0 x1 x2 y1 y2 ty1 ty2 tx0 tx1 tx2 uy1 uy2 ux0 ux1 ux2
      cases bo with
      | false =>
        have HF : Hid (timelyM p.time S fr = false) := all_not (by rw [HSN.out]; exact hqm) (by rw [HBG.out])
        go_wp2_with fail
        go_ret
        exact ⟨by simp [HF.out], below_on EW.out E5.out⟩
      | true =>
        go_wp2_with fail
        go_roundw
        case rel => exact ⟨q + 1, bs + sv, by go_num, rfl, by omega, HLS.out, (fun i hi => by rcases Nat.lt_succ_iff_lt_or_eq.1 hi with h9 | h9; exact HI.out i h9; rw [h9, HBG.out]), below_on HB.out E5.out⟩
        case measure => simp [intOf]; omega
    · have i1 : ¬ (q : Int) < (nS : Int) := by omega
      have HF : Hid (timelyM p.time S fr = true) := all_yes fun i hi => HI.out i (by rw [HSN.out] at hi; omega)
      go_wp2
      go_ret
      exact ⟨by simp [HF.out], EW.out⟩
end Go.Proofs.Ytgjpkpmikbpcnaa
