/-
  SlackShift: a shift that ends later makes no Latest earlier, and that of the end just as much later.
-/
import Derived.Test.YtndbikoccdjafaaFSh
import Derived.Test.YtndbikoccdjafaaBSk7
import Derived.Test.YtndbikoccdjafaaBSkRG
import Derived.Test.YtndbikoccdjafaaBCRChk
import Derived.BigRegion
namespace Go.Proofs.Ytndbikoccdjafaa
open Go.RowKit
theorem hz14 (args : Array Value) (w : World) : (callFunc 14 args).run Try.prog w = .ok (.enter 14 args) w := Go.Proofs.enters_of Try.func14 (by kernel_rfl) rfl args w
theorem hz13 (args : Array Value) (w : World) : (callFunc 13 args).run Try.prog w = .ok (.enter 13 args) w := Go.Proofs.enters_of Try.func13 (by kernel_rfl) rfl args w
set_option maxRecDepth 100000 in
set_option maxHeartbeats 6400000 in
theorem slackshift_any {w : World} {x : PrbS} {p : Prb} {m vc : Nat} {va0 : Option Addr} {V : List Vst} (h : PrbV w x p) (hV : VsV w (.slice va0 m vc) V) (hm : V.length = m) (vi : Int) (mo : Int) : Calls Try.prog 7 #[.agg (prbE p x), .int .i64 vi, .slice va0 m vc, .int .i64 mo] w fun e w' => e = .returned (.bool true) ∧ Below w.heap.size w w' := by
  have HP := hide h
  have HV := hide hV
  have HM := hide hm
  have hmb : m * 16 ≤ 140737488351232 := by obtain ⟨_, _, e, hb, _⟩ := hV; rw [← hm]; exact hb
  clear hV hm
  obtain ⟨ta, tc, da, dc, va, vc9, ja, jc, sa, sc, rfl⟩ := h.open
  clear h
  obtain ⟨mb, hmb2⟩ : ∃ z, madeB p vi V = z := ⟨_, rfl⟩
  have HMB := hide hmb2
  obtain ⟨W, hW⟩ : ∃ W, w.alloc (.cells #[.int .i64 p.dims, .int .i64 p.time.n, .slice ta p.time.cells.length tc, .int .i64 p.dist.n, .slice da p.dist.cells.length dc, .slice va p.vs.length vc9, .slice ja p.js.length jc, .slice sa p.ss.length sc] 29) = W := ⟨_, rfl⟩
  have HB : Hid (Below w.heap.size w W) := by show Below _ _ _; rw [← hW]; exact (Below.refl _ _).alloc (Nat.le_refl _) _
  have HX1 : Hid (W.heap[w.heap.size]? = some (.cells #[.int .i64 p.dims, .int .i64 p.time.n, .slice ta p.time.cells.length tc, .int .i64 p.dist.n, .slice da p.dist.cells.length dc, .slice va p.vs.length vc9, .slice ja p.js.length jc, .slice sa p.ss.length sc] 29 (0, 0))) := by show _ = _; rw [← hW]; exact new_block _ _
  have H12 : Hid (∀ W2, Below w.heap.size w W2 → Calls Try.prog 12 #[.agg #[.int .i64 p.dims, .int .i64 p.time.n, .slice ta p.time.cells.length tc, .int .i64 p.dist.n, .slice da p.dist.cells.length dc, .slice va p.vs.length vc9, .slice ja p.js.length jc, .slice sa p.ss.length sc], .int .i64 vi, .slice va0 m vc] W2 fun e w' => ∃ (pl : PlanT) (pa : Option Addr) (pn pc : Nat), e = .returned (.tuple #[.agg #[.int .i64 pl.veh, .slice pa pn pc, .int .i64 pl.time, .int .i64 pl.dist, .int .i64 pl.wait, .int .i64 pl.serv, .int .i64 pl.cost], .bool mb]) ∧ (PlanW w' W2.heap.size (.agg #[.int .i64 pl.veh, .slice pa pn pc, .int .i64 pl.time, .int .i64 pl.dist, .int .i64 pl.wait, .int .i64 pl.serv, .int .i64 pl.cost]) pl ∧ (mb = true → pl = fitP p vi V)) ∧ Below W2.heap.size W2 w') := fun W2 hf => by
    have h9 := made_any (HP.out.on hf) (PrV.on HV.out hf) HM.out vi
    rw [HMB.out] at h9
    refine h9.mono ?_
    rintro e w' ⟨v, pl, rfl, hp, hq, k9⟩
    obtain ⟨a, n, c, ys, rfl, hr, hn⟩ := id hp
    exact ⟨pl, a, n, c, rfl, ⟨hp, hq⟩, k9⟩
  unfold prbE
  simp only
  clear hmb2 hmb
  cases mb with
  | false =>
    go_enter Try.func7, Try.ntmps7
    go_wp2_with (first | (go_at_call 12; refine (H12.out _ (below_on HB.out E1.out)).mono ?_; rintro e u2 ⟨pl, pa, pn, pc, rfl, ⟨hpw, hpe⟩, kk⟩; have E2 := hide (below_on E1.out kk); have HPW := hide hpw; have HPE := hide hpe; clear kk hpw hpe; clear c10 c11 c12 c13 c14 c15 c16 c17) | (go_at_call 11; refine (awake_any _).mono ?_; rintro e u1 ⟨rfl, kk⟩; have E1 := hide kk; clear kk; have c10 : u1.cell? ⟨w.heap.size, 0, none⟩ = some (.int .i64 p.dims) := ((bcell E1.out).1 _ _ (lt_of_block HX1.out)).trans (cell_of_row _ _ _ _ _ _ HX1.out); have c11 : u1.cell? ⟨w.heap.size, 1, none⟩ = some (.int .i64 p.time.n) := ((bcell E1.out).1 _ _ (lt_of_block HX1.out)).trans (cell_of_row _ _ _ _ _ _ HX1.out); have c12 : u1.cell? ⟨w.heap.size, 2, none⟩ = some (.slice ta p.time.cells.length tc) := ((bcell E1.out).1 _ _ (lt_of_block HX1.out)).trans (cell_of_row _ _ _ _ _ _ HX1.out); have c13 : u1.cell? ⟨w.heap.size, 3, none⟩ = some (.int .i64 p.dist.n) := ((bcell E1.out).1 _ _ (lt_of_block HX1.out)).trans (cell_of_row _ _ _ _ _ _ HX1.out); have c14 : u1.cell? ⟨w.heap.size, 4, none⟩ = some (.slice da p.dist.cells.length dc) := ((bcell E1.out).1 _ _ (lt_of_block HX1.out)).trans (cell_of_row _ _ _ _ _ _ HX1.out); have c15 : u1.cell? ⟨w.heap.size, 5, none⟩ = some (.slice va p.vs.length vc9) := ((bcell E1.out).1 _ _ (lt_of_block HX1.out)).trans (cell_of_row _ _ _ _ _ _ HX1.out); have c16 : u1.cell? ⟨w.heap.size, 6, none⟩ = some (.slice ja p.js.length jc) := ((bcell E1.out).1 _ _ (lt_of_block HX1.out)).trans (cell_of_row _ _ _ _ _ _ HX1.out); have c17 : u1.cell? ⟨w.heap.size, 7, none⟩ = some (.slice sa p.ss.length sc) := ((bcell E1.out).1 _ _ (lt_of_block HX1.out)).trans (cell_of_row _ _ _ _ _ _ HX1.out)) | fail)
    go_ret
    exact ⟨rfl, (below_on HB.out E2.out).alloc (by have h1 := (below_on HB.out E2.out).size; omega) _⟩
  | true =>
    obtain ⟨k, L, G, l, e9, hF⟩ := made_facts HMB.out
    have HF := hide hF
    obtain rfl := hF.man
    clear hF
    go_enter Try.func7, Try.ntmps7
    go_upto_region 6 with (first | (go_at_call 12; refine (H12.out _ (below_on HB.out E1.out)).mono ?_; rintro e u2 ⟨pl, pa, pn, pc, rfl, ⟨hpw, hpe⟩, kk⟩; have E2 := hide (below_on E1.out kk); have HPW := hide hpw; have HPE := hide hpe; clear kk hpw hpe; clear c10 c11 c12 c13 c14 c15 c16 c17) | (go_at_call 11; refine (awake_any _).mono ?_; rintro e u1 ⟨rfl, kk⟩; have E1 := hide kk; clear kk; have c10 : u1.cell? ⟨w.heap.size, 0, none⟩ = some (.int .i64 p.dims) := ((bcell E1.out).1 _ _ (lt_of_block HX1.out)).trans (cell_of_row _ _ _ _ _ _ HX1.out); have c11 : u1.cell? ⟨w.heap.size, 1, none⟩ = some (.int .i64 p.time.n) := ((bcell E1.out).1 _ _ (lt_of_block HX1.out)).trans (cell_of_row _ _ _ _ _ _ HX1.out); have c12 : u1.cell? ⟨w.heap.size, 2, none⟩ = some (.slice ta p.time.cells.length tc) := ((bcell E1.out).1 _ _ (lt_of_block HX1.out)).trans (cell_of_row _ _ _ _ _ _ HX1.out); have c13 : u1.cell? ⟨w.heap.size, 3, none⟩ = some (.int .i64 p.dist.n) := ((bcell E1.out).1 _ _ (lt_of_block HX1.out)).trans (cell_of_row _ _ _ _ _ _ HX1.out); have c14 : u1.cell? ⟨w.heap.size, 4, none⟩ = some (.slice da p.dist.cells.length dc) := ((bcell E1.out).1 _ _ (lt_of_block HX1.out)).trans (cell_of_row _ _ _ _ _ _ HX1.out); have c15 : u1.cell? ⟨w.heap.size, 5, none⟩ = some (.slice va p.vs.length vc9) := ((bcell E1.out).1 _ _ (lt_of_block HX1.out)).trans (cell_of_row _ _ _ _ _ _ HX1.out); have c16 : u1.cell? ⟨w.heap.size, 6, none⟩ = some (.slice ja p.js.length jc) := ((bcell E1.out).1 _ _ (lt_of_block HX1.out)).trans (cell_of_row _ _ _ _ _ _ HX1.out); have c17 : u1.cell? ⟨w.heap.size, 7, none⟩ = some (.slice sa p.ss.length sc) := ((bcell E1.out).1 _ _ (lt_of_block HX1.out)).trans (cell_of_row _ _ _ _ _ _ HX1.out)) | fail)
    obtain rfl := HPE.out (by first | rfl | trivial)
    obtain ⟨a, n, c, tm, ds, wt, sv, co, hv, hst, hsl⟩ := slk_made HF.out HPW.out
    unfold planC at hv
    have hvv : (#[.int .i64 (fitP p (k : Int) V).veh, .slice pa pn pc, .int .i64 (fitP p (k : Int) V).time, .int .i64 (fitP p (k : Int) V).dist, .int .i64 (fitP p (k : Int) V).wait, .int .i64 (fitP p (k : Int) V).serv, .int .i64 (fitP p (k : Int) V).cost] : Array Value) = #[.int .i64 (k : Int), .slice a n c, .int .i64 tm, .int .i64 ds, .int .i64 wt, .int .i64 sv, .int .i64 co] := by injection hv
    clear hv
    obtain ⟨u3, hu3⟩ : ∃ z, u2.alloc (.cells #[.int .i64 (fitP p (k : Int) V).veh, .slice pa pn pc, .int .i64 (fitP p (k : Int) V).time, .int .i64 (fitP p (k : Int) V).dist, .int .i64 (fitP p (k : Int) V).wait, .int .i64 (fitP p (k : Int) V).serv, .int .i64 (fitP p (k : Int) V).cost] 34) = z := ⟨_, rfl⟩
    rw [hu3]
    have HX8 : Hid (u3.heap[u2.heap.size]? = some (.cells #[.int .i64 (k : Int), .slice a n c, .int .i64 tm, .int .i64 ds, .int .i64 wt, .int .i64 sv, .int .i64 co] 34 (0, 0))) := by show _ = _; rw [← hu3, ← hvv]; exact new_block _ _
    have E3 : Hid (Below W.heap.size W u3) := by show Below _ _ _; rw [← hu3]; exact below_on E2.out ((Below.refl _ _).alloc (Nat.le_refl _) _)
    have HSL : Hid (∀ (W2 : World) (x2 : PrbS), Below u3.heap.size u3 W2 → PrbV W2 x2 p → SlkV W2 x2 p k a n L G) := fun W2 x2 hb h => hsl W2 x2 (below_on (by rw [← hu3]; exact (Below.refl _ _).alloc (Nat.le_refl _) _) hb) h
    have HST : Hid (StpC u3 a n L) := by show StpC _ _ _ _; rw [← hu3]; exact hst.on ((Below.refl _ _).alloc (Nat.le_refl _) _)
    have HNN : Hid (n = G.length + 1 ∧ 1 ≤ G.length ∧ G.length ≤ 40 ∧ L.length = n) := by
      have h1 := HF.out.rt.len
      have h2 := HF.out.rt.low
      have h3 := HF.out.rt.high
      have h4 := hst.1
      show _ ∧ _ ∧ _ ∧ _
      omega
    have HVV := hide hvv
    clear hu3 hsl hst hvv HPE HPW
    obtain ⟨mr, hmr, hmr2⟩ := umod_hundred mo
    have hmw : IntKind.i64.wrap (mr : Int) = mr := by rw [IntKind.wrap_i64]; omega
    have HMR := hide hmr2
    obtain ⟨cl, hcl⟩ : ∃ z, (p.vs.getD k vz).shift.2 = z := ⟨_, rfl⟩
    have HCL := hide hcl
    have HK := hide HF.out.veh
    have HSH : Hid (0 ≤ cl ∧ cl ≤ 1000000) := by
      have hsh := (veh_ok (law_veh HF.out.law HF.out.veh)).shift
      show _ ∧ _
      omega
    obtain ⟨l2, hl2, hl3, hl4, hl5, hl6⟩ := lat_more (mr := (mr : Int)) HF.out.rt.ok HF.out.lat (by omega)
    rw [hcl] at hl2 hl5 hl6
    have HL2 := hide hl2
    have HLB : Hid (l.length = n ∧ ∀ j, j < n → -100000000 ≤ l.getD j 0 ∧ l.getD j 0 ≤ 1000000) := by
      have hsh := (veh_ok (law_veh HF.out.law HF.out.veh)).shift
      have h9 := lat_bd HF.out.rt (cl := (p.vs.getD k vz).shift.2) ⟨by omega, by omega⟩ HF.out.lat
      have h8 := HNN.out
      refine ⟨by omega, fun j hj => h9.2.2 j (by omega)⟩
    have HLC : Hid (l2.length = n ∧ (∀ j, j < n → l.getD j 0 ≤ l2.getD j 0) ∧ l.getD G.length 0 = cl ∧ l2.getD G.length 0 = cl + mr) := ⟨by have h1 := HLB.out.1; omega, fun j hj => hl4 j (by have h1 := HLB.out.1; omega), hl5, hl6⟩
    clear hl2 hl3 hl4 hl5 hl6 hcl
    have H14q : Hid (∀ W2, Below w.heap.size w W2 → Calls Try.prog 14 #[.agg #[.int .i64 p.dims, .int .i64 p.time.n, .slice ta p.time.cells.length tc, .int .i64 p.dist.n, .slice da p.dist.cells.length dc, .slice va p.vs.length vc9, .slice ja p.js.length jc, .slice sa p.ss.length sc]] W2 fun e w' => ∃ qt qtc qd qdc gv qvc qj qjc qs qsc gj gs, e = .returned (.agg #[.int .i64 p.dims, .int .i64 p.time.n, .slice qt p.time.cells.length qtc, .int .i64 p.dist.n, .slice qd p.dist.cells.length qdc, .slice (some ⟨gv, 0, none⟩) p.vs.length qvc, .slice qj p.js.length qjc, .slice qs p.ss.length qsc]) ∧ (CpF w' (W2.heap.size + 2) gv gj gs p ⟨.slice qt p.time.cells.length qtc, .slice qd p.dist.cells.length qdc, .slice (some ⟨gv, 0, none⟩) p.vs.length qvc, .slice qj p.js.length qjc, .slice qs p.ss.length qsc⟩ ∧ W2.heap.size + 2 ≤ gv ∧ gv < w'.heap.size ∧ ∀ j, w'.frozen? ⟨gv, j, none⟩ = false) ∧ Below W2.heap.size W2 w') := fun W2 hf => by
      refine (copy_any (HP.out.on hf) (by have h1 := HK.out; omega)).mono ?_
      rintro e w' ⟨qt, qtc, qd, qdc, gv, qvc, qj, qjc, qs, qsc, gj, gs, rfl, ⟨h1, h2, h3, h4⟩, k9⟩
      exact ⟨qt, qtc, qd, qdc, gv, qvc, qj, qjc, qs, qsc, gj, gs, rfl, ⟨h1, h2, h3, h4⟩, k9⟩
    have H14 : Hid (∀ W2, Below w.heap.size w W2 → Calls Try.prog 14 #[.agg #[.int .i64 p.dims, .int .i64 p.time.n, .slice ta p.time.cells.length tc, .int .i64 p.dist.n, .slice da p.dist.cells.length dc, .slice va p.vs.length vc9, .slice ja p.js.length jc, .slice sa p.ss.length sc]] W2 fun e w' => ∃ xt xtc xd xdc xv xvc xj xjc xs xsc, e = .returned (.agg #[.int .i64 p.dims, .int .i64 p.time.n, .slice xt p.time.cells.length xtc, .int .i64 p.dist.n, .slice xd p.dist.cells.length xdc, .slice xv p.vs.length xvc, .slice xj p.js.length xjc, .slice xs p.ss.length xsc]) ∧ PrbV w' ⟨.slice xt p.time.cells.length xtc, .slice xd p.dist.cells.length xdc, .slice xv p.vs.length xvc, .slice xj p.js.length xjc, .slice xs p.ss.length xsc⟩ p ∧ Below W2.heap.size W2 w') := fun W2 hf => by
      refine (copied_any (HP.out.on hf)).mono ?_
      rintro e w' ⟨x', rfl, ⟨_, _, _, hq⟩, k9⟩
      have hp := hq.prb
      obtain ⟨xt, xtc, xd, xdc, xv, xvc, xj, xjc, xs, xsc, rfl⟩ := hp.open
      exact ⟨xt, xtc, xd, xdc, xv, xvc, xj, xjc, xs, xsc, rfl, hp, k9⟩
    have H13 : Hid (∀ W2 x2, Below u3.heap.size u3 W2 → PrbV W2 x2 p → Calls Try.prog 13 #[.agg (prbE p x2), .agg #[.int .i64 (k : Int), .slice a n c, .int .i64 tm, .int .i64 ds, .int .i64 wt, .int .i64 sv, .int .i64 co]] W2 fun e w' => ∃ g, e = .returned (.slice (some ⟨g, 0, none⟩) n n) ∧ IRow w' W2.heap.size (.slice (some ⟨g, 0, none⟩) n n) l ∧ Below W2.heap.size W2 w') := fun W2 x2 hb h => latest_any (HSL.out W2 x2 hb h) HF.out.lat c tm ds wt sv co
    have H13q : Hid (∀ W2 x2, lawM (endP p k (cl + mr)) = true → Below u3.heap.size u3 W2 → PrbV W2 x2 (endP p k (cl + mr)) → Calls Try.prog 13 #[.agg (prbE (endP p k (cl + mr)) x2), .agg #[.int .i64 (k : Int), .slice a n c, .int .i64 tm, .int .i64 ds, .int .i64 wt, .int .i64 sv, .int .i64 co]] W2 fun e w' => ∃ g, e = .returned (.slice (some ⟨g, 0, none⟩) n n) ∧ IRow w' W2.heap.size (.slice (some ⟨g, 0, none⟩) n n) l2 ∧ Below W2.heap.size W2 w') := fun W2 x2 hl hb h => by
      have h8 : SlkV W2 x2 (endP p k (cl + mr)) k a n L G := ⟨h, hl, by unfold endP; simpa using HK.out, HST.out.on hb, rout_end HK.out HF.out.rt⟩
      refine latest_any h8 ?_ c tm ds wt sv co
      rw [end_veh HK.out]
      exact HL2.out
    have c30 : u3.cell? ⟨w.heap.size, 0, none⟩ = some (.int .i64 p.dims) := ((bcell E3.out).1 _ _ (lt_of_block HX1.out)).trans (cell_of_row _ _ _ _ _ _ HX1.out)
    have c31 : u3.cell? ⟨w.heap.size, 1, none⟩ = some (.int .i64 p.time.n) := ((bcell E3.out).1 _ _ (lt_of_block HX1.out)).trans (cell_of_row _ _ _ _ _ _ HX1.out)
    have c32 : u3.cell? ⟨w.heap.size, 2, none⟩ = some (.slice ta p.time.cells.length tc) := ((bcell E3.out).1 _ _ (lt_of_block HX1.out)).trans (cell_of_row _ _ _ _ _ _ HX1.out)
    have c33 : u3.cell? ⟨w.heap.size, 3, none⟩ = some (.int .i64 p.dist.n) := ((bcell E3.out).1 _ _ (lt_of_block HX1.out)).trans (cell_of_row _ _ _ _ _ _ HX1.out)
    have c34 : u3.cell? ⟨w.heap.size, 4, none⟩ = some (.slice da p.dist.cells.length dc) := ((bcell E3.out).1 _ _ (lt_of_block HX1.out)).trans (cell_of_row _ _ _ _ _ _ HX1.out)
    have c35 : u3.cell? ⟨w.heap.size, 5, none⟩ = some (.slice va p.vs.length vc9) := ((bcell E3.out).1 _ _ (lt_of_block HX1.out)).trans (cell_of_row _ _ _ _ _ _ HX1.out)
    have c36 : u3.cell? ⟨w.heap.size, 6, none⟩ = some (.slice ja p.js.length jc) := ((bcell E3.out).1 _ _ (lt_of_block HX1.out)).trans (cell_of_row _ _ _ _ _ _ HX1.out)
    have c37 : u3.cell? ⟨w.heap.size, 7, none⟩ = some (.slice sa p.ss.length sc) := ((bcell E3.out).1 _ _ (lt_of_block HX1.out)).trans (cell_of_row _ _ _ _ _ _ HX1.out)
    have jk1 : (0 : Int) ≤ (k : Int) := by omega
    have jk2 : (k : Int) < (p.vs.length : Int) := by have h1 := HK.out; omega
    have jcl : IntKind.i64.wrap (cl + (mr : Int)) = cl + (mr : Int) := by rw [IntKind.wrap_i64]; have h1 := HSH.out; omega
    go_upto_region 9 with (first | (go_at_call 14; refine (H14q.out _ (below_on HB.out E3.out)).mono ?_; rintro e u4 ⟨qt, qtc, qd, qdc, gv, qvc, qj, qjc, qs, qsc, gj, gs, rfl, ⟨hF4, hg1, hg2, hfz⟩, kk⟩; have K4 := hide kk; have E4 := hide (below_on E3.out kk); have HF4 := hide hF4; have HG1 := hide hg1; have HG2 := hide hg2; have HFZ := hide hfz; clear kk hF4 hg1; have fz5 := hfz (k * 11 + 5); have cz5 : u4.cell? ⟨gv, k * 11 + 5, none⟩ = some (.int .i64 cl) := (by have h9 := cpf_cell5 HF4.out HK.out rfl; rw [HCL.out] at h9; exact h9); have ngx : ¬ gv = u4.heap.size := (by omega); clear hfz c30 c31 c32 c33 c34 c35 c36 c37) | fail)
    obtain ⟨Z, hZ⟩ : ∃ Z, (u4.setCell ⟨gv, k * 11 + 5, none⟩ (.int .i64 (cl + (mr : Int)))).alloc (.cells #[.int .i64 p.dims, .int .i64 p.time.n, .slice qt p.time.cells.length qtc, .int .i64 p.dist.n, .slice qd p.dist.cells.length qdc, .slice (some ⟨gv, 0, none⟩) p.vs.length qvc, .slice qj p.js.length qjc, .slice qs p.ss.length qsc] 29) = Z := ⟨_, rfl⟩
    rw [hZ]
    have hss : (u4.setCell ⟨gv, k * 11 + 5, none⟩ (.int .i64 (cl + (mr : Int)))).heap.size = u4.heap.size := by simp [World.setCell]
    have HPZ : Hid (PrbV Z ⟨.slice qt p.time.cells.length qtc, .slice qd p.dist.cells.length qdc, .slice (some ⟨gv, 0, none⟩) p.vs.length qvc, .slice qj p.js.length qjc, .slice qs p.ss.length qsc⟩ (endP p k (cl + mr))) := by
      show PrbV _ _ _
      rw [← hZ]
      exact (shift_close HF4.out HK.out rfl).on ((Below.refl _ _).alloc (Nat.le_refl _) _)
    have HXQ : Hid (Z.heap[u4.heap.size]? = some (.cells #[.int .i64 p.dims, .int .i64 p.time.n, .slice qt p.time.cells.length qtc, .int .i64 p.dist.n, .slice qd p.dist.cells.length qdc, .slice (some ⟨gv, 0, none⟩) p.vs.length qvc, .slice qj p.js.length qjc, .slice qs p.ss.length qsc] 29 (0, 0))) := by
      show _ = _
      rw [← hZ, ← hss]
      exact new_block _ _
    have EZ : Hid (Below u3.heap.size u3 Z) := by
      show Below _ _ _
      rw [← hZ]
      refine (Below.setCell K4.out ?_ _).alloc ?_ _
      · have h1 := HG1.out
        show u3.heap.size ≤ gv
        omega
      · rw [hss]; exact K4.out.size
    have E5 := hide (below_on E3.out EZ.out)
    have HX8Z := hide ((EZ.out.block _ (lt_of_block HX8.out)).trans HX8.out)
    clear hZ hss cz5 fz5 ngx hg2 jcl
    have cz0 : Z.cell? ⟨w.heap.size, 0, none⟩ = some (.int .i64 p.dims) := ((bcell E5.out).1 _ _ (lt_of_block HX1.out)).trans (cell_of_row _ _ _ _ _ _ HX1.out)
    have cz1 : Z.cell? ⟨w.heap.size, 1, none⟩ = some (.int .i64 p.time.n) := ((bcell E5.out).1 _ _ (lt_of_block HX1.out)).trans (cell_of_row _ _ _ _ _ _ HX1.out)
    have cz2 : Z.cell? ⟨w.heap.size, 2, none⟩ = some (.slice ta p.time.cells.length tc) := ((bcell E5.out).1 _ _ (lt_of_block HX1.out)).trans (cell_of_row _ _ _ _ _ _ HX1.out)
    have cz3 : Z.cell? ⟨w.heap.size, 3, none⟩ = some (.int .i64 p.dist.n) := ((bcell E5.out).1 _ _ (lt_of_block HX1.out)).trans (cell_of_row _ _ _ _ _ _ HX1.out)
    have cz4 : Z.cell? ⟨w.heap.size, 4, none⟩ = some (.slice da p.dist.cells.length dc) := ((bcell E5.out).1 _ _ (lt_of_block HX1.out)).trans (cell_of_row _ _ _ _ _ _ HX1.out)
    have cz5 : Z.cell? ⟨w.heap.size, 5, none⟩ = some (.slice va p.vs.length vc9) := ((bcell E5.out).1 _ _ (lt_of_block HX1.out)).trans (cell_of_row _ _ _ _ _ _ HX1.out)
    have cz6 : Z.cell? ⟨w.heap.size, 6, none⟩ = some (.slice ja p.js.length jc) := ((bcell E5.out).1 _ _ (lt_of_block HX1.out)).trans (cell_of_row _ _ _ _ _ _ HX1.out)
    have cz7 : Z.cell? ⟨w.heap.size, 7, none⟩ = some (.slice sa p.ss.length sc) := ((bcell E5.out).1 _ _ (lt_of_block HX1.out)).trans (cell_of_row _ _ _ _ _ _ HX1.out)
    have zq0 : Z.cell? ⟨u4.heap.size, 0, none⟩ = some (.int .i64 p.dims) := cell_of_row _ _ _ _ _ _ HXQ.out
    have zq1 : Z.cell? ⟨u4.heap.size, 1, none⟩ = some (.int .i64 p.time.n) := cell_of_row _ _ _ _ _ _ HXQ.out
    have zq2 : Z.cell? ⟨u4.heap.size, 2, none⟩ = some (.slice qt p.time.cells.length qtc) := cell_of_row _ _ _ _ _ _ HXQ.out
    have zq3 : Z.cell? ⟨u4.heap.size, 3, none⟩ = some (.int .i64 p.dist.n) := cell_of_row _ _ _ _ _ _ HXQ.out
    have zq4 : Z.cell? ⟨u4.heap.size, 4, none⟩ = some (.slice qd p.dist.cells.length qdc) := cell_of_row _ _ _ _ _ _ HXQ.out
    have zq5 : Z.cell? ⟨u4.heap.size, 5, none⟩ = some (.slice (some ⟨gv, 0, none⟩) p.vs.length qvc) := cell_of_row _ _ _ _ _ _ HXQ.out
    have zq6 : Z.cell? ⟨u4.heap.size, 6, none⟩ = some (.slice qj p.js.length qjc) := cell_of_row _ _ _ _ _ _ HXQ.out
    have zq7 : Z.cell? ⟨u4.heap.size, 7, none⟩ = some (.slice qs p.ss.length qsc) := cell_of_row _ _ _ _ _ _ HXQ.out
    obtain ⟨bq, hbq⟩ : ∃ z, lawM (endP p k (cl + mr)) = z := ⟨_, rfl⟩
    have HBQ := hide hbq
    have H18 : Hid (∀ W2, Below Z.heap.size Z W2 → Calls Try.prog 18 #[.agg #[.int .i64 p.dims, .int .i64 p.time.n, .slice qt p.time.cells.length qtc, .int .i64 p.dist.n, .slice qd p.dist.cells.length qdc, .slice (some ⟨gv, 0, none⟩) p.vs.length qvc, .slice qj p.js.length qjc, .slice qs p.ss.length qsc]] W2 fun e w' => e = .returned (.bool bq) ∧ Below W2.heap.size W2 w') := fun W2 hf => by
      have h9 := lawful12_any (HPZ.out.on hf)
      rw [hbq] at h9
      rw [show prbE (endP p k (cl + mr)) ⟨.slice qt p.time.cells.length qtc, .slice qd p.dist.cells.length qdc, .slice (some ⟨gv, 0, none⟩) p.vs.length qvc, .slice qj p.js.length qjc, .slice qs p.ss.length qsc⟩ = #[.int .i64 p.dims, .int .i64 p.time.n, .slice qt p.time.cells.length qtc, .int .i64 p.dist.n, .slice qd p.dist.cells.length qdc, .slice (some ⟨gv, 0, none⟩) p.vs.length qvc, .slice qj p.js.length qjc, .slice qs p.ss.length qsc] from by unfold prbE endP; simp] at h9
      exact h9
    clear hbq
    cases bq with
    | false =>
      go_wp2_with (first | (go_at_call 18; refine (H18.out _ (Below.refl _ _)).mono ?_; rintro e u5 ⟨rfl, kk⟩; have K5 := hide kk; have E6 := hide (below_on E5.out kk); clear kk cz0 zq0 cz1 zq1 cz2 zq2 cz3 zq3 cz4 zq4 cz5 zq5 cz6 zq6 cz7 zq7) | fail)
      go_ret
      exact ⟨rfl, below_on HB.out E6.out⟩
    | true =>
      go_upto_region 11 with (first | (go_at_call 18; refine (H18.out _ (Below.refl _ _)).mono ?_; rintro e u5 ⟨rfl, kk⟩; have K5 := hide kk; have E6 := hide (below_on E5.out kk); clear kk cz0 zq0 cz1 zq1 cz2 zq2 cz3 zq3 cz4 zq4 cz5 zq5 cz6 zq6 cz7 zq7) | fail)
      have HS : Hid (∀ w', Below u5.heap.size u5 w' → w'.cell? ⟨w.heap.size, 0, none⟩ = some (.int .i64 p.dims) ∧ w'.cell? ⟨w.heap.size, 1, none⟩ = some (.int .i64 p.time.n) ∧ w'.cell? ⟨w.heap.size, 2, none⟩ = some (.slice ta p.time.cells.length tc) ∧ w'.cell? ⟨w.heap.size, 3, none⟩ = some (.int .i64 p.dist.n) ∧ w'.cell? ⟨w.heap.size, 4, none⟩ = some (.slice da p.dist.cells.length dc) ∧ w'.cell? ⟨w.heap.size, 5, none⟩ = some (.slice va p.vs.length vc9) ∧ w'.cell? ⟨w.heap.size, 6, none⟩ = some (.slice ja p.js.length jc) ∧ w'.cell? ⟨w.heap.size, 7, none⟩ = some (.slice sa p.ss.length sc) ∧ w'.cell? ⟨u2.heap.size, 0, none⟩ = some (.int .i64 (k : Int)) ∧ w'.cell? ⟨u2.heap.size, 1, none⟩ = some (.slice a n c) ∧ w'.cell? ⟨u2.heap.size, 2, none⟩ = some (.int .i64 tm) ∧ w'.cell? ⟨u2.heap.size, 3, none⟩ = some (.int .i64 ds) ∧ w'.cell? ⟨u2.heap.size, 4, none⟩ = some (.int .i64 wt) ∧ w'.cell? ⟨u2.heap.size, 5, none⟩ = some (.int .i64 sv) ∧ w'.cell? ⟨u2.heap.size, 6, none⟩ = some (.int .i64 co) ∧ w'.cell? ⟨u4.heap.size, 0, none⟩ = some (.int .i64 p.dims) ∧ w'.cell? ⟨u4.heap.size, 1, none⟩ = some (.int .i64 p.time.n) ∧ w'.cell? ⟨u4.heap.size, 2, none⟩ = some (.slice qt p.time.cells.length qtc) ∧ w'.cell? ⟨u4.heap.size, 3, none⟩ = some (.int .i64 p.dist.n) ∧ w'.cell? ⟨u4.heap.size, 4, none⟩ = some (.slice qd p.dist.cells.length qdc) ∧ w'.cell? ⟨u4.heap.size, 5, none⟩ = some (.slice (some ⟨gv, 0, none⟩) p.vs.length qvc) ∧ w'.cell? ⟨u4.heap.size, 6, none⟩ = some (.slice qj p.js.length qjc) ∧ w'.cell? ⟨u4.heap.size, 7, none⟩ = some (.slice qs p.ss.length qsc)) := fun w' hf => ⟨((bcell (below_on E6.out hf)).1 _ _ (lt_of_block HX1.out)).trans (cell_of_row _ _ _ _ _ _ HX1.out), ((bcell (below_on E6.out hf)).1 _ _ (lt_of_block HX1.out)).trans (cell_of_row _ _ _ _ _ _ HX1.out), ((bcell (below_on E6.out hf)).1 _ _ (lt_of_block HX1.out)).trans (cell_of_row _ _ _ _ _ _ HX1.out), ((bcell (below_on E6.out hf)).1 _ _ (lt_of_block HX1.out)).trans (cell_of_row _ _ _ _ _ _ HX1.out), ((bcell (below_on E6.out hf)).1 _ _ (lt_of_block HX1.out)).trans (cell_of_row _ _ _ _ _ _ HX1.out), ((bcell (below_on E6.out hf)).1 _ _ (lt_of_block HX1.out)).trans (cell_of_row _ _ _ _ _ _ HX1.out), ((bcell (below_on E6.out hf)).1 _ _ (lt_of_block HX1.out)).trans (cell_of_row _ _ _ _ _ _ HX1.out), ((bcell (below_on E6.out hf)).1 _ _ (lt_of_block HX1.out)).trans (cell_of_row _ _ _ _ _ _ HX1.out), ((bcell (below_on K5.out hf)).1 _ _ (lt_of_block HX8Z.out)).trans (cell_of_row _ _ _ _ _ _ HX8Z.out), ((bcell (below_on K5.out hf)).1 _ _ (lt_of_block HX8Z.out)).trans (cell_of_row _ _ _ _ _ _ HX8Z.out), ((bcell (below_on K5.out hf)).1 _ _ (lt_of_block HX8Z.out)).trans (cell_of_row _ _ _ _ _ _ HX8Z.out), ((bcell (below_on K5.out hf)).1 _ _ (lt_of_block HX8Z.out)).trans (cell_of_row _ _ _ _ _ _ HX8Z.out), ((bcell (below_on K5.out hf)).1 _ _ (lt_of_block HX8Z.out)).trans (cell_of_row _ _ _ _ _ _ HX8Z.out), ((bcell (below_on K5.out hf)).1 _ _ (lt_of_block HX8Z.out)).trans (cell_of_row _ _ _ _ _ _ HX8Z.out), ((bcell (below_on K5.out hf)).1 _ _ (lt_of_block HX8Z.out)).trans (cell_of_row _ _ _ _ _ _ HX8Z.out), ((bcell (below_on K5.out hf)).1 _ _ (lt_of_block HXQ.out)).trans (cell_of_row _ _ _ _ _ _ HXQ.out), ((bcell (below_on K5.out hf)).1 _ _ (lt_of_block HXQ.out)).trans (cell_of_row _ _ _ _ _ _ HXQ.out), ((bcell (below_on K5.out hf)).1 _ _ (lt_of_block HXQ.out)).trans (cell_of_row _ _ _ _ _ _ HXQ.out), ((bcell (below_on K5.out hf)).1 _ _ (lt_of_block HXQ.out)).trans (cell_of_row _ _ _ _ _ _ HXQ.out), ((bcell (below_on K5.out hf)).1 _ _ (lt_of_block HXQ.out)).trans (cell_of_row _ _ _ _ _ _ HXQ.out), ((bcell (below_on K5.out hf)).1 _ _ (lt_of_block HXQ.out)).trans (cell_of_row _ _ _ _ _ _ HXQ.out), ((bcell (below_on K5.out hf)).1 _ _ (lt_of_block HXQ.out)).trans (cell_of_row _ _ _ _ _ _ HXQ.out), ((bcell (below_on K5.out hf)).1 _ _ (lt_of_block HXQ.out)).trans (cell_of_row _ _ _ _ _ _ HXQ.out)⟩
      have EU : Hid (Below u3.heap.size u3 u5) := below_on EZ.out K5.out
      go_cut [12, 13] from 47 to 54 (fun v12 v13 wx => ∃ nb mb : Nat, v12 = .slice (some ⟨nb, 0, none⟩) n n ∧ v13 = .slice (some ⟨mb, 0, none⟩) n n ∧ Hid (IRow wx u3.heap.size (.slice (some ⟨nb, 0, none⟩) n n) l) ∧ Hid (IRow wx u3.heap.size (.slice (some ⟨mb, 0, none⟩) n n) l2) ∧ Hid (Below u5.heap.size u5 wx))
      case first =>
        refine wp_region_held_drew (S := (fun w' => w'.cell? ⟨w.heap.size, 0, none⟩ = some (.int .i64 p.dims) ∧ w'.cell? ⟨w.heap.size, 1, none⟩ = some (.int .i64 p.time.n) ∧ w'.cell? ⟨w.heap.size, 2, none⟩ = some (.slice ta p.time.cells.length tc) ∧ w'.cell? ⟨w.heap.size, 3, none⟩ = some (.int .i64 p.dist.n) ∧ w'.cell? ⟨w.heap.size, 4, none⟩ = some (.slice da p.dist.cells.length dc) ∧ w'.cell? ⟨w.heap.size, 5, none⟩ = some (.slice va p.vs.length vc9) ∧ w'.cell? ⟨w.heap.size, 6, none⟩ = some (.slice ja p.js.length jc) ∧ w'.cell? ⟨w.heap.size, 7, none⟩ = some (.slice sa p.ss.length sc) ∧ w'.cell? ⟨u2.heap.size, 0, none⟩ = some (.int .i64 (k : Int)) ∧ w'.cell? ⟨u2.heap.size, 1, none⟩ = some (.slice a n c) ∧ w'.cell? ⟨u2.heap.size, 2, none⟩ = some (.int .i64 tm) ∧ w'.cell? ⟨u2.heap.size, 3, none⟩ = some (.int .i64 ds) ∧ w'.cell? ⟨u2.heap.size, 4, none⟩ = some (.int .i64 wt) ∧ w'.cell? ⟨u2.heap.size, 5, none⟩ = some (.int .i64 sv) ∧ w'.cell? ⟨u2.heap.size, 6, none⟩ = some (.int .i64 co) ∧ w'.cell? ⟨u4.heap.size, 0, none⟩ = some (.int .i64 p.dims) ∧ w'.cell? ⟨u4.heap.size, 1, none⟩ = some (.int .i64 p.time.n) ∧ w'.cell? ⟨u4.heap.size, 2, none⟩ = some (.slice qt p.time.cells.length qtc) ∧ w'.cell? ⟨u4.heap.size, 3, none⟩ = some (.int .i64 p.dist.n) ∧ w'.cell? ⟨u4.heap.size, 4, none⟩ = some (.slice qd p.dist.cells.length qdc) ∧ w'.cell? ⟨u4.heap.size, 5, none⟩ = some (.slice (some ⟨gv, 0, none⟩) p.vs.length qvc) ∧ w'.cell? ⟨u4.heap.size, 6, none⟩ = some (.slice qj p.js.length qjc) ∧ w'.cell? ⟨u4.heap.size, 7, none⟩ = some (.slice qs p.ss.length qsc))) (by kernel_rfl) ?_ (fun hHeld0 => ?_)
        · (try dsimp only); first | fail | exact HS.out _ (Below.refl _ _) | exact HS.out _ ((Below.refl _ _).drew) | (go_keep; done)
        obtain ⟨u0, hu0⟩ : ∃ u, u5.drew = u := ⟨_, rfl⟩
        rw [hu0]
        rw [hu0] at hHeld0
        have K0 : Hid (Below u5.heap.size u5 u0) := by show Below _ _ _; rw [← hu0]; exact ((Below.refl _ _).drew)
        clear hu0
        refine wpAnyH_take (i := 0) (oi := { dst := some 47, op := Op.load 29 (Operand.tmp 4), type := 29, pos := "law.go:128", after := #[], guard := none }) (v := ?_) rfl (by kernel_rfl) (by kernel_rfl) (by kernel_rfl) (fun _ _ _ h => h) (Or.inl ⟨by rfl, ?_⟩) (by assumption) ?_
        rotate_left
        · intro w hSw; (try dsimp only at hSw); first | (go_simp; done) | (go_simp; with_reducible rfl) | with_reducible rfl | rfl
        try simp only [Act.put, List.setIfInBounds_toArray, List.set_cons_succ, List.set_cons_zero]
        refine wpAnyH_take (i := 2) (oi := { dst := some 49, op := Op.load 34 (Operand.tmp 9), type := 34, pos := "law.go:128", after := #[], guard := none }) (v := ?_) rfl (by kernel_rfl) (by kernel_rfl) (by kernel_rfl) (fun _ _ _ h => h) (Or.inl ⟨by rfl, ?_⟩) (by assumption) ?_
        rotate_left
        · intro w hSw; (try dsimp only at hSw); first | (go_simp; done) | (go_simp; with_reducible rfl) | with_reducible rfl | rfl
        try simp only [Act.put, List.setIfInBounds_toArray, List.set_cons_succ, List.set_cons_zero]
        refine wpAnyH_take (i := 4) (oi := { dst := some 51, op := Op.load 29 (Operand.tmp 11), type := 29, pos := "law.go:128", after := #[], guard := none }) (v := ?_) rfl (by kernel_rfl) (by kernel_rfl) (by kernel_rfl) (fun _ _ _ h => h) (Or.inl ⟨by rfl, ?_⟩) (by assumption) ?_
        rotate_left
        · intro w hSw; (try dsimp only at hSw); first | (go_simp; done) | (go_simp; with_reducible rfl) | with_reducible rfl | rfl
        try simp only [Act.put, List.setIfInBounds_toArray, List.set_cons_succ, List.set_cons_zero]
        refine wpAnyH_take (i := 5) (oi := { dst := some 52, op := Op.load 34 (Operand.tmp 9), type := 34, pos := "law.go:128", after := #[], guard := none }) (v := ?_) rfl (by kernel_rfl) (by kernel_rfl) (by kernel_rfl) (fun _ _ _ h => h) (Or.inl ⟨by rfl, ?_⟩) (by assumption) ?_
        rotate_left
        · intro w hSw; (try dsimp only at hSw); first | (go_simp; done) | (go_simp; with_reducible rfl) | with_reducible rfl | rfl
        try simp only [Act.put, List.setIfInBounds_toArray, List.set_cons_succ, List.set_cons_zero]
        refine wpAnyH_ready (rs := [1]) (by kernel_rfl) (by simp) ?_
        refine AllReadyH.cons (o := { dst := some 48, op := Op.call { callee := Callee.value (Operand.func 14), args := #[Operand.tmp 47], argTypes := #[29] }, type := 29, pos := "law.go:128", after := #[{ on := 0, ground := Ground.data }], guard := none }) rfl (fun K hK => ?_) ?_
        · refine held_call (by rfl) 14 _ _ (by rfl) hz14 [.agg #[.int .i64 p.dims, .int .i64 p.time.n, .slice ta p.time.cells.length tc, .int .i64 p.dist.n, .slice da p.dist.cells.length dc, .slice va p.vs.length vc9, .slice ja p.js.length jc, .slice sa p.ss.length sc]] (by rfl) ?_; refine (H14.out _ (below_on HB.out (below_on E6.out K0.out))).mono ?_; rintro e u1 ⟨xt, xtc, xd, xdc, xv, xvc, xj, xjc, xs, xsc, rfl, hpq, k9⟩; refine ⟨_, rfl, ?_⟩; have E1 := hide k9; have K1 := hide (below_on K0.out k9); clear k9
          have HQa1 := hide (hpq)
          clear hpq
          refine hK.out _ _ ?_ (fun hHeld1 => ?_)
          · (try dsimp only); exact HS.out _ K1.out
          clear hK K
          try simp only [Act.put, List.setIfInBounds_toArray, List.set_cons_succ, List.set_cons_zero]
          clear hHeld0
          refine wpAnyH_ready (rs := [3]) (by kernel_rfl) (by simp) ?_
          refine AllReadyH.cons (o := { dst := some 50, op := Op.call { callee := Callee.value (Operand.func 13), args := #[Operand.tmp 48, Operand.tmp 49], argTypes := #[29, 34] }, type := 22, pos := "law.go:128", after := #[{ on := 1, ground := Ground.data }, { on := 2, ground := Ground.data }, { on := 1, ground := Ground.chain }], guard := none }) rfl (fun K hK => ?_) ?_
          · refine held_call (by rfl) 13 _ _ (by rfl) hz13 [.agg #[.int .i64 p.dims, .int .i64 p.time.n, .slice xt p.time.cells.length xtc, .int .i64 p.dist.n, .slice xd p.dist.cells.length xdc, .slice xv p.vs.length xvc, .slice xj p.js.length xjc, .slice xs p.ss.length xsc], .agg #[.int .i64 (k : Int), .slice a n c, .int .i64 tm, .int .i64 ds, .int .i64 wt, .int .i64 sv, .int .i64 co]] (by rfl) ?_; refine (H13.out _ _ (below_on EU.out K1.out) HQa1.out).mono ?_; rintro e u2 ⟨nb, rfl, hrn, k9⟩; refine ⟨_, rfl, ?_⟩; have E2 := hide k9; have K2 := hide (below_on K1.out k9); clear k9
            have HQa2 := hide (PrbV.on HQa1.out E2.out)
            clear HQa1
            have HRn2 := hide (hrn)
            clear hrn
            refine hK.out _ _ ?_ (fun hHeld2 => ?_)
            · (try dsimp only); exact HS.out _ K2.out
            clear hK K
            try simp only [Act.put, List.setIfInBounds_toArray, List.set_cons_succ, List.set_cons_zero]
            clear hHeld1
            refine wpAnyH_ready (rs := [6]) (by kernel_rfl) (by simp) ?_
            refine AllReadyH.cons (o := { dst := some 53, op := Op.call { callee := Callee.value (Operand.func 13), args := #[Operand.tmp 51, Operand.tmp 52], argTypes := #[29, 34] }, type := 22, pos := "law.go:128", after := #[{ on := 4, ground := Ground.data }, { on := 5, ground := Ground.data }, { on := 3, ground := Ground.chain }], guard := none }) rfl (fun K hK => ?_) ?_
            · refine held_call (by rfl) 13 _ _ (by rfl) hz13 [.agg #[.int .i64 p.dims, .int .i64 p.time.n, .slice qt p.time.cells.length qtc, .int .i64 p.dist.n, .slice qd p.dist.cells.length qdc, .slice (some ⟨gv, 0, none⟩) p.vs.length qvc, .slice qj p.js.length qjc, .slice qs p.ss.length qsc], .agg #[.int .i64 (k : Int), .slice a n c, .int .i64 tm, .int .i64 ds, .int .i64 wt, .int .i64 sv, .int .i64 co]] (by rfl) ?_; refine (H13q.out _ ⟨.slice qt p.time.cells.length qtc, .slice qd p.dist.cells.length qdc, .slice (some ⟨gv, 0, none⟩) p.vs.length qvc, .slice qj p.js.length qjc, .slice qs p.ss.length qsc⟩ HBQ.out (below_on EU.out K2.out) (HPZ.out.on (below_on K5.out K2.out))).mono ?_; rintro e u3 ⟨mb, rfl, hrm, k9⟩; refine ⟨_, rfl, ?_⟩; have E3 := hide k9; have K3 := hide (below_on K2.out k9); clear k9
              have HQa3 := hide (PrbV.on HQa2.out E3.out)
              have HRn3 := hide (IRow.later HRn2.out (Nat.le_refl _) E3.out)
              clear HQa2 HRn2
              have HRm3 := hide (hrm)
              clear hrm
              refine hK.out _ _ ?_ (fun hHeld3 => ?_)
              · (try dsimp only); exact HS.out _ K3.out
              clear hK K
              try simp only [Act.put, List.setIfInBounds_toArray, List.set_cons_succ, List.set_cons_zero]
              clear hHeld2
              refine wpAnyH_take (i := 7) (oi := { dst := some 12, op := Op.assign (Operand.tmp 50), type := 22, pos := "law.go:128", after := #[{ on := 3, ground := Ground.data }, { on := 6, ground := Ground.chain }, { on := 0, ground := Ground.phase }, { on := 1, ground := Ground.phase }, { on := 2, ground := Ground.phase }, { on := 3, ground := Ground.phase }, { on := 4, ground := Ground.textOnly Departure.lateStores }, { on := 5, ground := Ground.textOnly Departure.lateStores }, { on := 6, ground := Ground.textOnly Departure.lateStoresUnsure }], guard := none }) (v := ?_) rfl (by kernel_rfl) (by kernel_rfl) (by kernel_rfl) (fun _ _ _ h => h) (Or.inl ⟨by rfl, ?_⟩) (by assumption) ?_
              rotate_left
              · intro w hSw; (try dsimp only at hSw); first | (go_simp; done) | (go_simp; with_reducible rfl) | with_reducible rfl | rfl
              try simp only [Act.put, List.setIfInBounds_toArray, List.set_cons_succ, List.set_cons_zero]
              refine wpAnyH_take (i := 8) (oi := { dst := some 13, op := Op.assign (Operand.tmp 53), type := 22, pos := "law.go:128", after := #[{ on := 6, ground := Ground.data }, { on := 7, ground := Ground.chain }, { on := 0, ground := Ground.phase }, { on := 1, ground := Ground.phase }, { on := 2, ground := Ground.phase }, { on := 3, ground := Ground.phase }, { on := 4, ground := Ground.phase }, { on := 5, ground := Ground.phase }, { on := 6, ground := Ground.phase }, { on := 7, ground := Ground.phase }], guard := none }) (v := ?_) rfl (by kernel_rfl) (by kernel_rfl) (by kernel_rfl) (fun _ _ _ h => h) (Or.inl ⟨by rfl, ?_⟩) (by assumption) ?_
              rotate_left
              · intro w hSw; (try dsimp only at hSw); first | (go_simp; done) | (go_simp; with_reducible rfl) | with_reducible rfl | rfl
              try simp only [Act.put, List.setIfInBounds_toArray, List.set_cons_succ, List.set_cons_zero]
              refine wpAnyH_done (by kernel_rfl) ?_ _
              clear hHeld3
              go_wp2_with fail
              go_meet
              case rel => exact ⟨nb, mb, rfl, rfl, HRn3.out.mono (by first | exact (below_on EU.out K0.out).size | exact (below_on EU.out K1.out).size | exact (below_on EU.out K2.out).size | exact (below_on EU.out K3.out).size), HRm3.out.mono (by first | exact (below_on EU.out K0.out).size | exact (below_on EU.out K1.out).size | exact (below_on EU.out K2.out).size | exact (below_on EU.out K3.out).size), K3.out⟩
            exact AllReadyH.nil
          exact AllReadyH.nil
        exact AllReadyH.nil
      case rest =>
      obtain ⟨nb, mb, rfl, rfl, HN6, HM6, K6⟩ := hcut
      rename World => u6
      have E7 := hide (below_on E6.out K6.out)
      go_wp2_with fail
      go_loopw [61] (fun vi wr => ∃ q : Nat, vi = .int .i64 q ∧ q ≤ n ∧ Hid (Below u6.heap.size u6 wr)) (fun vi _ => n - (intOf vi).toNat)
      case atStart => exact ⟨0, rfl, Nat.zero_le _, Below.refl _ _⟩
      case round =>
        rename World => wr
        obtain ⟨q, rfl, hq, HR⟩ := hrel
        by_cases hqn : q < n
        · have hcn : wr.cell? ⟨nb, q, none⟩ = some (.int .i64 (l.getD q 0)) := by have h8 := HN6.out.later (Nat.le_refl _) HR.out; rw [← rowL_all (show l.length = n from HLB.out.1)] at h8; have h9 := h8.cell q (by rw [rowL_len]; exact hqn); rw [rowL_at (Nat.zero_le _) hqn] at h9; exact h9
          have hcm : wr.cell? ⟨mb, q, none⟩ = some (.int .i64 (l2.getD q 0)) := by have h8 := HM6.out.later (Nat.le_refl _) HR.out; rw [← rowL_all (show l2.length = n from HLC.out.1)] at h8; have h9 := h8.cell q (by rw [rowL_len]; exact hqn); rw [rowL_at (Nat.zero_le _) hqn] at h9; exact h9
          have hle := HLC.out.2.1 q hqn
          have hb := HLB.out.2 q hqn
          have hend : q = n - 1 → l2.getD q 0 = l.getD q 0 + mr := fun e => by
            have h1 := HNN.out
            have h2 : q = G.length := by omega
            rw [h2, HLC.out.2.2.1, HLC.out.2.2.2]
          obtain ⟨lq, hlq⟩ : ∃ z, l.getD q 0 = z := ⟨_, rfl⟩
          obtain ⟨bq, hbq⟩ : ∃ z, l2.getD q 0 = z := ⟨_, rfl⟩
          rw [hlq] at hcn hle hb hend
          rw [hbq] at hcm hle hend
          have j1 : (q : Int) < (n : Int) := by omega
          have j2 : (0 : Int) ≤ (q : Int) := by omega
          have j3 : IntKind.i64.wrap (lq + (mr : Int)) = lq + (mr : Int) := by rw [IntKind.wrap_i64]; have h1 := HMR.out; omega
          obtain ⟨n9, hn9⟩ : ∃ z, n - 1 = z := ⟨_, rfl⟩
          have HN9 : Hid (n = n9 + 1) := by show _ = _; have h1 := HNN.out; omega
          rw [hn9] at hend
          have j4 : IntKind.i64.wrap ((n : Int) - 1) = (n9 : Int) := by rw [IntKind.wrap_i64]; have h1 := HNN.out; omega
          have j5 : IntKind.i64.wrap ((q : Int) + 1) = ((q + 1 : Nat) : Int) := by rw [IntKind.wrap_i64]; have h1 := HNN.out; omega
          have j6 : ¬ bq < lq := by omega
          have HSR : Hid (∀ w', Below wr.heap.size wr w' → w'.cell? ⟨nb, q, none⟩ = some (.int .i64 lq) ∧ w'.cell? ⟨mb, q, none⟩ = some (.int .i64 bq)) := fun w' hf => ⟨((bcell hf).1 _ _ (block_lt_of_cell hcn)).trans hcn, ((bcell hf).1 _ _ (block_lt_of_cell hcm)).trans hcm⟩
          clear hn9 hlq hbq
          by_cases hgt : lq + (mr : Int) < bq
          · have hnq : ¬ q = n9 := fun e => by have h1 := hend e; omega
            have j7 : ((q : Int) == (n9 : Int)) = false := by simp; omega
            have HQ := hide hend
            clear hend
            go_upto_region 17 with fail
            refine wp_region_held_drew (S := (fun w' => w'.cell? ⟨nb, q, none⟩ = some (.int .i64 lq) ∧ w'.cell? ⟨mb, q, none⟩ = some (.int .i64 bq))) (by kernel_rfl) ?_ (fun hHeld0 => ?_)
            · (try dsimp only); first | fail | exact HSR.out _ (Below.refl _ _) | exact HSR.out _ ((Below.refl _ _).drew) | (go_keep; done)
            obtain ⟨u0, hu0⟩ : ∃ u, wr.drew = u := ⟨_, rfl⟩
            rw [hu0]
            rw [hu0] at hHeld0
            have K0 : Hid (Below wr.heap.size wr u0) := by show Below _ _ _; rw [← hu0]; exact ((Below.refl _ _).drew)
            clear hu0
            refine wpAnyH_take (i := 0) (oi := { dst := some 64, op := Op.move (Operand.tmp 13), type := 22, pos := "law.go:133", after := #[], guard := none }) (v := ?_) rfl (by kernel_rfl) (by kernel_rfl) (by kernel_rfl) (fun _ _ _ h => h) (Or.inl ⟨by rfl, ?_⟩) (by assumption) ?_
            rotate_left
            · intro w hSw; (try dsimp only at hSw); first | (go_simp; done) | (go_simp; with_reducible rfl) | with_reducible rfl | rfl
            try simp only [Act.put, List.setIfInBounds_toArray, List.set_cons_succ, List.set_cons_zero]
            refine wpAnyH_take (i := 1) (oi := { dst := some 65, op := Op.move (Operand.tmp 14), type := 3, pos := "law.go:133", after := #[], guard := none }) (v := ?_) rfl (by kernel_rfl) (by kernel_rfl) (by kernel_rfl) (fun _ _ _ h => h) (Or.inl ⟨by rfl, ?_⟩) (by assumption) ?_
            rotate_left
            · intro w hSw; (try dsimp only at hSw); first | (go_simp; done) | (go_simp; with_reducible rfl) | with_reducible rfl | rfl
            try simp only [Act.put, List.setIfInBounds_toArray, List.set_cons_succ, List.set_cons_zero]
            refine wpAnyH_take (i := 2) (oi := { dst := some 66, op := Op.indexAddr 22 (Operand.tmp 64) (Operand.tmp 65), type := 0, pos := "law.go:133", after := #[{ on := 0, ground := Ground.data }, { on := 1, ground := Ground.data }], guard := none }) (v := ?_) rfl (by kernel_rfl) (by kernel_rfl) (by kernel_rfl) (fun _ _ _ h => h) (Or.inl ⟨by rfl, ?_⟩) (by assumption) ?_
            rotate_left
            · intro w hSw; (try dsimp only at hSw); first | (go_simp; done) | (go_simp; with_reducible rfl) | with_reducible rfl | rfl
            try simp only [Act.put, List.setIfInBounds_toArray, List.set_cons_succ, List.set_cons_zero]
            refine wpAnyH_take (i := 3) (oi := { dst := some 67, op := Op.load 3 (Operand.tmp 66), type := 3, pos := "law.go:133", after := #[{ on := 2, ground := Ground.data }], guard := none }) (v := ?_) rfl (by kernel_rfl) (by kernel_rfl) (by kernel_rfl) (fun _ _ _ h => h) (Or.inl ⟨by rfl, ?_⟩) (by assumption) ?_
            rotate_left
            · intro w hSw; (try dsimp only at hSw); first | (go_simp; done) | (go_simp; with_reducible rfl) | with_reducible rfl | rfl
            try simp only [Act.put, List.setIfInBounds_toArray, List.set_cons_succ, List.set_cons_zero]
            refine wpAnyH_take (i := 4) (oi := { dst := some 68, op := Op.move (Operand.tmp 12), type := 22, pos := "law.go:133", after := #[], guard := none }) (v := ?_) rfl (by kernel_rfl) (by kernel_rfl) (by kernel_rfl) (fun _ _ _ h => h) (Or.inl ⟨by rfl, ?_⟩) (by assumption) ?_
            rotate_left
            · intro w hSw; (try dsimp only at hSw); first | (go_simp; done) | (go_simp; with_reducible rfl) | with_reducible rfl | rfl
            try simp only [Act.put, List.setIfInBounds_toArray, List.set_cons_succ, List.set_cons_zero]
            refine wpAnyH_take (i := 5) (oi := { dst := some 69, op := Op.move (Operand.tmp 14), type := 3, pos := "law.go:133", after := #[], guard := none }) (v := ?_) rfl (by kernel_rfl) (by kernel_rfl) (by kernel_rfl) (fun _ _ _ h => h) (Or.inl ⟨by rfl, ?_⟩) (by assumption) ?_
            rotate_left
            · intro w hSw; (try dsimp only at hSw); first | (go_simp; done) | (go_simp; with_reducible rfl) | with_reducible rfl | rfl
            try simp only [Act.put, List.setIfInBounds_toArray, List.set_cons_succ, List.set_cons_zero]
            refine wpAnyH_take (i := 6) (oi := { dst := some 70, op := Op.indexAddr 22 (Operand.tmp 68) (Operand.tmp 69), type := 0, pos := "law.go:133", after := #[{ on := 4, ground := Ground.data }, { on := 5, ground := Ground.data }], guard := none }) (v := ?_) rfl (by kernel_rfl) (by kernel_rfl) (by kernel_rfl) (fun _ _ _ h => h) (Or.inl ⟨by rfl, ?_⟩) (by assumption) ?_
            rotate_left
            · intro w hSw; (try dsimp only at hSw); first | (go_simp; done) | (go_simp; with_reducible rfl) | with_reducible rfl | rfl
            try simp only [Act.put, List.setIfInBounds_toArray, List.set_cons_succ, List.set_cons_zero]
            refine wpAnyH_take (i := 7) (oi := { dst := some 71, op := Op.load 3 (Operand.tmp 70), type := 3, pos := "law.go:133", after := #[{ on := 6, ground := Ground.data }], guard := none }) (v := ?_) rfl (by kernel_rfl) (by kernel_rfl) (by kernel_rfl) (fun _ _ _ h => h) (Or.inl ⟨by rfl, ?_⟩) (by assumption) ?_
            rotate_left
            · intro w hSw; (try dsimp only at hSw); first | (go_simp; done) | (go_simp; with_reducible rfl) | with_reducible rfl | rfl
            try simp only [Act.put, List.setIfInBounds_toArray, List.set_cons_succ, List.set_cons_zero]
            refine wpAnyH_take (i := 8) (oi := { dst := some 72, op := Op.binOp BinOp.lss 3 (Operand.tmp 67) (Operand.tmp 71) 3, type := 4, pos := "law.go:133", after := #[{ on := 3, ground := Ground.data }, { on := 7, ground := Ground.data }], guard := none }) (v := ?_) rfl (by kernel_rfl) (by kernel_rfl) (by kernel_rfl) (fun _ _ _ h => h) (Or.inl ⟨by rfl, ?_⟩) (by assumption) ?_
            rotate_left
            · intro w hSw; (try dsimp only at hSw); first | (go_simp; done) | (go_simp; with_reducible rfl) | with_reducible rfl | rfl
            try simp only [Act.put, List.setIfInBounds_toArray, List.set_cons_succ, List.set_cons_zero]
            refine wpAnyH_take (i := 9) (oi := { dst := some 73, op := Op.move (Operand.tmp 72), type := 4, pos := "law.go:133", after := #[{ on := 8, ground := Ground.data }], guard := none }) (v := ?_) rfl (by kernel_rfl) (by kernel_rfl) (by kernel_rfl) (fun _ _ _ h => h) (Or.inl ⟨by rfl, ?_⟩) (by assumption) ?_
            rotate_left
            · intro w hSw; (try dsimp only at hSw); first | (go_simp; done) | (go_simp; with_reducible rfl) | with_reducible rfl | rfl
            try simp only [Act.put, List.setIfInBounds_toArray, List.set_cons_succ, List.set_cons_zero]
            refine wpAnyH_take (i := 10) (oi := { dst := some 74, op := Op.move (Operand.tmp 13), type := 22, pos := "law.go:133", after := #[{ on := 9, ground := Ground.guard }], guard := some (9, false) }) (v := ?_) rfl (by kernel_rfl) (by kernel_rfl) (by kernel_rfl) (fun _ _ _ h => h) (Or.inl ⟨by rfl, ?_⟩) (by assumption) ?_
            rotate_left
            · intro w hSw; (try dsimp only at hSw); first | (go_simp; done) | (go_simp; with_reducible rfl) | with_reducible rfl | rfl
            try simp only [Act.put, List.setIfInBounds_toArray, List.set_cons_succ, List.set_cons_zero]
            refine wpAnyH_take (i := 11) (oi := { dst := some 75, op := Op.move (Operand.tmp 14), type := 3, pos := "law.go:133", after := #[{ on := 9, ground := Ground.guard }], guard := some (9, false) }) (v := ?_) rfl (by kernel_rfl) (by kernel_rfl) (by kernel_rfl) (fun _ _ _ h => h) (Or.inl ⟨by rfl, ?_⟩) (by assumption) ?_
            rotate_left
            · intro w hSw; (try dsimp only at hSw); first | (go_simp; done) | (go_simp; with_reducible rfl) | with_reducible rfl | rfl
            try simp only [Act.put, List.setIfInBounds_toArray, List.set_cons_succ, List.set_cons_zero]
            refine wpAnyH_take (i := 12) (oi := { dst := some 76, op := Op.indexAddr 22 (Operand.tmp 74) (Operand.tmp 75), type := 0, pos := "law.go:133", after := #[{ on := 10, ground := Ground.data }, { on := 11, ground := Ground.data }, { on := 9, ground := Ground.guard }], guard := some (9, false) }) (v := ?_) rfl (by kernel_rfl) (by kernel_rfl) (by kernel_rfl) (fun _ _ _ h => h) (Or.inl ⟨by rfl, ?_⟩) (by assumption) ?_
            rotate_left
            · intro w hSw; (try dsimp only at hSw); first | (go_simp; done) | (go_simp; with_reducible rfl) | with_reducible rfl | rfl
            try simp only [Act.put, List.setIfInBounds_toArray, List.set_cons_succ, List.set_cons_zero]
            refine wpAnyH_take (i := 13) (oi := { dst := some 77, op := Op.load 3 (Operand.tmp 76), type := 3, pos := "law.go:133", after := #[{ on := 12, ground := Ground.data }, { on := 9, ground := Ground.guard }], guard := some (9, false) }) (v := ?_) rfl (by kernel_rfl) (by kernel_rfl) (by kernel_rfl) (fun _ _ _ h => h) (Or.inl ⟨by rfl, ?_⟩) (by assumption) ?_
            rotate_left
            · intro w hSw; (try dsimp only at hSw); first | (go_simp; done) | (go_simp; with_reducible rfl) | with_reducible rfl | rfl
            try simp only [Act.put, List.setIfInBounds_toArray, List.set_cons_succ, List.set_cons_zero]
            refine wpAnyH_take (i := 14) (oi := { dst := some 78, op := Op.move (Operand.tmp 12), type := 22, pos := "law.go:133", after := #[{ on := 9, ground := Ground.guard }], guard := some (9, false) }) (v := ?_) rfl (by kernel_rfl) (by kernel_rfl) (by kernel_rfl) (fun _ _ _ h => h) (Or.inl ⟨by rfl, ?_⟩) (by assumption) ?_
            rotate_left
            · intro w hSw; (try dsimp only at hSw); first | (go_simp; done) | (go_simp; with_reducible rfl) | with_reducible rfl | rfl
            try simp only [Act.put, List.setIfInBounds_toArray, List.set_cons_succ, List.set_cons_zero]
            refine wpAnyH_take (i := 15) (oi := { dst := some 79, op := Op.move (Operand.tmp 14), type := 3, pos := "law.go:133", after := #[{ on := 9, ground := Ground.guard }], guard := some (9, false) }) (v := ?_) rfl (by kernel_rfl) (by kernel_rfl) (by kernel_rfl) (fun _ _ _ h => h) (Or.inl ⟨by rfl, ?_⟩) (by assumption) ?_
            rotate_left
            · intro w hSw; (try dsimp only at hSw); first | (go_simp; done) | (go_simp; with_reducible rfl) | with_reducible rfl | rfl
            try simp only [Act.put, List.setIfInBounds_toArray, List.set_cons_succ, List.set_cons_zero]
            refine wpAnyH_take (i := 16) (oi := { dst := some 80, op := Op.indexAddr 22 (Operand.tmp 78) (Operand.tmp 79), type := 0, pos := "law.go:133", after := #[{ on := 14, ground := Ground.data }, { on := 15, ground := Ground.data }, { on := 9, ground := Ground.guard }], guard := some (9, false) }) (v := ?_) rfl (by kernel_rfl) (by kernel_rfl) (by kernel_rfl) (fun _ _ _ h => h) (Or.inl ⟨by rfl, ?_⟩) (by assumption) ?_
            rotate_left
            · intro w hSw; (try dsimp only at hSw); first | (go_simp; done) | (go_simp; with_reducible rfl) | with_reducible rfl | rfl
            try simp only [Act.put, List.setIfInBounds_toArray, List.set_cons_succ, List.set_cons_zero]
            refine wpAnyH_take (i := 17) (oi := { dst := some 81, op := Op.load 3 (Operand.tmp 80), type := 3, pos := "law.go:133", after := #[{ on := 16, ground := Ground.data }, { on := 9, ground := Ground.guard }], guard := some (9, false) }) (v := ?_) rfl (by kernel_rfl) (by kernel_rfl) (by kernel_rfl) (fun _ _ _ h => h) (Or.inl ⟨by rfl, ?_⟩) (by assumption) ?_
            rotate_left
            · intro w hSw; (try dsimp only at hSw); first | (go_simp; done) | (go_simp; with_reducible rfl) | with_reducible rfl | rfl
            try simp only [Act.put, List.setIfInBounds_toArray, List.set_cons_succ, List.set_cons_zero]
            refine wpAnyH_take (i := 18) (oi := { dst := some 82, op := Op.move (Operand.tmp 3), type := 3, pos := "law.go:133", after := #[{ on := 9, ground := Ground.guard }], guard := some (9, false) }) (v := ?_) rfl (by kernel_rfl) (by kernel_rfl) (by kernel_rfl) (fun _ _ _ h => h) (Or.inl ⟨by rfl, ?_⟩) (by assumption) ?_
            rotate_left
            · intro w hSw; (try dsimp only at hSw); first | (go_simp; done) | (go_simp; with_reducible rfl) | with_reducible rfl | rfl
            try simp only [Act.put, List.setIfInBounds_toArray, List.set_cons_succ, List.set_cons_zero]
            refine wpAnyH_take (i := 19) (oi := { dst := some 83, op := Op.binOp BinOp.add 3 (Operand.tmp 81) (Operand.tmp 82) 3, type := 3, pos := "law.go:133", after := #[{ on := 17, ground := Ground.data }, { on := 18, ground := Ground.data }, { on := 9, ground := Ground.guard }], guard := some (9, false) }) (v := ?_) rfl (by kernel_rfl) (by kernel_rfl) (by kernel_rfl) (fun _ _ _ h => h) (Or.inl ⟨by rfl, ?_⟩) (by assumption) ?_
            rotate_left
            · intro w hSw; (try dsimp only at hSw); first | (go_simp; done) | (go_simp; with_reducible rfl) | with_reducible rfl | rfl
            try simp only [Act.put, List.setIfInBounds_toArray, List.set_cons_succ, List.set_cons_zero]
            refine wpAnyH_take (i := 20) (oi := { dst := some 84, op := Op.binOp BinOp.gtr 3 (Operand.tmp 77) (Operand.tmp 83) 3, type := 4, pos := "law.go:133", after := #[{ on := 13, ground := Ground.data }, { on := 19, ground := Ground.data }, { on := 9, ground := Ground.guard }], guard := some (9, false) }) (v := ?_) rfl (by kernel_rfl) (by kernel_rfl) (by kernel_rfl) (fun _ _ _ h => h) (Or.inl ⟨by rfl, ?_⟩) (by assumption) ?_
            rotate_left
            · intro w hSw; (try dsimp only at hSw); first | (go_simp; done) | (go_simp; with_reducible rfl) | with_reducible rfl | rfl
            try simp only [Act.put, List.setIfInBounds_toArray, List.set_cons_succ, List.set_cons_zero]
            refine wpAnyH_take (i := 21) (oi := { dst := some 85, op := Op.move (Operand.tmp 84), type := 4, pos := "law.go:133", after := #[{ on := 20, ground := Ground.data }, { on := 9, ground := Ground.chain }, { on := 9, ground := Ground.guard }], guard := some (9, false) }) (v := ?_) rfl (by kernel_rfl) (by kernel_rfl) (by kernel_rfl) (fun _ _ _ h => h) (Or.inl ⟨by rfl, ?_⟩) (by assumption) ?_
            rotate_left
            · intro w hSw; (try dsimp only at hSw); first | (go_simp; done) | (go_simp; with_reducible rfl) | with_reducible rfl | rfl
            try simp only [Act.put, List.setIfInBounds_toArray, List.set_cons_succ, List.set_cons_zero]
            refine wpAnyH_take (i := 22) (oi := { dst := some 86, op := Op.move (Operand.tmp 14), type := 3, pos := "law.go:133", after := #[{ on := 21, ground := Ground.guard }], guard := some (21, true) }) (v := ?_) rfl (by kernel_rfl) (by kernel_rfl) (by kernel_rfl) (fun _ _ _ h => h) (Or.inl ⟨by rfl, ?_⟩) (by assumption) ?_
            rotate_left
            · intro w hSw; (try dsimp only at hSw); first | (go_simp; done) | (go_simp; with_reducible rfl) | with_reducible rfl | rfl
            try simp only [Act.put, List.setIfInBounds_toArray, List.set_cons_succ, List.set_cons_zero]
            refine wpAnyH_take (i := 23) (oi := { dst := some 87, op := Op.move (Operand.tmp 12), type := 22, pos := "law.go:133", after := #[{ on := 21, ground := Ground.guard }], guard := some (21, true) }) (v := ?_) rfl (by kernel_rfl) (by kernel_rfl) (by kernel_rfl) (fun _ _ _ h => h) (Or.inl ⟨by rfl, ?_⟩) (by assumption) ?_
            rotate_left
            · intro w hSw; (try dsimp only at hSw); first | (go_simp; done) | (go_simp; with_reducible rfl) | with_reducible rfl | rfl
            try simp only [Act.put, List.setIfInBounds_toArray, List.set_cons_succ, List.set_cons_zero]
            refine wpAnyH_take (i := 24) (oi := { dst := some 88, op := Op.call { callee := Callee.builtin Builtin.len, args := #[Operand.tmp 87], argTypes := #[22] }, type := 3, pos := "law.go:133", after := #[{ on := 23, ground := Ground.data }, { on := 21, ground := Ground.guard }], guard := some (21, true) }) (v := ?_) rfl (by kernel_rfl) (by kernel_rfl) (by kernel_rfl) (fun _ _ _ h => h) (Or.inl ⟨by rfl, ?_⟩) (by assumption) ?_
            rotate_left
            · intro w hSw; (try dsimp only at hSw); first | (go_simp; done) | (go_simp; with_reducible rfl) | with_reducible rfl | rfl
            try simp only [Act.put, List.setIfInBounds_toArray, List.set_cons_succ, List.set_cons_zero]
            refine wpAnyH_take (i := 25) (oi := { dst := some 89, op := Op.binOp BinOp.sub 3 (Operand.tmp 88) (Operand.const (Value.int IntKind.i64 1)) 3, type := 3, pos := "law.go:133", after := #[{ on := 24, ground := Ground.data }, { on := 21, ground := Ground.guard }], guard := some (21, true) }) (v := ?_) rfl (by kernel_rfl) (by kernel_rfl) (by kernel_rfl) (fun _ _ _ h => h) (Or.inl ⟨by rfl, ?_⟩) (by assumption) ?_
            rotate_left
            · intro w hSw; (try dsimp only at hSw); first | (go_simp; done) | (go_simp; with_reducible rfl) | with_reducible rfl | rfl
            try simp only [Act.put, List.setIfInBounds_toArray, List.set_cons_succ, List.set_cons_zero]
            refine wpAnyH_take (i := 26) (oi := { dst := some 90, op := Op.binOp BinOp.eql 3 (Operand.tmp 86) (Operand.tmp 89) 3, type := 4, pos := "law.go:133", after := #[{ on := 22, ground := Ground.data }, { on := 25, ground := Ground.data }, { on := 21, ground := Ground.guard }], guard := some (21, true) }) (v := ?_) rfl (by kernel_rfl) (by kernel_rfl) (by kernel_rfl) (fun _ _ _ h => h) (Or.inl ⟨by rfl, ?_⟩) (by assumption) ?_
            rotate_left
            · intro w hSw; (try dsimp only at hSw); first | (go_simp; done) | (go_simp; with_reducible rfl) | with_reducible rfl | rfl
            try simp only [Act.put, List.setIfInBounds_toArray, List.set_cons_succ, List.set_cons_zero]
            refine wpAnyH_take (i := 27) (oi := { dst := some 91, op := Op.pick (Operand.tmp 85) (Operand.tmp 90) (Operand.const (Value.bool false)), type := 4, pos := "law.go:133", after := #[{ on := 21, ground := Ground.data }, { on := 26, ground := Ground.data }, { on := 9, ground := Ground.guard }], guard := some (9, false) }) (v := ?_) rfl (by kernel_rfl) (by kernel_rfl) (by kernel_rfl) (fun _ _ _ h => h) (Or.inl ⟨by rfl, ?_⟩) (by assumption) ?_
            rotate_left
            · intro w hSw; (try dsimp only at hSw); first | (go_simp; done) | (go_simp; with_reducible rfl) | with_reducible rfl | rfl
            try simp only [Act.put, List.setIfInBounds_toArray, List.set_cons_succ, List.set_cons_zero]
            refine wpAnyH_take (i := 28) (oi := { dst := some 92, op := Op.pick (Operand.tmp 73) (Operand.const (Value.bool true)) (Operand.tmp 91), type := 4, pos := "law.go:133", after := #[{ on := 9, ground := Ground.data }, { on := 27, ground := Ground.data }], guard := none }) (v := ?_) rfl (by kernel_rfl) (by kernel_rfl) (by kernel_rfl) (fun _ _ _ h => h) (Or.inl ⟨by rfl, ?_⟩) (by assumption) ?_
            rotate_left
            · intro w hSw; (try dsimp only at hSw); first | (go_simp; done) | (go_simp; with_reducible rfl) | with_reducible rfl | rfl
            try simp only [Act.put, List.setIfInBounds_toArray, List.set_cons_succ, List.set_cons_zero]
            refine wpAnyH_done (by kernel_rfl) ?_ _
            clear hHeld0
            go_wp2_with fail
            go_roundw
            case rel => exact ⟨q + 1, rfl, by omega, below_on HR.out K0.out⟩
            case measure => simp [intOf]; omega
          · have HQ := hide hend
            clear hend
            go_upto_region 17 with fail
            refine wp_region_held_drew (S := (fun w' => w'.cell? ⟨nb, q, none⟩ = some (.int .i64 lq) ∧ w'.cell? ⟨mb, q, none⟩ = some (.int .i64 bq))) (by kernel_rfl) ?_ (fun hHeld0 => ?_)
            · (try dsimp only); first | fail | exact HSR.out _ (Below.refl _ _) | exact HSR.out _ ((Below.refl _ _).drew) | (go_keep; done)
            obtain ⟨u0, hu0⟩ : ∃ u, wr.drew = u := ⟨_, rfl⟩
            rw [hu0]
            rw [hu0] at hHeld0
            have K0 : Hid (Below wr.heap.size wr u0) := by show Below _ _ _; rw [← hu0]; exact ((Below.refl _ _).drew)
            clear hu0
            refine wpAnyH_take (i := 0) (oi := { dst := some 64, op := Op.move (Operand.tmp 13), type := 22, pos := "law.go:133", after := #[], guard := none }) (v := ?_) rfl (by kernel_rfl) (by kernel_rfl) (by kernel_rfl) (fun _ _ _ h => h) (Or.inl ⟨by rfl, ?_⟩) (by assumption) ?_
            rotate_left
            · intro w hSw; (try dsimp only at hSw); first | (go_simp; done) | (go_simp; with_reducible rfl) | with_reducible rfl | rfl
            try simp only [Act.put, List.setIfInBounds_toArray, List.set_cons_succ, List.set_cons_zero]
            refine wpAnyH_take (i := 1) (oi := { dst := some 65, op := Op.move (Operand.tmp 14), type := 3, pos := "law.go:133", after := #[], guard := none }) (v := ?_) rfl (by kernel_rfl) (by kernel_rfl) (by kernel_rfl) (fun _ _ _ h => h) (Or.inl ⟨by rfl, ?_⟩) (by assumption) ?_
            rotate_left
            · intro w hSw; (try dsimp only at hSw); first | (go_simp; done) | (go_simp; with_reducible rfl) | with_reducible rfl | rfl
            try simp only [Act.put, List.setIfInBounds_toArray, List.set_cons_succ, List.set_cons_zero]
            refine wpAnyH_take (i := 2) (oi := { dst := some 66, op := Op.indexAddr 22 (Operand.tmp 64) (Operand.tmp 65), type := 0, pos := "law.go:133", after := #[{ on := 0, ground := Ground.data }, { on := 1, ground := Ground.data }], guard := none }) (v := ?_) rfl (by kernel_rfl) (by kernel_rfl) (by kernel_rfl) (fun _ _ _ h => h) (Or.inl ⟨by rfl, ?_⟩) (by assumption) ?_
            rotate_left
            · intro w hSw; (try dsimp only at hSw); first | (go_simp; done) | (go_simp; with_reducible rfl) | with_reducible rfl | rfl
            try simp only [Act.put, List.setIfInBounds_toArray, List.set_cons_succ, List.set_cons_zero]
            refine wpAnyH_take (i := 3) (oi := { dst := some 67, op := Op.load 3 (Operand.tmp 66), type := 3, pos := "law.go:133", after := #[{ on := 2, ground := Ground.data }], guard := none }) (v := ?_) rfl (by kernel_rfl) (by kernel_rfl) (by kernel_rfl) (fun _ _ _ h => h) (Or.inl ⟨by rfl, ?_⟩) (by assumption) ?_
            rotate_left
            · intro w hSw; (try dsimp only at hSw); first | (go_simp; done) | (go_simp; with_reducible rfl) | with_reducible rfl | rfl
            try simp only [Act.put, List.setIfInBounds_toArray, List.set_cons_succ, List.set_cons_zero]
            refine wpAnyH_take (i := 4) (oi := { dst := some 68, op := Op.move (Operand.tmp 12), type := 22, pos := "law.go:133", after := #[], guard := none }) (v := ?_) rfl (by kernel_rfl) (by kernel_rfl) (by kernel_rfl) (fun _ _ _ h => h) (Or.inl ⟨by rfl, ?_⟩) (by assumption) ?_
            rotate_left
            · intro w hSw; (try dsimp only at hSw); first | (go_simp; done) | (go_simp; with_reducible rfl) | with_reducible rfl | rfl
            try simp only [Act.put, List.setIfInBounds_toArray, List.set_cons_succ, List.set_cons_zero]
            refine wpAnyH_take (i := 5) (oi := { dst := some 69, op := Op.move (Operand.tmp 14), type := 3, pos := "law.go:133", after := #[], guard := none }) (v := ?_) rfl (by kernel_rfl) (by kernel_rfl) (by kernel_rfl) (fun _ _ _ h => h) (Or.inl ⟨by rfl, ?_⟩) (by assumption) ?_
            rotate_left
            · intro w hSw; (try dsimp only at hSw); first | (go_simp; done) | (go_simp; with_reducible rfl) | with_reducible rfl | rfl
            try simp only [Act.put, List.setIfInBounds_toArray, List.set_cons_succ, List.set_cons_zero]
            refine wpAnyH_take (i := 6) (oi := { dst := some 70, op := Op.indexAddr 22 (Operand.tmp 68) (Operand.tmp 69), type := 0, pos := "law.go:133", after := #[{ on := 4, ground := Ground.data }, { on := 5, ground := Ground.data }], guard := none }) (v := ?_) rfl (by kernel_rfl) (by kernel_rfl) (by kernel_rfl) (fun _ _ _ h => h) (Or.inl ⟨by rfl, ?_⟩) (by assumption) ?_
            rotate_left
            · intro w hSw; (try dsimp only at hSw); first | (go_simp; done) | (go_simp; with_reducible rfl) | with_reducible rfl | rfl
            try simp only [Act.put, List.setIfInBounds_toArray, List.set_cons_succ, List.set_cons_zero]
            refine wpAnyH_take (i := 7) (oi := { dst := some 71, op := Op.load 3 (Operand.tmp 70), type := 3, pos := "law.go:133", after := #[{ on := 6, ground := Ground.data }], guard := none }) (v := ?_) rfl (by kernel_rfl) (by kernel_rfl) (by kernel_rfl) (fun _ _ _ h => h) (Or.inl ⟨by rfl, ?_⟩) (by assumption) ?_
            rotate_left
            · intro w hSw; (try dsimp only at hSw); first | (go_simp; done) | (go_simp; with_reducible rfl) | with_reducible rfl | rfl
            try simp only [Act.put, List.setIfInBounds_toArray, List.set_cons_succ, List.set_cons_zero]
            refine wpAnyH_take (i := 8) (oi := { dst := some 72, op := Op.binOp BinOp.lss 3 (Operand.tmp 67) (Operand.tmp 71) 3, type := 4, pos := "law.go:133", after := #[{ on := 3, ground := Ground.data }, { on := 7, ground := Ground.data }], guard := none }) (v := ?_) rfl (by kernel_rfl) (by kernel_rfl) (by kernel_rfl) (fun _ _ _ h => h) (Or.inl ⟨by rfl, ?_⟩) (by assumption) ?_
            rotate_left
            · intro w hSw; (try dsimp only at hSw); first | (go_simp; done) | (go_simp; with_reducible rfl) | with_reducible rfl | rfl
            try simp only [Act.put, List.setIfInBounds_toArray, List.set_cons_succ, List.set_cons_zero]
            refine wpAnyH_take (i := 9) (oi := { dst := some 73, op := Op.move (Operand.tmp 72), type := 4, pos := "law.go:133", after := #[{ on := 8, ground := Ground.data }], guard := none }) (v := ?_) rfl (by kernel_rfl) (by kernel_rfl) (by kernel_rfl) (fun _ _ _ h => h) (Or.inl ⟨by rfl, ?_⟩) (by assumption) ?_
            rotate_left
            · intro w hSw; (try dsimp only at hSw); first | (go_simp; done) | (go_simp; with_reducible rfl) | with_reducible rfl | rfl
            try simp only [Act.put, List.setIfInBounds_toArray, List.set_cons_succ, List.set_cons_zero]
            refine wpAnyH_take (i := 10) (oi := { dst := some 74, op := Op.move (Operand.tmp 13), type := 22, pos := "law.go:133", after := #[{ on := 9, ground := Ground.guard }], guard := some (9, false) }) (v := ?_) rfl (by kernel_rfl) (by kernel_rfl) (by kernel_rfl) (fun _ _ _ h => h) (Or.inl ⟨by rfl, ?_⟩) (by assumption) ?_
            rotate_left
            · intro w hSw; (try dsimp only at hSw); first | (go_simp; done) | (go_simp; with_reducible rfl) | with_reducible rfl | rfl
            try simp only [Act.put, List.setIfInBounds_toArray, List.set_cons_succ, List.set_cons_zero]
            refine wpAnyH_take (i := 11) (oi := { dst := some 75, op := Op.move (Operand.tmp 14), type := 3, pos := "law.go:133", after := #[{ on := 9, ground := Ground.guard }], guard := some (9, false) }) (v := ?_) rfl (by kernel_rfl) (by kernel_rfl) (by kernel_rfl) (fun _ _ _ h => h) (Or.inl ⟨by rfl, ?_⟩) (by assumption) ?_
            rotate_left
            · intro w hSw; (try dsimp only at hSw); first | (go_simp; done) | (go_simp; with_reducible rfl) | with_reducible rfl | rfl
            try simp only [Act.put, List.setIfInBounds_toArray, List.set_cons_succ, List.set_cons_zero]
            refine wpAnyH_take (i := 12) (oi := { dst := some 76, op := Op.indexAddr 22 (Operand.tmp 74) (Operand.tmp 75), type := 0, pos := "law.go:133", after := #[{ on := 10, ground := Ground.data }, { on := 11, ground := Ground.data }, { on := 9, ground := Ground.guard }], guard := some (9, false) }) (v := ?_) rfl (by kernel_rfl) (by kernel_rfl) (by kernel_rfl) (fun _ _ _ h => h) (Or.inl ⟨by rfl, ?_⟩) (by assumption) ?_
            rotate_left
            · intro w hSw; (try dsimp only at hSw); first | (go_simp; done) | (go_simp; with_reducible rfl) | with_reducible rfl | rfl
            try simp only [Act.put, List.setIfInBounds_toArray, List.set_cons_succ, List.set_cons_zero]
            refine wpAnyH_take (i := 13) (oi := { dst := some 77, op := Op.load 3 (Operand.tmp 76), type := 3, pos := "law.go:133", after := #[{ on := 12, ground := Ground.data }, { on := 9, ground := Ground.guard }], guard := some (9, false) }) (v := ?_) rfl (by kernel_rfl) (by kernel_rfl) (by kernel_rfl) (fun _ _ _ h => h) (Or.inl ⟨by rfl, ?_⟩) (by assumption) ?_
            rotate_left
            · intro w hSw; (try dsimp only at hSw); first | (go_simp; done) | (go_simp; with_reducible rfl) | with_reducible rfl | rfl
            try simp only [Act.put, List.setIfInBounds_toArray, List.set_cons_succ, List.set_cons_zero]
            refine wpAnyH_take (i := 14) (oi := { dst := some 78, op := Op.move (Operand.tmp 12), type := 22, pos := "law.go:133", after := #[{ on := 9, ground := Ground.guard }], guard := some (9, false) }) (v := ?_) rfl (by kernel_rfl) (by kernel_rfl) (by kernel_rfl) (fun _ _ _ h => h) (Or.inl ⟨by rfl, ?_⟩) (by assumption) ?_
            rotate_left
            · intro w hSw; (try dsimp only at hSw); first | (go_simp; done) | (go_simp; with_reducible rfl) | with_reducible rfl | rfl
            try simp only [Act.put, List.setIfInBounds_toArray, List.set_cons_succ, List.set_cons_zero]
            refine wpAnyH_take (i := 15) (oi := { dst := some 79, op := Op.move (Operand.tmp 14), type := 3, pos := "law.go:133", after := #[{ on := 9, ground := Ground.guard }], guard := some (9, false) }) (v := ?_) rfl (by kernel_rfl) (by kernel_rfl) (by kernel_rfl) (fun _ _ _ h => h) (Or.inl ⟨by rfl, ?_⟩) (by assumption) ?_
            rotate_left
            · intro w hSw; (try dsimp only at hSw); first | (go_simp; done) | (go_simp; with_reducible rfl) | with_reducible rfl | rfl
            try simp only [Act.put, List.setIfInBounds_toArray, List.set_cons_succ, List.set_cons_zero]
            refine wpAnyH_take (i := 16) (oi := { dst := some 80, op := Op.indexAddr 22 (Operand.tmp 78) (Operand.tmp 79), type := 0, pos := "law.go:133", after := #[{ on := 14, ground := Ground.data }, { on := 15, ground := Ground.data }, { on := 9, ground := Ground.guard }], guard := some (9, false) }) (v := ?_) rfl (by kernel_rfl) (by kernel_rfl) (by kernel_rfl) (fun _ _ _ h => h) (Or.inl ⟨by rfl, ?_⟩) (by assumption) ?_
            rotate_left
            · intro w hSw; (try dsimp only at hSw); first | (go_simp; done) | (go_simp; with_reducible rfl) | with_reducible rfl | rfl
            try simp only [Act.put, List.setIfInBounds_toArray, List.set_cons_succ, List.set_cons_zero]
            refine wpAnyH_take (i := 17) (oi := { dst := some 81, op := Op.load 3 (Operand.tmp 80), type := 3, pos := "law.go:133", after := #[{ on := 16, ground := Ground.data }, { on := 9, ground := Ground.guard }], guard := some (9, false) }) (v := ?_) rfl (by kernel_rfl) (by kernel_rfl) (by kernel_rfl) (fun _ _ _ h => h) (Or.inl ⟨by rfl, ?_⟩) (by assumption) ?_
            rotate_left
            · intro w hSw; (try dsimp only at hSw); first | (go_simp; done) | (go_simp; with_reducible rfl) | with_reducible rfl | rfl
            try simp only [Act.put, List.setIfInBounds_toArray, List.set_cons_succ, List.set_cons_zero]
            refine wpAnyH_take (i := 18) (oi := { dst := some 82, op := Op.move (Operand.tmp 3), type := 3, pos := "law.go:133", after := #[{ on := 9, ground := Ground.guard }], guard := some (9, false) }) (v := ?_) rfl (by kernel_rfl) (by kernel_rfl) (by kernel_rfl) (fun _ _ _ h => h) (Or.inl ⟨by rfl, ?_⟩) (by assumption) ?_
            rotate_left
            · intro w hSw; (try dsimp only at hSw); first | (go_simp; done) | (go_simp; with_reducible rfl) | with_reducible rfl | rfl
            try simp only [Act.put, List.setIfInBounds_toArray, List.set_cons_succ, List.set_cons_zero]
            refine wpAnyH_take (i := 19) (oi := { dst := some 83, op := Op.binOp BinOp.add 3 (Operand.tmp 81) (Operand.tmp 82) 3, type := 3, pos := "law.go:133", after := #[{ on := 17, ground := Ground.data }, { on := 18, ground := Ground.data }, { on := 9, ground := Ground.guard }], guard := some (9, false) }) (v := ?_) rfl (by kernel_rfl) (by kernel_rfl) (by kernel_rfl) (fun _ _ _ h => h) (Or.inl ⟨by rfl, ?_⟩) (by assumption) ?_
            rotate_left
            · intro w hSw; (try dsimp only at hSw); first | (go_simp; done) | (go_simp; with_reducible rfl) | with_reducible rfl | rfl
            try simp only [Act.put, List.setIfInBounds_toArray, List.set_cons_succ, List.set_cons_zero]
            refine wpAnyH_take (i := 20) (oi := { dst := some 84, op := Op.binOp BinOp.gtr 3 (Operand.tmp 77) (Operand.tmp 83) 3, type := 4, pos := "law.go:133", after := #[{ on := 13, ground := Ground.data }, { on := 19, ground := Ground.data }, { on := 9, ground := Ground.guard }], guard := some (9, false) }) (v := ?_) rfl (by kernel_rfl) (by kernel_rfl) (by kernel_rfl) (fun _ _ _ h => h) (Or.inl ⟨by rfl, ?_⟩) (by assumption) ?_
            rotate_left
            · intro w hSw; (try dsimp only at hSw); first | (go_simp; done) | (go_simp; with_reducible rfl) | with_reducible rfl | rfl
            try simp only [Act.put, List.setIfInBounds_toArray, List.set_cons_succ, List.set_cons_zero]
            refine wpAnyH_take (i := 21) (oi := { dst := some 85, op := Op.move (Operand.tmp 84), type := 4, pos := "law.go:133", after := #[{ on := 20, ground := Ground.data }, { on := 9, ground := Ground.chain }, { on := 9, ground := Ground.guard }], guard := some (9, false) }) (v := ?_) rfl (by kernel_rfl) (by kernel_rfl) (by kernel_rfl) (fun _ _ _ h => h) (Or.inl ⟨by rfl, ?_⟩) (by assumption) ?_
            rotate_left
            · intro w hSw; (try dsimp only at hSw); first | (go_simp; done) | (go_simp; with_reducible rfl) | with_reducible rfl | rfl
            try simp only [Act.put, List.setIfInBounds_toArray, List.set_cons_succ, List.set_cons_zero]
            refine wpAnyH_take (i := 22) (oi := { dst := some 86, op := Op.move (Operand.tmp 14), type := 3, pos := "law.go:133", after := #[{ on := 21, ground := Ground.guard }], guard := some (21, true) }) (v := undef) rfl (by kernel_rfl) (by kernel_rfl) (by kernel_rfl) (fun _ _ _ h => h) (Or.inr ⟨by rfl, rfl⟩) (by assumption) ?_
            try simp only [Act.put, List.setIfInBounds_toArray, List.set_cons_succ, List.set_cons_zero]
            refine wpAnyH_take (i := 23) (oi := { dst := some 87, op := Op.move (Operand.tmp 12), type := 22, pos := "law.go:133", after := #[{ on := 21, ground := Ground.guard }], guard := some (21, true) }) (v := undef) rfl (by kernel_rfl) (by kernel_rfl) (by kernel_rfl) (fun _ _ _ h => h) (Or.inr ⟨by rfl, rfl⟩) (by assumption) ?_
            try simp only [Act.put, List.setIfInBounds_toArray, List.set_cons_succ, List.set_cons_zero]
            refine wpAnyH_take (i := 24) (oi := { dst := some 88, op := Op.call { callee := Callee.builtin Builtin.len, args := #[Operand.tmp 87], argTypes := #[22] }, type := 3, pos := "law.go:133", after := #[{ on := 23, ground := Ground.data }, { on := 21, ground := Ground.guard }], guard := some (21, true) }) (v := undef) rfl (by kernel_rfl) (by kernel_rfl) (by kernel_rfl) (fun _ _ _ h => h) (Or.inr ⟨by rfl, rfl⟩) (by assumption) ?_
            try simp only [Act.put, List.setIfInBounds_toArray, List.set_cons_succ, List.set_cons_zero]
            refine wpAnyH_take (i := 25) (oi := { dst := some 89, op := Op.binOp BinOp.sub 3 (Operand.tmp 88) (Operand.const (Value.int IntKind.i64 1)) 3, type := 3, pos := "law.go:133", after := #[{ on := 24, ground := Ground.data }, { on := 21, ground := Ground.guard }], guard := some (21, true) }) (v := undef) rfl (by kernel_rfl) (by kernel_rfl) (by kernel_rfl) (fun _ _ _ h => h) (Or.inr ⟨by rfl, rfl⟩) (by assumption) ?_
            try simp only [Act.put, List.setIfInBounds_toArray, List.set_cons_succ, List.set_cons_zero]
            refine wpAnyH_take (i := 26) (oi := { dst := some 90, op := Op.binOp BinOp.eql 3 (Operand.tmp 86) (Operand.tmp 89) 3, type := 4, pos := "law.go:133", after := #[{ on := 22, ground := Ground.data }, { on := 25, ground := Ground.data }, { on := 21, ground := Ground.guard }], guard := some (21, true) }) (v := undef) rfl (by kernel_rfl) (by kernel_rfl) (by kernel_rfl) (fun _ _ _ h => h) (Or.inr ⟨by rfl, rfl⟩) (by assumption) ?_
            try simp only [Act.put, List.setIfInBounds_toArray, List.set_cons_succ, List.set_cons_zero]
            refine wpAnyH_take (i := 27) (oi := { dst := some 91, op := Op.pick (Operand.tmp 85) (Operand.tmp 90) (Operand.const (Value.bool false)), type := 4, pos := "law.go:133", after := #[{ on := 21, ground := Ground.data }, { on := 26, ground := Ground.data }, { on := 9, ground := Ground.guard }], guard := some (9, false) }) (v := ?_) rfl (by kernel_rfl) (by kernel_rfl) (by kernel_rfl) (fun _ _ _ h => h) (Or.inl ⟨by rfl, ?_⟩) (by assumption) ?_
            rotate_left
            · intro w hSw; (try dsimp only at hSw); first | (go_simp; done) | (go_simp; with_reducible rfl) | with_reducible rfl | rfl
            try simp only [Act.put, List.setIfInBounds_toArray, List.set_cons_succ, List.set_cons_zero]
            refine wpAnyH_take (i := 28) (oi := { dst := some 92, op := Op.pick (Operand.tmp 73) (Operand.const (Value.bool true)) (Operand.tmp 91), type := 4, pos := "law.go:133", after := #[{ on := 9, ground := Ground.data }, { on := 27, ground := Ground.data }], guard := none }) (v := ?_) rfl (by kernel_rfl) (by kernel_rfl) (by kernel_rfl) (fun _ _ _ h => h) (Or.inl ⟨by rfl, ?_⟩) (by assumption) ?_
            rotate_left
            · intro w hSw; (try dsimp only at hSw); first | (go_simp; done) | (go_simp; with_reducible rfl) | with_reducible rfl | rfl
            try simp only [Act.put, List.setIfInBounds_toArray, List.set_cons_succ, List.set_cons_zero]
            refine wpAnyH_done (by kernel_rfl) ?_ _
            clear hHeld0
            go_wp2_with fail
            go_roundw
            case rel => exact ⟨q + 1, rfl, by omega, below_on HR.out K0.out⟩
            case measure => simp [intOf]; omega
        · obtain rfl : q = n := by omega
          obtain ⟨n9, hn9⟩ : ∃ z, G.length = z := ⟨_, rfl⟩
          have hqg : q = n9 + 1 := by have h1 := HNN.out; omega
          have hlc := HLC.out.2.2
          rw [hn9] at hlc
          have hcn : wr.cell? ⟨nb, n9, none⟩ = some (.int .i64 (l.getD n9 0)) := by have h8 := HN6.out.later (Nat.le_refl _) HR.out; rw [← rowL_all (show l.length = q from HLB.out.1)] at h8; have h9 := h8.cell n9 (by rw [rowL_len]; exact (show n9 < q by omega)); rw [rowL_at (Nat.zero_le _) (show n9 < q by omega)] at h9; exact h9
          have hcm : wr.cell? ⟨mb, n9, none⟩ = some (.int .i64 (l2.getD n9 0)) := by have h8 := HM6.out.later (Nat.le_refl _) HR.out; rw [← rowL_all (show l2.length = q from HLC.out.1)] at h8; have h9 := h8.cell n9 (by rw [rowL_len]; exact (show n9 < q by omega)); rw [rowL_at (Nat.zero_le _) (show n9 < q by omega)] at h9; exact h9
          rw [hlc.1] at hcn
          rw [hlc.2] at hcm
          have j4 : IntKind.i64.wrap ((q : Int) - 1) = (n9 : Int) := by rw [IntKind.wrap_i64]; have h1 := HNN.out; omega
          have j1 : (n9 : Int) < (q : Int) := by omega
          have j2 : (0 : Int) ≤ (n9 : Int) := by omega
          have j3 : IntKind.i64.wrap (cl + (mr : Int)) = cl + (mr : Int) := by rw [IntKind.wrap_i64]; have h1 := HMR.out; have h2 := HSH.out; omega
          have HQG := hide hqg
          clear hlc hn9 hqg hqn
          have jq : ¬ (q : Int) < (q : Int) := by omega
          go_wp2_with fail
          first | (go_region_held3 (fun w' => w'.cell? ⟨nb, n9, none⟩ = some (.int .i64 cl) ∧ w'.cell? ⟨mb, n9, none⟩ = some (.int .i64 (cl + (mr : Int)))) (go_keep) (fail)) | fail
          rename_i hHeld
          clear hHeld
          go_wp2_with fail
          go_ret
          exact ⟨rfl, below_on HB.out (below_on E7.out HR.out.drew)⟩
end Go.Proofs.Ytndbikoccdjafaa
