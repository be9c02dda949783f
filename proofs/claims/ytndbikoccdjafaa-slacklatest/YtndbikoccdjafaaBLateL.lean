/-
  SlackLatest: at its Latest each step is in time, one later it isn't; Spare is how much that is.
-/
import Derived.BigRegion
import Derived.Test.YtndbikoccdjafaaBSkFG
import Derived.Test.YtndbikoccdjafaaBSk8
import Derived.Test.YtndbikoccdjafaaBSk10
import Derived.Test.YtndbikoccdjafaaBSkRG
import Derived.Test.YtndbikoccdjafaaBCCpX
namespace Go.Proofs.Ytndbikoccdjafaa
open Go.RowKit
theorem hl14 (args : Array Value) (w : World) : (callFunc 14 args).run Try.prog w = .ok (.enter 14 args) w := Go.Proofs.enters_of Try.func14 (by kernel_rfl) rfl args w
theorem hl13 (args : Array Value) (w : World) : (callFunc 13 args).run Try.prog w = .ok (.enter 13 args) w := Go.Proofs.enters_of Try.func13 (by kernel_rfl) rfl args w
theorem hl15 (args : Array Value) (w : World) : (callFunc 15 args).run Try.prog w = .ok (.enter 15 args) w := Go.Proofs.enters_of Try.func15 (by kernel_rfl) rfl args w
theorem hl16 (args : Array Value) (w : World) : (callFunc 16 args).run Try.prog w = .ok (.enter 16 args) w := Go.Proofs.enters_of Try.func16 (by kernel_rfl) rfl args w
theorem arrAt_get {L : List StepT} {j : Nat} {s : StepT} (h : L[j]? = some s) : arrAt L j = s.arr := by unfold arrAt; rw [h]; rfl
theorem irow_low {w : World} {b b2 : Nat} {v : Value} {xs : List Int} (h : IRow w b v xs) (hb : b2 ≤ b) : IRow w b2 v xs := h.mono hb
set_option maxRecDepth 100000 in
set_option maxHeartbeats 6400000 in
theorem slacklatest_any {w : World} {x : PrbS} {p : Prb} {m vc : Nat} {va0 : Option Addr} {V : List Vst} (h : PrbV w x p) (hV : VsV w (.slice va0 m vc) V) (hm : V.length = m) (vi : Int) : Calls Try.prog 3 #[.agg (prbE p x), .int .i64 vi, .slice va0 m vc] w fun e w' => e = .returned (.bool true) ∧ Below w.heap.size w w' := by
  have HP := hide h
  have HV := hide hV
  have HM := hide hm
  have hmb : m * 16 ≤ 140737488351232 := by obtain ⟨_, _, e, hb, _⟩ := hV; rw [← hm]; exact hb
  clear hV hm
  obtain ⟨ta, tc, da, dc, va, vc9, ja, jc, sa, sc, rfl⟩ := h.open
  clear h
  obtain ⟨mb, hmb2⟩ : ∃ z, madeB p vi V = z := ⟨_, rfl⟩
  have HMB := hide hmb2
  obtain ⟨W, hW⟩ : ∃ W, w.alloc (.cells #[.int .i64 p.dims, .int .i64 p.time.n, .slice ta p.time.cells.length tc, .int .i64 p.dist.n, .slice da p.dist.cells.length dc, .slice va p.vs.length vc9, .slice ja p.js.length jc, .slice sa p.ss.length sc] 29) = W := ⟨_, rfl⟩
  have HB : Hid (Below w.heap.size w W) := by show Below _ _ _; rw [← hW]; exact (Below.refl _ _).alloc (Nat.le_refl _) _
  have HX1 : Hid (W.heap[w.heap.size]? = some (.cells #[.int .i64 p.dims, .int .i64 p.time.n, .slice ta p.time.cells.length tc, .int .i64 p.dist.n, .slice da p.dist.cells.length dc, .slice va p.vs.length vc9, .slice ja p.js.length jc, .slice sa p.ss.length sc] 29 (0, 0))) := by show _ = _; rw [← hW]; exact new_block _ _
  have H12 : Hid (∀ W2, Below w.heap.size w W2 → Calls Try.prog 12 #[.agg #[.int .i64 p.dims, .int .i64 p.time.n, .slice ta p.time.cells.length tc, .int .i64 p.dist.n, .slice da p.dist.cells.length dc, .slice va p.vs.length vc9, .slice ja p.js.length jc, .slice sa p.ss.length sc], .int .i64 vi, .slice va0 m vc] W2 fun e w' => ∃ (pl : PlanT) (pa : Option Addr) (pn pc : Nat), e = .returned (.tuple #[.agg #[.int .i64 pl.veh, .slice pa pn pc, .int .i64 pl.time, .int .i64 pl.dist, .int .i64 pl.wait, .int .i64 pl.serv, .int .i64 pl.cost], .bool mb]) ∧ (PlanW w' W2.heap.size (.agg #[.int .i64 pl.veh, .slice pa pn pc, .int .i64 pl.time, .int .i64 pl.dist, .int .i64 pl.wait, .int .i64 pl.serv, .int .i64 pl.cost]) pl ∧ (mb = true → pl = fitP p vi V)) ∧ Below W2.heap.size W2 w') := fun W2 hf => by
    have h9 := made_any (HP.out.on hf) (PrV.on HV.out hf) HM.out vi
    rw [HMB.out] at h9
    refine h9.mono ?_
    rintro e w' ⟨v, pl, rfl, hp, hq, k9⟩
    obtain ⟨a, n, c, ys, rfl, hr, hn⟩ := id hp
    exact ⟨pl, a, n, c, rfl, ⟨hp, hq⟩, k9⟩
  unfold prbE
  simp only
  clear hmb2 hmb
  cases mb with
  | false =>
    go_enter Try.func3, Try.ntmps3
    go_wp2_with (first | (go_at_call 12; refine (H12.out _ (below_on HB.out E1.out)).mono ?_; rintro e u2 ⟨pl, pa, pn, pc, rfl, ⟨hpw, hpe⟩, kk⟩; have E2 := hide (below_on E1.out kk); have HPW := hide hpw; have HPE := hide hpe; clear kk hpw hpe; clear c10 c11 c12 c13 c14 c15 c16 c17) | (go_at_call 11; refine (awake_any _).mono ?_; rintro e u1 ⟨rfl, kk⟩; have E1 := hide kk; clear kk; have c10 : u1.cell? ⟨w.heap.size, 0, none⟩ = some (.int .i64 p.dims) := ((bcell E1.out).1 _ _ (lt_of_block HX1.out)).trans (cell_of_row _ _ _ _ _ _ HX1.out); have c11 : u1.cell? ⟨w.heap.size, 1, none⟩ = some (.int .i64 p.time.n) := ((bcell E1.out).1 _ _ (lt_of_block HX1.out)).trans (cell_of_row _ _ _ _ _ _ HX1.out); have c12 : u1.cell? ⟨w.heap.size, 2, none⟩ = some (.slice ta p.time.cells.length tc) := ((bcell E1.out).1 _ _ (lt_of_block HX1.out)).trans (cell_of_row _ _ _ _ _ _ HX1.out); have c13 : u1.cell? ⟨w.heap.size, 3, none⟩ = some (.int .i64 p.dist.n) := ((bcell E1.out).1 _ _ (lt_of_block HX1.out)).trans (cell_of_row _ _ _ _ _ _ HX1.out); have c14 : u1.cell? ⟨w.heap.size, 4, none⟩ = some (.slice da p.dist.cells.length dc) := ((bcell E1.out).1 _ _ (lt_of_block HX1.out)).trans (cell_of_row _ _ _ _ _ _ HX1.out); have c15 : u1.cell? ⟨w.heap.size, 5, none⟩ = some (.slice va p.vs.length vc9) := ((bcell E1.out).1 _ _ (lt_of_block HX1.out)).trans (cell_of_row _ _ _ _ _ _ HX1.out); have c16 : u1.cell? ⟨w.heap.size, 6, none⟩ = some (.slice ja p.js.length jc) := ((bcell E1.out).1 _ _ (lt_of_block HX1.out)).trans (cell_of_row _ _ _ _ _ _ HX1.out); have c17 : u1.cell? ⟨w.heap.size, 7, none⟩ = some (.slice sa p.ss.length sc) := ((bcell E1.out).1 _ _ (lt_of_block HX1.out)).trans (cell_of_row _ _ _ _ _ _ HX1.out)) | fail)
    go_ret
    exact ⟨rfl, (below_on HB.out E2.out).alloc (by have h1 := (below_on HB.out E2.out).size; omega) _⟩
  | true =>
    obtain ⟨k, L, G, l, e9, hF⟩ := made_facts HMB.out
    have HF := hide hF
    obtain rfl := hF.man
    clear hF
    go_enter Try.func3, Try.ntmps3
    go_upto_region 6 with (first | (go_at_call 12; refine (H12.out _ (below_on HB.out E1.out)).mono ?_; rintro e u2 ⟨pl, pa, pn, pc, rfl, ⟨hpw, hpe⟩, kk⟩; have E2 := hide (below_on E1.out kk); have HPW := hide hpw; have HPE := hide hpe; clear kk hpw hpe; clear c10 c11 c12 c13 c14 c15 c16 c17) | (go_at_call 11; refine (awake_any _).mono ?_; rintro e u1 ⟨rfl, kk⟩; have E1 := hide kk; clear kk; have c10 : u1.cell? ⟨w.heap.size, 0, none⟩ = some (.int .i64 p.dims) := ((bcell E1.out).1 _ _ (lt_of_block HX1.out)).trans (cell_of_row _ _ _ _ _ _ HX1.out); have c11 : u1.cell? ⟨w.heap.size, 1, none⟩ = some (.int .i64 p.time.n) := ((bcell E1.out).1 _ _ (lt_of_block HX1.out)).trans (cell_of_row _ _ _ _ _ _ HX1.out); have c12 : u1.cell? ⟨w.heap.size, 2, none⟩ = some (.slice ta p.time.cells.length tc) := ((bcell E1.out).1 _ _ (lt_of_block HX1.out)).trans (cell_of_row _ _ _ _ _ _ HX1.out); have c13 : u1.cell? ⟨w.heap.size, 3, none⟩ = some (.int .i64 p.dist.n) := ((bcell E1.out).1 _ _ (lt_of_block HX1.out)).trans (cell_of_row _ _ _ _ _ _ HX1.out); have c14 : u1.cell? ⟨w.heap.size, 4, none⟩ = some (.slice da p.dist.cells.length dc) := ((bcell E1.out).1 _ _ (lt_of_block HX1.out)).trans (cell_of_row _ _ _ _ _ _ HX1.out); have c15 : u1.cell? ⟨w.heap.size, 5, none⟩ = some (.slice va p.vs.length vc9) := ((bcell E1.out).1 _ _ (lt_of_block HX1.out)).trans (cell_of_row _ _ _ _ _ _ HX1.out); have c16 : u1.cell? ⟨w.heap.size, 6, none⟩ = some (.slice ja p.js.length jc) := ((bcell E1.out).1 _ _ (lt_of_block HX1.out)).trans (cell_of_row _ _ _ _ _ _ HX1.out); have c17 : u1.cell? ⟨w.heap.size, 7, none⟩ = some (.slice sa p.ss.length sc) := ((bcell E1.out).1 _ _ (lt_of_block HX1.out)).trans (cell_of_row _ _ _ _ _ _ HX1.out)) | fail)
    obtain rfl := HPE.out (by first | rfl | trivial)
    obtain ⟨a, n, c, tm, ds, wt, sv, co, hv, hst, hsl⟩ := slk_made HF.out HPW.out
    unfold planC at hv
    have hvv : (#[.int .i64 (fitP p (k : Int) V).veh, .slice pa pn pc, .int .i64 (fitP p (k : Int) V).time, .int .i64 (fitP p (k : Int) V).dist, .int .i64 (fitP p (k : Int) V).wait, .int .i64 (fitP p (k : Int) V).serv, .int .i64 (fitP p (k : Int) V).cost] : Array Value) = #[.int .i64 (k : Int), .slice a n c, .int .i64 tm, .int .i64 ds, .int .i64 wt, .int .i64 sv, .int .i64 co] := by injection hv
    clear hv
    obtain ⟨u3, hu3⟩ : ∃ z, u2.alloc (.cells #[.int .i64 (fitP p (k : Int) V).veh, .slice pa pn pc, .int .i64 (fitP p (k : Int) V).time, .int .i64 (fitP p (k : Int) V).dist, .int .i64 (fitP p (k : Int) V).wait, .int .i64 (fitP p (k : Int) V).serv, .int .i64 (fitP p (k : Int) V).cost] 34) = z := ⟨_, rfl⟩
    rw [hu3]
    have HX8 : Hid (u3.heap[u2.heap.size]? = some (.cells #[.int .i64 (k : Int), .slice a n c, .int .i64 tm, .int .i64 ds, .int .i64 wt, .int .i64 sv, .int .i64 co] 34 (0, 0))) := by show _ = _; rw [← hu3, ← hvv]; exact new_block _ _
    have E3 : Hid (Below W.heap.size W u3) := by show Below _ _ _; rw [← hu3]; exact below_on E2.out ((Below.refl _ _).alloc (Nat.le_refl _) _)
    have HSL : Hid (∀ (W2 : World) (x2 : PrbS), Below u3.heap.size u3 W2 → PrbV W2 x2 p → SlkV W2 x2 p k a n L G) := fun W2 x2 hb h => hsl W2 x2 (below_on (by rw [← hu3]; exact (Below.refl _ _).alloc (Nat.le_refl _) _) hb) h
    have HST : Hid (StpC u3 a n L) := by show StpC _ _ _ _; rw [← hu3]; exact hst.on ((Below.refl _ _).alloc (Nat.le_refl _) _)
    have HNN : Hid (n = G.length + 1 ∧ 1 ≤ G.length ∧ G.length ≤ 40 ∧ L.length = n) := by
      have h1 := HF.out.rt.len
      have h2 := HF.out.rt.low
      have h3 := HF.out.rt.high
      have h4 := hst.1
      show _ ∧ _ ∧ _ ∧ _
      omega
    have HVV := hide hvv
    clear hu3 hsl hst hvv HPE HPW
    obtain ⟨cl, hcl⟩ : ∃ z, (p.vs.getD k vz).shift.2 = z := ⟨_, rfl⟩
    have HCL := hide hcl
    have HLB : Hid (l.length = n ∧ l.getD G.length 0 = cl ∧ ∀ j, j < n → -100000000 ≤ l.getD j 0 ∧ l.getD j 0 ≤ 1000000) := by
      have hsh := (veh_ok (law_veh HF.out.law HF.out.veh)).shift
      have h9 := lat_bd HF.out.rt (cl := (p.vs.getD k vz).shift.2) ⟨by omega, by omega⟩ HF.out.lat
      have h8 := HNN.out
      rw [hcl] at h9
      refine ⟨by omega, h9.2.1, fun j hj => h9.2.2 j (by omega)⟩
    have H14 : Hid (∀ W2, Below w.heap.size w W2 → Calls Try.prog 14 #[.agg #[.int .i64 p.dims, .int .i64 p.time.n, .slice ta p.time.cells.length tc, .int .i64 p.dist.n, .slice da p.dist.cells.length dc, .slice va p.vs.length vc9, .slice ja p.js.length jc, .slice sa p.ss.length sc]] W2 fun e w' => ∃ xt xtc xd xdc xv xvc xj xjc xs xsc, e = .returned (.agg #[.int .i64 p.dims, .int .i64 p.time.n, .slice xt p.time.cells.length xtc, .int .i64 p.dist.n, .slice xd p.dist.cells.length xdc, .slice xv p.vs.length xvc, .slice xj p.js.length xjc, .slice xs p.ss.length xsc]) ∧ PrbV w' ⟨.slice xt p.time.cells.length xtc, .slice xd p.dist.cells.length xdc, .slice xv p.vs.length xvc, .slice xj p.js.length xjc, .slice xs p.ss.length xsc⟩ p ∧ Below W2.heap.size W2 w') := fun W2 hf => by
      refine (copied_any (HP.out.on hf)).mono ?_
      rintro e w' ⟨x', rfl, ⟨_, _, _, hq⟩, k9⟩
      have hp := hq.prb
      obtain ⟨xt, xtc, xd, xdc, xv, xvc, xj, xjc, xs, xsc, rfl⟩ := hp.open
      exact ⟨xt, xtc, xd, xdc, xv, xvc, xj, xjc, xs, xsc, rfl, hp, k9⟩
    have H13 : Hid (∀ W2 x2, Below u3.heap.size u3 W2 → PrbV W2 x2 p → Calls Try.prog 13 #[.agg (prbE p x2), .agg #[.int .i64 (k : Int), .slice a n c, .int .i64 tm, .int .i64 ds, .int .i64 wt, .int .i64 sv, .int .i64 co]] W2 fun e w' => ∃ g, e = .returned (.slice (some ⟨g, 0, none⟩) n n) ∧ IRow w' W2.heap.size (.slice (some ⟨g, 0, none⟩) n n) l ∧ Below W2.heap.size W2 w') := fun W2 x2 hb h => latest_any (HSL.out W2 x2 hb h) HF.out.lat c tm ds wt sv co
    have H15 : Hid (∀ W2 x2, Below u3.heap.size u3 W2 → PrbV W2 x2 p → Calls Try.prog 15 #[.agg (prbE p x2), .agg #[.int .i64 (k : Int), .slice a n c, .int .i64 tm, .int .i64 ds, .int .i64 wt, .int .i64 sv, .int .i64 co]] W2 fun e w' => ∃ g, e = .returned (.slice (some ⟨g, 0, none⟩) n n) ∧ IRow w' W2.heap.size (.slice (some ⟨g, 0, none⟩) n n) (rowS l (arrAt L) n n) ∧ Below W2.heap.size W2 w') := fun W2 x2 hb h => spare_any (HSL.out W2 x2 hb h) HF.out.lat (fun j s hs => by have h1 := HF.out.arr j s hs; omega) c tm ds wt sv co
    have H16 : Hid (∀ j, j < n → ∀ W2, Below u3.heap.size u3 W2 → (Calls Try.prog 16 #[.agg #[.int .i64 p.dims, .int .i64 p.time.n, .slice ta p.time.cells.length tc, .int .i64 p.dist.n, .slice da p.dist.cells.length dc, .slice va p.vs.length vc9, .slice ja p.js.length jc, .slice sa p.ss.length sc], .agg #[.int .i64 (k : Int), .slice a n c, .int .i64 tm, .int .i64 ds, .int .i64 wt, .int .i64 sv, .int .i64 co], .int .i64 (j : Int), .int .i64 (l.getD j 0)] W2 fun e w' => ∃ r, e = .returned (.tuple #[.int .i64 r, .bool true]) ∧ Below W2.heap.size W2 w') ∧ (Calls Try.prog 16 #[.agg #[.int .i64 p.dims, .int .i64 p.time.n, .slice ta p.time.cells.length tc, .int .i64 p.dist.n, .slice da p.dist.cells.length dc, .slice va p.vs.length vc9, .slice ja p.js.length jc, .slice sa p.ss.length sc], .agg #[.int .i64 (k : Int), .slice a n c, .int .i64 tm, .int .i64 ds, .int .i64 wt, .int .i64 sv, .int .i64 co], .int .i64 (j : Int), .int .i64 (l.getD j 0 + 1)] W2 fun e w' => ∃ r, e = .returned (.tuple #[.int .i64 r, .bool false]) ∧ Below W2.heap.size W2 w')) := fun j hj W2 hf => by
      have hs9 := HSL.out W2 _ hf (HP.out.on (below_on HB.out (below_on E3.out hf)))
      have hb := HLB.out.2.2 j hj
      have hn9 := HNN.out
      have hx := fun t => lat_end_at (t := t) (i := j) HF.out.rt.ok HF.out.lat (by omega)
      refine ⟨?_, ?_⟩
      · refine (rends_any hs9 hj (t := l.getD j 0) (by omega) c tm ds wt sv co).mono ?_
        rintro e w' ⟨r, rfl, _, k9⟩
        rw [(hx _).2 (Int.le_refl _)]
        exact ⟨r, rfl, k9⟩
      · refine (rends_any hs9 hj (t := l.getD j 0 + 1) (by omega) c tm ds wt sv co).mono ?_
        rintro e w' ⟨r, rfl, _, k9⟩
        have hfl : (endG (p.vs.getD k vz).shift.2 (G.drop j) (l.getD j 0 + 1)).isSome = false := by
          cases h : (endG (p.vs.getD k vz).shift.2 (G.drop j) (l.getD j 0 + 1)).isSome with
          | false => rfl
          | true => have := (hx _).1 h; omega
        rw [hfl]
        exact ⟨r, rfl, k9⟩
    have HOW : Hid (∀ j, j < n → ∃ s, L[j]? = some s ∧ -1 ≤ s.arr ∧ s.arr ≤ 34000000 ∧ s.arr ≤ l.getD j 0) := fun j hj => by
      have hn9 := HNN.out
      have hs : L[j]? = some (L[j]'(by omega)) := List.getElem?_eq_getElem (by omega)
      have h1 := HF.out.arr j _ hs
      have h2 := HF.out.own j _ hs
      have h3 := (lat_end_at (i := j) HF.out.rt.ok HF.out.lat (by omega)).1 (by rw [h2]; rfl)
      exact ⟨_, hs, h1.1, h1.2, h3⟩
    have HS6 : Hid (∀ w', Below u3.heap.size u3 w' → w'.cell? ⟨w.heap.size, 0, none⟩ = some (.int .i64 p.dims) ∧ w'.cell? ⟨w.heap.size, 1, none⟩ = some (.int .i64 p.time.n) ∧ w'.cell? ⟨w.heap.size, 2, none⟩ = some (.slice ta p.time.cells.length tc) ∧ w'.cell? ⟨w.heap.size, 3, none⟩ = some (.int .i64 p.dist.n) ∧ w'.cell? ⟨w.heap.size, 4, none⟩ = some (.slice da p.dist.cells.length dc) ∧ w'.cell? ⟨w.heap.size, 5, none⟩ = some (.slice va p.vs.length vc9) ∧ w'.cell? ⟨w.heap.size, 6, none⟩ = some (.slice ja p.js.length jc) ∧ w'.cell? ⟨w.heap.size, 7, none⟩ = some (.slice sa p.ss.length sc) ∧ w'.cell? ⟨u2.heap.size, 0, none⟩ = some (.int .i64 (k : Int)) ∧ w'.cell? ⟨u2.heap.size, 1, none⟩ = some (.slice a n c) ∧ w'.cell? ⟨u2.heap.size, 2, none⟩ = some (.int .i64 tm) ∧ w'.cell? ⟨u2.heap.size, 3, none⟩ = some (.int .i64 ds) ∧ w'.cell? ⟨u2.heap.size, 4, none⟩ = some (.int .i64 wt) ∧ w'.cell? ⟨u2.heap.size, 5, none⟩ = some (.int .i64 sv) ∧ w'.cell? ⟨u2.heap.size, 6, none⟩ = some (.int .i64 co)) := fun w' hf => ⟨((bcell (below_on E3.out hf)).1 _ _ (lt_of_block HX1.out)).trans (cell_of_row _ _ _ _ _ _ HX1.out), ((bcell (below_on E3.out hf)).1 _ _ (lt_of_block HX1.out)).trans (cell_of_row _ _ _ _ _ _ HX1.out), ((bcell (below_on E3.out hf)).1 _ _ (lt_of_block HX1.out)).trans (cell_of_row _ _ _ _ _ _ HX1.out), ((bcell (below_on E3.out hf)).1 _ _ (lt_of_block HX1.out)).trans (cell_of_row _ _ _ _ _ _ HX1.out), ((bcell (below_on E3.out hf)).1 _ _ (lt_of_block HX1.out)).trans (cell_of_row _ _ _ _ _ _ HX1.out), ((bcell (below_on E3.out hf)).1 _ _ (lt_of_block HX1.out)).trans (cell_of_row _ _ _ _ _ _ HX1.out), ((bcell (below_on E3.out hf)).1 _ _ (lt_of_block HX1.out)).trans (cell_of_row _ _ _ _ _ _ HX1.out), ((bcell (below_on E3.out hf)).1 _ _ (lt_of_block HX1.out)).trans (cell_of_row _ _ _ _ _ _ HX1.out), ((bcell hf).1 _ _ (lt_of_block HX8.out)).trans (cell_of_row _ _ _ _ _ _ HX8.out), ((bcell hf).1 _ _ (lt_of_block HX8.out)).trans (cell_of_row _ _ _ _ _ _ HX8.out), ((bcell hf).1 _ _ (lt_of_block HX8.out)).trans (cell_of_row _ _ _ _ _ _ HX8.out), ((bcell hf).1 _ _ (lt_of_block HX8.out)).trans (cell_of_row _ _ _ _ _ _ HX8.out), ((bcell hf).1 _ _ (lt_of_block HX8.out)).trans (cell_of_row _ _ _ _ _ _ HX8.out), ((bcell hf).1 _ _ (lt_of_block HX8.out)).trans (cell_of_row _ _ _ _ _ _ HX8.out), ((bcell hf).1 _ _ (lt_of_block HX8.out)).trans (cell_of_row _ _ _ _ _ _ HX8.out)⟩
    go_upto_region 6 with fail
    go_cut [9, 10] from 27 to 35 (fun v9 v10 wx => ∃ nb mb : Nat, v9 = .slice (some ⟨nb, 0, none⟩) n n ∧ v10 = .slice (some ⟨mb, 0, none⟩) n n ∧ Hid (IRow wx u3.heap.size (.slice (some ⟨nb, 0, none⟩) n n) l) ∧ Hid (IRow wx u3.heap.size (.slice (some ⟨mb, 0, none⟩) n n) (rowS l (arrAt L) n n)) ∧ Hid (Below u3.heap.size u3 wx))
    case first =>
      refine wp_region_held_drew (S := (fun w' => w'.cell? ⟨w.heap.size, 0, none⟩ = some (.int .i64 p.dims) ∧ w'.cell? ⟨w.heap.size, 1, none⟩ = some (.int .i64 p.time.n) ∧ w'.cell? ⟨w.heap.size, 2, none⟩ = some (.slice ta p.time.cells.length tc) ∧ w'.cell? ⟨w.heap.size, 3, none⟩ = some (.int .i64 p.dist.n) ∧ w'.cell? ⟨w.heap.size, 4, none⟩ = some (.slice da p.dist.cells.length dc) ∧ w'.cell? ⟨w.heap.size, 5, none⟩ = some (.slice va p.vs.length vc9) ∧ w'.cell? ⟨w.heap.size, 6, none⟩ = some (.slice ja p.js.length jc) ∧ w'.cell? ⟨w.heap.size, 7, none⟩ = some (.slice sa p.ss.length sc) ∧ w'.cell? ⟨u2.heap.size, 0, none⟩ = some (.int .i64 (k : Int)) ∧ w'.cell? ⟨u2.heap.size, 1, none⟩ = some (.slice a n c) ∧ w'.cell? ⟨u2.heap.size, 2, none⟩ = some (.int .i64 tm) ∧ w'.cell? ⟨u2.heap.size, 3, none⟩ = some (.int .i64 ds) ∧ w'.cell? ⟨u2.heap.size, 4, none⟩ = some (.int .i64 wt) ∧ w'.cell? ⟨u2.heap.size, 5, none⟩ = some (.int .i64 sv) ∧ w'.cell? ⟨u2.heap.size, 6, none⟩ = some (.int .i64 co))) (by kernel_rfl) ?_ (fun hHeld0 => ?_)
      · (try dsimp only); first | fail | exact HS6.out _ (Below.refl _ _) | exact HS6.out _ ((Below.refl _ _).drew) | (go_keep; done)
      obtain ⟨u0, hu0⟩ : ∃ u, u3.drew = u := ⟨_, rfl⟩
      rw [hu0]
      rw [hu0] at hHeld0
      have K0 : Hid (Below u3.heap.size u3 u0) := by show Below _ _ _; rw [← hu0]; exact ((Below.refl _ _).drew)
      clear hu0
      refine wpAnyH_take (i := 0) (oi := { dst := some 27, op := Op.load 29 (Operand.tmp 3), type := 29, pos := "law.go:40", after := #[], guard := none }) (v := ?_) rfl (by kernel_rfl) (by kernel_rfl) (by kernel_rfl) (fun _ _ _ h => h) (Or.inl ⟨by rfl, ?_⟩) (by assumption) ?_
      rotate_left
      · intro w hSw; (try dsimp only at hSw); first | (go_simp; done) | (go_simp; with_reducible rfl) | with_reducible rfl | rfl
      try simp only [Act.put, List.setIfInBounds_toArray, List.set_cons_succ, List.set_cons_zero]
      refine wpAnyH_take (i := 2) (oi := { dst := some 29, op := Op.load 34 (Operand.tmp 7), type := 34, pos := "law.go:40", after := #[], guard := none }) (v := ?_) rfl (by kernel_rfl) (by kernel_rfl) (by kernel_rfl) (fun _ _ _ h => h) (Or.inl ⟨by rfl, ?_⟩) (by assumption) ?_
      rotate_left
      · intro w hSw; (try dsimp only at hSw); first | (go_simp; done) | (go_simp; with_reducible rfl) | with_reducible rfl | rfl
      try simp only [Act.put, List.setIfInBounds_toArray, List.set_cons_succ, List.set_cons_zero]
      refine wpAnyH_take (i := 4) (oi := { dst := some 31, op := Op.load 29 (Operand.tmp 3), type := 29, pos := "law.go:40", after := #[], guard := none }) (v := ?_) rfl (by kernel_rfl) (by kernel_rfl) (by kernel_rfl) (fun _ _ _ h => h) (Or.inl ⟨by rfl, ?_⟩) (by assumption) ?_
      rotate_left
      · intro w hSw; (try dsimp only at hSw); first | (go_simp; done) | (go_simp; with_reducible rfl) | with_reducible rfl | rfl
      try simp only [Act.put, List.setIfInBounds_toArray, List.set_cons_succ, List.set_cons_zero]
      refine wpAnyH_take (i := 6) (oi := { dst := some 33, op := Op.load 34 (Operand.tmp 7), type := 34, pos := "law.go:40", after := #[], guard := none }) (v := ?_) rfl (by kernel_rfl) (by kernel_rfl) (by kernel_rfl) (fun _ _ _ h => h) (Or.inl ⟨by rfl, ?_⟩) (by assumption) ?_
      rotate_left
      · intro w hSw; (try dsimp only at hSw); first | (go_simp; done) | (go_simp; with_reducible rfl) | with_reducible rfl | rfl
      try simp only [Act.put, List.setIfInBounds_toArray, List.set_cons_succ, List.set_cons_zero]
      refine wpAnyH_ready (rs := [1]) (by kernel_rfl) (by simp) ?_
      refine AllReadyH.cons (o := { dst := some 28, op := Op.call { callee := Callee.value (Operand.func 14), args := #[Operand.tmp 27], argTypes := #[29] }, type := 29, pos := "law.go:40", after := #[{ on := 0, ground := Ground.data }], guard := none }) rfl (fun K hK => ?_) ?_
      · refine held_call (by rfl) 14 _ _ (by rfl) hl14 [.agg #[.int .i64 p.dims, .int .i64 p.time.n, .slice ta p.time.cells.length tc, .int .i64 p.dist.n, .slice da p.dist.cells.length dc, .slice va p.vs.length vc9, .slice ja p.js.length jc, .slice sa p.ss.length sc]] (by rfl) ?_; refine (H14.out _ (below_on HB.out (below_on E3.out K0.out))).mono ?_; rintro e u1 ⟨xt, xtc, xd, xdc, xv, xvc, xj, xjc, xs, xsc, rfl, hpq, k9⟩; refine ⟨_, rfl, ?_⟩; have E1 := hide k9; have K1 := hide (below_on K0.out k9); clear k9
        have HQa1 := hide (hpq)
        clear hpq
        refine hK.out _ _ ?_ (fun hHeld1 => ?_)
        · (try dsimp only); exact HS6.out _ K1.out
        clear hK K
        try simp only [Act.put, List.setIfInBounds_toArray, List.set_cons_succ, List.set_cons_zero]
        clear hHeld0
        refine wpAnyH_ready (rs := [3]) (by kernel_rfl) (by simp) ?_
        refine AllReadyH.cons (o := { dst := some 30, op := Op.call { callee := Callee.value (Operand.func 13), args := #[Operand.tmp 28, Operand.tmp 29], argTypes := #[29, 34] }, type := 22, pos := "law.go:40", after := #[{ on := 1, ground := Ground.data }, { on := 2, ground := Ground.data }, { on := 1, ground := Ground.chain }], guard := none }) rfl (fun K hK => ?_) ?_
        · refine held_call (by rfl) 13 _ _ (by rfl) hl13 [.agg #[.int .i64 p.dims, .int .i64 p.time.n, .slice xt p.time.cells.length xtc, .int .i64 p.dist.n, .slice xd p.dist.cells.length xdc, .slice xv p.vs.length xvc, .slice xj p.js.length xjc, .slice xs p.ss.length xsc], .agg #[.int .i64 (k : Int), .slice a n c, .int .i64 tm, .int .i64 ds, .int .i64 wt, .int .i64 sv, .int .i64 co]] (by rfl) ?_; refine (H13.out _ _ K1.out HQa1.out).mono ?_; rintro e u2 ⟨nb, rfl, hrn, k9⟩; refine ⟨_, rfl, ?_⟩; have E2 := hide k9; have K2 := hide (below_on K1.out k9); clear k9
          have HQa2 := hide (PrbV.on HQa1.out E2.out)
          clear HQa1
          have HRn2 := hide (hrn)
          clear hrn
          refine hK.out _ _ ?_ (fun hHeld2 => ?_)
          · (try dsimp only); exact HS6.out _ K2.out
          clear hK K
          try simp only [Act.put, List.setIfInBounds_toArray, List.set_cons_succ, List.set_cons_zero]
          clear hHeld1
          refine wpAnyH_ready (rs := [5]) (by kernel_rfl) (by simp) ?_
          refine AllReadyH.cons (o := { dst := some 32, op := Op.call { callee := Callee.value (Operand.func 14), args := #[Operand.tmp 31], argTypes := #[29] }, type := 29, pos := "law.go:40", after := #[{ on := 4, ground := Ground.data }, { on := 3, ground := Ground.chain }], guard := none }) rfl (fun K hK => ?_) ?_
          · refine held_call (by rfl) 14 _ _ (by rfl) hl14 [.agg #[.int .i64 p.dims, .int .i64 p.time.n, .slice ta p.time.cells.length tc, .int .i64 p.dist.n, .slice da p.dist.cells.length dc, .slice va p.vs.length vc9, .slice ja p.js.length jc, .slice sa p.ss.length sc]] (by rfl) ?_; refine (H14.out _ (below_on HB.out (below_on E3.out K2.out))).mono ?_; rintro e u3 ⟨yt, ytc, yd, ydc, yv, yvc, yj, yjc, ys, ysc, rfl, hpr, k9⟩; refine ⟨_, rfl, ?_⟩; have E3 := hide k9; have K3 := hide (below_on K2.out k9); clear k9
            have HQa3 := hide (PrbV.on HQa2.out E3.out)
            have HRn3 := hide (IRow.later HRn2.out (Nat.le_refl _) E3.out)
            clear HQa2 HRn2
            have HQb3 := hide (hpr)
            clear hpr
            refine hK.out _ _ ?_ (fun hHeld3 => ?_)
            · (try dsimp only); exact HS6.out _ K3.out
            clear hK K
            try simp only [Act.put, List.setIfInBounds_toArray, List.set_cons_succ, List.set_cons_zero]
            clear hHeld2
            refine wpAnyH_ready (rs := [7]) (by kernel_rfl) (by simp) ?_
            refine AllReadyH.cons (o := { dst := some 34, op := Op.call { callee := Callee.value (Operand.func 15), args := #[Operand.tmp 32, Operand.tmp 33], argTypes := #[29, 34] }, type := 22, pos := "law.go:40", after := #[{ on := 5, ground := Ground.data }, { on := 6, ground := Ground.data }, { on := 5, ground := Ground.chain }], guard := none }) rfl (fun K hK => ?_) ?_
            · refine held_call (by rfl) 15 _ _ (by rfl) hl15 [.agg #[.int .i64 p.dims, .int .i64 p.time.n, .slice yt p.time.cells.length ytc, .int .i64 p.dist.n, .slice yd p.dist.cells.length ydc, .slice yv p.vs.length yvc, .slice yj p.js.length yjc, .slice ys p.ss.length ysc], .agg #[.int .i64 (k : Int), .slice a n c, .int .i64 tm, .int .i64 ds, .int .i64 wt, .int .i64 sv, .int .i64 co]] (by rfl) ?_; refine (H15.out _ _ K3.out HQb3.out).mono ?_; rintro e u4 ⟨mb, rfl, hrm, k9⟩; refine ⟨_, rfl, ?_⟩; have E4 := hide k9; have K4 := hide (below_on K3.out k9); clear k9
              have HQa4 := hide (PrbV.on HQa3.out E4.out)
              have HRn4 := hide (IRow.later HRn3.out (Nat.le_refl _) E4.out)
              have HQb4 := hide (PrbV.on HQb3.out E4.out)
              clear HQa3 HRn3 HQb3
              have HRm4 := hide (hrm)
              clear hrm
              refine hK.out _ _ ?_ (fun hHeld4 => ?_)
              · (try dsimp only); exact HS6.out _ K4.out
              clear hK K
              try simp only [Act.put, List.setIfInBounds_toArray, List.set_cons_succ, List.set_cons_zero]
              clear hHeld3
              refine wpAnyH_take (i := 8) (oi := { dst := some 9, op := Op.assign (Operand.tmp 30), type := 22, pos := "law.go:40", after := #[{ on := 3, ground := Ground.data }, { on := 7, ground := Ground.chain }, { on := 0, ground := Ground.phase }, { on := 1, ground := Ground.phase }, { on := 2, ground := Ground.phase }, { on := 3, ground := Ground.phase }, { on := 4, ground := Ground.textOnly Departure.lateStores }, { on := 5, ground := Ground.textOnly Departure.lateStoresUnsure }, { on := 6, ground := Ground.textOnly Departure.lateStores }, { on := 7, ground := Ground.textOnly Departure.lateStoresUnsure }], guard := none }) (v := ?_) rfl (by kernel_rfl) (by kernel_rfl) (by kernel_rfl) (fun _ _ _ h => h) (Or.inl ⟨by rfl, ?_⟩) (by assumption) ?_
              rotate_left
              · intro w hSw; (try dsimp only at hSw); first | (go_simp; done) | (go_simp; with_reducible rfl) | with_reducible rfl | rfl
              try simp only [Act.put, List.setIfInBounds_toArray, List.set_cons_succ, List.set_cons_zero]
              refine wpAnyH_take (i := 9) (oi := { dst := some 10, op := Op.assign (Operand.tmp 34), type := 22, pos := "law.go:40", after := #[{ on := 7, ground := Ground.data }, { on := 8, ground := Ground.chain }, { on := 0, ground := Ground.phase }, { on := 1, ground := Ground.phase }, { on := 2, ground := Ground.phase }, { on := 3, ground := Ground.phase }, { on := 4, ground := Ground.phase }, { on := 5, ground := Ground.phase }, { on := 6, ground := Ground.phase }, { on := 7, ground := Ground.phase }, { on := 8, ground := Ground.phase }], guard := none }) (v := ?_) rfl (by kernel_rfl) (by kernel_rfl) (by kernel_rfl) (fun _ _ _ h => h) (Or.inl ⟨by rfl, ?_⟩) (by assumption) ?_
              rotate_left
              · intro w hSw; (try dsimp only at hSw); first | (go_simp; done) | (go_simp; with_reducible rfl) | with_reducible rfl | rfl
              try simp only [Act.put, List.setIfInBounds_toArray, List.set_cons_succ, List.set_cons_zero]
              refine wpAnyH_done (by kernel_rfl) ?_ _
              clear hHeld4
              go_wp2_with fail
              go_meet
              case rel => exact ⟨nb, mb, rfl, rfl, irow_low HRn4.out (by first | exact K0.out.size | exact K1.out.size | exact K2.out.size | exact K3.out.size), irow_low HRm4.out (by first | exact K0.out.size | exact K1.out.size | exact K2.out.size | exact K3.out.size), K4.out⟩
            exact AllReadyH.nil
          exact AllReadyH.nil
        exact AllReadyH.nil
      exact AllReadyH.nil
    case rest =>
    obtain ⟨nb, mb, rfl, rfl, HN6, HM6, K6⟩ := hcut
    rename World => u4
    have E4 := hide (below_on E3.out K6.out)
    have HX8u4 := hide ((K6.out.block _ (lt_of_block HX8.out)).trans HX8.out)
    have c41 : u4.cell? ⟨u2.heap.size, 1, none⟩ = some (.slice a n c) := cell_of_row _ _ _ _ _ _ HX8u4.out
    go_wp2_with fail
    go_loopw [51] (fun vi wr => ∃ q : Nat, vi = .int .i64 q ∧ q ≤ n ∧ Hid (Below u4.heap.size u4 wr)) (fun vi _ => n - (intOf vi).toNat)
    case atStart => exact ⟨0, rfl, Nat.zero_le _, Below.refl _ _⟩
    case round =>
      clear c41
      rename World => wr
      obtain ⟨q, rfl, hq, HR⟩ := hrel
      by_cases hqn : q < n
      · have K7 := hide (below_on K6.out HR.out)
        have E5 := hide (below_on E4.out HR.out)
        have HX8r := hide ((HR.out.block _ (lt_of_block HX8u4.out)).trans HX8u4.out)
        have HNr := hide (HN6.out.later (Nat.le_refl _) HR.out)
        have HMr := hide (HM6.out.later (Nat.le_refl _) HR.out)
        have hcn : wr.cell? ⟨nb, q, none⟩ = some (.int .i64 (l.getD q 0)) := by have h8 := HNr.out; rw [← rowL_all HLB.out.1] at h8; have h9 := h8.cell q (by rw [rowL_len]; exact hqn); rw [rowL_at (Nat.zero_le _) hqn] at h9; exact h9
        have hcm : wr.cell? ⟨mb, q, none⟩ = some (.int .i64 (l.getD q 0 - arrAt L q)) := by have h9 := HMr.out.cell q (by rw [rowS_len]; exact hqn); rw [rowS_whole hqn] at h9; exact h9
        have hnlt : nb < wr.heap.size := (World.ownsRow.lt HNr.out nb rfl).2
        have hmlt : mb < wr.heap.size := (World.ownsRow.lt HMr.out mb rfl).2
        obtain ⟨s, hs, ha1, ha2, ha3⟩ := HOW.out q hqn
        obtain ⟨g, y, e9, hg, hcs⟩ := (HST.out.on K7.out).2 q s hs
        subst e9
        have hca : wr.cell? ⟨g, q * 9 + 3, none⟩ = some (.int .i64 s.arr) := hcs 3 (by decide)
        rw [arrAt_get hs] at hcm
        have hb := HLB.out.2.2 q hqn
        have H16a := fun W2 (hf : Below wr.heap.size wr W2) => (H16.out q hqn W2 (below_on K7.out hf)).1
        have H16b := fun W2 (hf : Below wr.heap.size wr W2) => (H16.out q hqn W2 (below_on K7.out hf)).2
        obtain ⟨lq, hlq⟩ : ∃ z, l.getD q 0 = z := ⟨_, rfl⟩
        rw [hlq] at hcn hcm hb ha3 H16a H16b
        obtain ⟨ar, har⟩ : ∃ z, s.arr = z := ⟨_, rfl⟩
        rw [har] at hcm hca ha1 ha2 ha3
        have HCa := hide H16a
        have HCb := hide H16b
        clear H16a H16b hs hcs hlq har
        have j1 : (q : Int) < (n : Int) := by omega
        have j2 : (0 : Int) ≤ (q : Int) := by omega
        have j3 : IntKind.i64.wrap (lq + 1) = lq + 1 := by rw [IntKind.wrap_i64]; omega
        have j4 : IntKind.i64.wrap (lq - ar) = lq - ar := by rw [IntKind.wrap_i64]; omega
        have j5 : IntKind.i64.wrap ((q : Int) + 1) = ((q + 1 : Nat) : Int) := by rw [IntKind.wrap_i64]; have h1 := HNN.out; omega
        have j6 : ¬ lq - ar < 0 := by omega
        have HSR : Hid (∀ w', Below wr.heap.size wr w' → w'.cell? ⟨w.heap.size, 0, none⟩ = some (.int .i64 p.dims) ∧ w'.cell? ⟨w.heap.size, 1, none⟩ = some (.int .i64 p.time.n) ∧ w'.cell? ⟨w.heap.size, 2, none⟩ = some (.slice ta p.time.cells.length tc) ∧ w'.cell? ⟨w.heap.size, 3, none⟩ = some (.int .i64 p.dist.n) ∧ w'.cell? ⟨w.heap.size, 4, none⟩ = some (.slice da p.dist.cells.length dc) ∧ w'.cell? ⟨w.heap.size, 5, none⟩ = some (.slice va p.vs.length vc9) ∧ w'.cell? ⟨w.heap.size, 6, none⟩ = some (.slice ja p.js.length jc) ∧ w'.cell? ⟨w.heap.size, 7, none⟩ = some (.slice sa p.ss.length sc) ∧ w'.cell? ⟨u2.heap.size, 0, none⟩ = some (.int .i64 (k : Int)) ∧ w'.cell? ⟨u2.heap.size, 1, none⟩ = some (.slice (some ⟨g, 0, none⟩) n c) ∧ w'.cell? ⟨u2.heap.size, 2, none⟩ = some (.int .i64 tm) ∧ w'.cell? ⟨u2.heap.size, 3, none⟩ = some (.int .i64 ds) ∧ w'.cell? ⟨u2.heap.size, 4, none⟩ = some (.int .i64 wt) ∧ w'.cell? ⟨u2.heap.size, 5, none⟩ = some (.int .i64 sv) ∧ w'.cell? ⟨u2.heap.size, 6, none⟩ = some (.int .i64 co) ∧ w'.cell? ⟨nb, q, none⟩ = some (.int .i64 lq) ∧ w'.cell? ⟨mb, q, none⟩ = some (.int .i64 (lq - ar)) ∧ w'.cell? ⟨g, q * 9 + 3, none⟩ = some (.int .i64 ar)) := fun w' hf => ⟨((bcell (below_on E5.out hf)).1 _ _ (lt_of_block HX1.out)).trans (cell_of_row _ _ _ _ _ _ HX1.out), ((bcell (below_on E5.out hf)).1 _ _ (lt_of_block HX1.out)).trans (cell_of_row _ _ _ _ _ _ HX1.out), ((bcell (below_on E5.out hf)).1 _ _ (lt_of_block HX1.out)).trans (cell_of_row _ _ _ _ _ _ HX1.out), ((bcell (below_on E5.out hf)).1 _ _ (lt_of_block HX1.out)).trans (cell_of_row _ _ _ _ _ _ HX1.out), ((bcell (below_on E5.out hf)).1 _ _ (lt_of_block HX1.out)).trans (cell_of_row _ _ _ _ _ _ HX1.out), ((bcell (below_on E5.out hf)).1 _ _ (lt_of_block HX1.out)).trans (cell_of_row _ _ _ _ _ _ HX1.out), ((bcell (below_on E5.out hf)).1 _ _ (lt_of_block HX1.out)).trans (cell_of_row _ _ _ _ _ _ HX1.out), ((bcell (below_on E5.out hf)).1 _ _ (lt_of_block HX1.out)).trans (cell_of_row _ _ _ _ _ _ HX1.out), ((bcell hf).1 _ _ (lt_of_block HX8r.out)).trans (cell_of_row _ _ _ _ _ _ HX8r.out), ((bcell hf).1 _ _ (lt_of_block HX8r.out)).trans (cell_of_row _ _ _ _ _ _ HX8r.out), ((bcell hf).1 _ _ (lt_of_block HX8r.out)).trans (cell_of_row _ _ _ _ _ _ HX8r.out), ((bcell hf).1 _ _ (lt_of_block HX8r.out)).trans (cell_of_row _ _ _ _ _ _ HX8r.out), ((bcell hf).1 _ _ (lt_of_block HX8r.out)).trans (cell_of_row _ _ _ _ _ _ HX8r.out), ((bcell hf).1 _ _ (lt_of_block HX8r.out)).trans (cell_of_row _ _ _ _ _ _ HX8r.out), ((bcell hf).1 _ _ (lt_of_block HX8r.out)).trans (cell_of_row _ _ _ _ _ _ HX8r.out), ((bcell hf).1 _ _ hnlt).trans hcn, ((bcell hf).1 _ _ hmlt).trans hcm, ((bcell hf).1 _ _ hg).trans hca⟩
        clear hcn hcm hca hnlt hmlt hg
        go_upto_region 12 with fail
        go_cut [12, 13] from 54 to 65 (fun v12 v13 wx => v13 = .bool true ∧ Hid (Below wr.heap.size wr wx))
        case first =>
          refine wp_region_held_drew (S := (fun w' => w'.cell? ⟨w.heap.size, 0, none⟩ = some (.int .i64 p.dims) ∧ w'.cell? ⟨w.heap.size, 1, none⟩ = some (.int .i64 p.time.n) ∧ w'.cell? ⟨w.heap.size, 2, none⟩ = some (.slice ta p.time.cells.length tc) ∧ w'.cell? ⟨w.heap.size, 3, none⟩ = some (.int .i64 p.dist.n) ∧ w'.cell? ⟨w.heap.size, 4, none⟩ = some (.slice da p.dist.cells.length dc) ∧ w'.cell? ⟨w.heap.size, 5, none⟩ = some (.slice va p.vs.length vc9) ∧ w'.cell? ⟨w.heap.size, 6, none⟩ = some (.slice ja p.js.length jc) ∧ w'.cell? ⟨w.heap.size, 7, none⟩ = some (.slice sa p.ss.length sc) ∧ w'.cell? ⟨u2.heap.size, 0, none⟩ = some (.int .i64 (k : Int)) ∧ w'.cell? ⟨u2.heap.size, 1, none⟩ = some (.slice (some ⟨g, 0, none⟩) n c) ∧ w'.cell? ⟨u2.heap.size, 2, none⟩ = some (.int .i64 tm) ∧ w'.cell? ⟨u2.heap.size, 3, none⟩ = some (.int .i64 ds) ∧ w'.cell? ⟨u2.heap.size, 4, none⟩ = some (.int .i64 wt) ∧ w'.cell? ⟨u2.heap.size, 5, none⟩ = some (.int .i64 sv) ∧ w'.cell? ⟨u2.heap.size, 6, none⟩ = some (.int .i64 co) ∧ w'.cell? ⟨nb, q, none⟩ = some (.int .i64 lq) ∧ w'.cell? ⟨mb, q, none⟩ = some (.int .i64 (lq - ar)) ∧ w'.cell? ⟨g, q * 9 + 3, none⟩ = some (.int .i64 ar))) (by kernel_rfl) ?_ (fun hHeld0 => ?_)
          · (try dsimp only); first | fail | exact HSR.out _ (Below.refl _ _) | exact HSR.out _ ((Below.refl _ _).drew) | (go_keep; done)
          obtain ⟨u0, hu0⟩ : ∃ u, wr.drew = u := ⟨_, rfl⟩
          rw [hu0]
          rw [hu0] at hHeld0
          have K0 : Hid (Below wr.heap.size wr u0) := by show Below _ _ _; rw [← hu0]; exact ((Below.refl _ _).drew)
          clear hu0
          refine wpAnyH_take (i := 0) (oi := { dst := some 55, op := Op.load 29 (Operand.tmp 3), type := 29, pos := "law.go:45", after := #[], guard := none }) (v := ?_) rfl (by kernel_rfl) (by kernel_rfl) (by kernel_rfl) (fun _ _ _ h => h) (Or.inl ⟨by rfl, ?_⟩) (by assumption) ?_
          rotate_left
          · intro w hSw; (try dsimp only at hSw); first | (go_simp; done) | (go_simp; with_reducible rfl) | with_reducible rfl | rfl
          try simp only [Act.put, List.setIfInBounds_toArray, List.set_cons_succ, List.set_cons_zero]
          refine wpAnyH_take (i := 1) (oi := { dst := some 56, op := Op.load 34 (Operand.tmp 7), type := 34, pos := "law.go:45", after := #[], guard := none }) (v := ?_) rfl (by kernel_rfl) (by kernel_rfl) (by kernel_rfl) (fun _ _ _ h => h) (Or.inl ⟨by rfl, ?_⟩) (by assumption) ?_
          rotate_left
          · intro w hSw; (try dsimp only at hSw); first | (go_simp; done) | (go_simp; with_reducible rfl) | with_reducible rfl | rfl
          try simp only [Act.put, List.setIfInBounds_toArray, List.set_cons_succ, List.set_cons_zero]
          refine wpAnyH_take (i := 2) (oi := { dst := some 57, op := Op.move (Operand.tmp 11), type := 3, pos := "law.go:45", after := #[], guard := none }) (v := ?_) rfl (by kernel_rfl) (by kernel_rfl) (by kernel_rfl) (fun _ _ _ h => h) (Or.inl ⟨by rfl, ?_⟩) (by assumption) ?_
          rotate_left
          · intro w hSw; (try dsimp only at hSw); first | (go_simp; done) | (go_simp; with_reducible rfl) | with_reducible rfl | rfl
          try simp only [Act.put, List.setIfInBounds_toArray, List.set_cons_succ, List.set_cons_zero]
          refine wpAnyH_take (i := 3) (oi := { dst := some 58, op := Op.move (Operand.tmp 9), type := 22, pos := "law.go:45", after := #[], guard := none }) (v := ?_) rfl (by kernel_rfl) (by kernel_rfl) (by kernel_rfl) (fun _ _ _ h => h) (Or.inl ⟨by rfl, ?_⟩) (by assumption) ?_
          rotate_left
          · intro w hSw; (try dsimp only at hSw); first | (go_simp; done) | (go_simp; with_reducible rfl) | with_reducible rfl | rfl
          try simp only [Act.put, List.setIfInBounds_toArray, List.set_cons_succ, List.set_cons_zero]
          refine wpAnyH_take (i := 4) (oi := { dst := some 59, op := Op.move (Operand.tmp 11), type := 3, pos := "law.go:45", after := #[], guard := none }) (v := ?_) rfl (by kernel_rfl) (by kernel_rfl) (by kernel_rfl) (fun _ _ _ h => h) (Or.inl ⟨by rfl, ?_⟩) (by assumption) ?_
          rotate_left
          · intro w hSw; (try dsimp only at hSw); first | (go_simp; done) | (go_simp; with_reducible rfl) | with_reducible rfl | rfl
          try simp only [Act.put, List.setIfInBounds_toArray, List.set_cons_succ, List.set_cons_zero]
          refine wpAnyH_take (i := 5) (oi := { dst := some 60, op := Op.indexAddr 22 (Operand.tmp 58) (Operand.tmp 59), type := 0, pos := "law.go:45", after := #[{ on := 3, ground := Ground.data }, { on := 4, ground := Ground.data }], guard := none }) (v := ?_) rfl (by kernel_rfl) (by kernel_rfl) (by kernel_rfl) (fun _ _ _ h => h) (Or.inl ⟨by rfl, ?_⟩) (by assumption) ?_
          rotate_left
          · intro w hSw; (try dsimp only at hSw); first | (go_simp; done) | (go_simp; with_reducible rfl) | with_reducible rfl | rfl
          try simp only [Act.put, List.setIfInBounds_toArray, List.set_cons_succ, List.set_cons_zero]
          refine wpAnyH_take (i := 6) (oi := { dst := some 61, op := Op.load 3 (Operand.tmp 60), type := 3, pos := "law.go:45", after := #[{ on := 5, ground := Ground.data }], guard := none }) (v := ?_) rfl (by kernel_rfl) (by kernel_rfl) (by kernel_rfl) (fun _ _ _ h => h) (Or.inl ⟨by rfl, ?_⟩) (by assumption) ?_
          rotate_left
          · intro w hSw; (try dsimp only at hSw); first | (go_simp; done) | (go_simp; with_reducible rfl) | with_reducible rfl | rfl
          try simp only [Act.put, List.setIfInBounds_toArray, List.set_cons_succ, List.set_cons_zero]
          refine wpAnyH_ready (rs := [7]) (by kernel_rfl) (by simp) ?_
          refine AllReadyH.cons (o := { dst := some 62, op := Op.call { callee := Callee.value (Operand.func 16), args := #[Operand.tmp 55, Operand.tmp 56, Operand.tmp 57, Operand.tmp 61], argTypes := #[29, 34, 3, 3] }, type := 39, pos := "law.go:45", after := #[{ on := 0, ground := Ground.data }, { on := 1, ground := Ground.data }, { on := 2, ground := Ground.data }, { on := 6, ground := Ground.data }], guard := none }) rfl (fun K hK => ?_) ?_
          · refine held_call (by rfl) 16 _ _ (by rfl) hl16 [.agg #[.int .i64 p.dims, .int .i64 p.time.n, .slice ta p.time.cells.length tc, .int .i64 p.dist.n, .slice da p.dist.cells.length dc, .slice va p.vs.length vc9, .slice ja p.js.length jc, .slice sa p.ss.length sc], .agg #[.int .i64 (k : Int), .slice (some ⟨g, 0, none⟩) n c, .int .i64 tm, .int .i64 ds, .int .i64 wt, .int .i64 sv, .int .i64 co], .int .i64 (q : Int), .int .i64 lq] (by rfl) ?_; refine (HCa.out _ K0.out).mono ?_; rintro e u1 ⟨r, rfl, k9⟩; refine ⟨_, rfl, ?_⟩; have E1 := hide k9; have K1 := hide (below_on K0.out k9); clear k9
            refine hK.out _ _ ?_ (fun hHeld1 => ?_)
            · (try dsimp only); exact HSR.out _ K1.out
            clear hK K
            try simp only [Act.put, List.setIfInBounds_toArray, List.set_cons_succ, List.set_cons_zero]
            clear hHeld0
            refine wpAnyH_take (i := 8) (oi := { dst := some 54, op := Op.move (Operand.tmp 62), type := 39, pos := "law.go:45", after := #[{ on := 7, ground := Ground.data }], guard := none }) (v := ?_) rfl (by kernel_rfl) (by kernel_rfl) (by kernel_rfl) (fun _ _ _ h => h) (Or.inl ⟨by rfl, ?_⟩) (by assumption) ?_
            rotate_left
            · intro w hSw; (try dsimp only at hSw); first | (go_simp; done) | (go_simp; with_reducible rfl) | with_reducible rfl | rfl
            try simp only [Act.put, List.setIfInBounds_toArray, List.set_cons_succ, List.set_cons_zero]
            refine wpAnyH_take (i := 9) (oi := { dst := some 63, op := Op.extract (Operand.tmp 54) 0, type := 3, pos := "law.go:45", after := #[{ on := 8, ground := Ground.data }], guard := none }) (v := ?_) rfl (by kernel_rfl) (by kernel_rfl) (by kernel_rfl) (fun _ _ _ h => h) (Or.inl ⟨by rfl, ?_⟩) (by assumption) ?_
            rotate_left
            · intro w hSw; (try dsimp only at hSw); first | (go_simp; done) | (go_simp; with_reducible rfl) | with_reducible rfl | rfl
            try simp only [Act.put, List.setIfInBounds_toArray, List.set_cons_succ, List.set_cons_zero]
            refine wpAnyH_take (i := 10) (oi := { dst := some 64, op := Op.extract (Operand.tmp 54) 1, type := 4, pos := "law.go:45", after := #[{ on := 8, ground := Ground.data }, { on := 11, ground := Ground.gcOnly Departure.lateStores }], guard := none }) (v := ?_) rfl (by kernel_rfl) (by kernel_rfl) (by kernel_rfl) (fun _ _ _ h => h) (Or.inl ⟨by rfl, ?_⟩) (by assumption) ?_
            rotate_left
            · intro w hSw; (try dsimp only at hSw); first | (go_simp; done) | (go_simp; with_reducible rfl) | with_reducible rfl | rfl
            try simp only [Act.put, List.setIfInBounds_toArray, List.set_cons_succ, List.set_cons_zero]
            refine wpAnyH_take (i := 11) (oi := { dst := some 12, op := Op.assign (Operand.tmp 63), type := 3, pos := "law.go:45", after := #[{ on := 9, ground := Ground.data }, { on := 7, ground := Ground.chain }, { on := 0, ground := Ground.phase }, { on := 1, ground := Ground.phase }, { on := 2, ground := Ground.phase }, { on := 3, ground := Ground.phase }, { on := 4, ground := Ground.phase }, { on := 5, ground := Ground.phase }, { on := 6, ground := Ground.phase }, { on := 7, ground := Ground.phase }, { on := 8, ground := Ground.phase }, { on := 9, ground := Ground.phase }, { on := 10, ground := Ground.textOnly Departure.lateStores }], guard := none }) (v := ?_) rfl (by kernel_rfl) (by kernel_rfl) (by kernel_rfl) (fun _ _ _ h => h) (Or.inl ⟨by rfl, ?_⟩) (by assumption) ?_
            rotate_left
            · intro w hSw; (try dsimp only at hSw); first | (go_simp; done) | (go_simp; with_reducible rfl) | with_reducible rfl | rfl
            try simp only [Act.put, List.setIfInBounds_toArray, List.set_cons_succ, List.set_cons_zero]
            refine wpAnyH_take (i := 12) (oi := { dst := some 13, op := Op.assign (Operand.tmp 64), type := 4, pos := "law.go:45", after := #[{ on := 10, ground := Ground.data }, { on := 11, ground := Ground.chain }, { on := 0, ground := Ground.phase }, { on := 1, ground := Ground.phase }, { on := 2, ground := Ground.phase }, { on := 3, ground := Ground.phase }, { on := 4, ground := Ground.phase }, { on := 5, ground := Ground.phase }, { on := 6, ground := Ground.phase }, { on := 7, ground := Ground.phase }, { on := 8, ground := Ground.phase }, { on := 9, ground := Ground.phase }, { on := 10, ground := Ground.phase }, { on := 11, ground := Ground.phase }], guard := none }) (v := ?_) rfl (by kernel_rfl) (by kernel_rfl) (by kernel_rfl) (fun _ _ _ h => h) (Or.inl ⟨by rfl, ?_⟩) (by assumption) ?_
            rotate_left
            · intro w hSw; (try dsimp only at hSw); first | (go_simp; done) | (go_simp; with_reducible rfl) | with_reducible rfl | rfl
            try simp only [Act.put, List.setIfInBounds_toArray, List.set_cons_succ, List.set_cons_zero]
            refine wpAnyH_done (by kernel_rfl) ?_ _
            clear hHeld1
            go_wp2_with fail
            go_meet
            case rel => exact ⟨rfl, K1.out⟩
          exact AllReadyH.nil
        case rest =>
        obtain ⟨rfl, KA⟩ := hcut
        rename World => z5
        have HSA : Hid (∀ w', Below z5.heap.size z5 w' → w'.cell? ⟨w.heap.size, 0, none⟩ = some (.int .i64 p.dims) ∧ w'.cell? ⟨w.heap.size, 1, none⟩ = some (.int .i64 p.time.n) ∧ w'.cell? ⟨w.heap.size, 2, none⟩ = some (.slice ta p.time.cells.length tc) ∧ w'.cell? ⟨w.heap.size, 3, none⟩ = some (.int .i64 p.dist.n) ∧ w'.cell? ⟨w.heap.size, 4, none⟩ = some (.slice da p.dist.cells.length dc) ∧ w'.cell? ⟨w.heap.size, 5, none⟩ = some (.slice va p.vs.length vc9) ∧ w'.cell? ⟨w.heap.size, 6, none⟩ = some (.slice ja p.js.length jc) ∧ w'.cell? ⟨w.heap.size, 7, none⟩ = some (.slice sa p.ss.length sc) ∧ w'.cell? ⟨u2.heap.size, 0, none⟩ = some (.int .i64 (k : Int)) ∧ w'.cell? ⟨u2.heap.size, 1, none⟩ = some (.slice (some ⟨g, 0, none⟩) n c) ∧ w'.cell? ⟨u2.heap.size, 2, none⟩ = some (.int .i64 tm) ∧ w'.cell? ⟨u2.heap.size, 3, none⟩ = some (.int .i64 ds) ∧ w'.cell? ⟨u2.heap.size, 4, none⟩ = some (.int .i64 wt) ∧ w'.cell? ⟨u2.heap.size, 5, none⟩ = some (.int .i64 sv) ∧ w'.cell? ⟨u2.heap.size, 6, none⟩ = some (.int .i64 co) ∧ w'.cell? ⟨nb, q, none⟩ = some (.int .i64 lq) ∧ w'.cell? ⟨mb, q, none⟩ = some (.int .i64 (lq - ar)) ∧ w'.cell? ⟨g, q * 9 + 3, none⟩ = some (.int .i64 ar)) := fun w' hf => HSR.out w' (below_on KA.out hf)
        go_upto_region 13 with fail
        go_cut [14, 15] from 65 to 77 (fun v14 v15 wx => v15 = .bool false ∧ Hid (Below z5.heap.size z5 wx))
        case first =>
          refine wp_region_held_drew (S := (fun w' => w'.cell? ⟨w.heap.size, 0, none⟩ = some (.int .i64 p.dims) ∧ w'.cell? ⟨w.heap.size, 1, none⟩ = some (.int .i64 p.time.n) ∧ w'.cell? ⟨w.heap.size, 2, none⟩ = some (.slice ta p.time.cells.length tc) ∧ w'.cell? ⟨w.heap.size, 3, none⟩ = some (.int .i64 p.dist.n) ∧ w'.cell? ⟨w.heap.size, 4, none⟩ = some (.slice da p.dist.cells.length dc) ∧ w'.cell? ⟨w.heap.size, 5, none⟩ = some (.slice va p.vs.length vc9) ∧ w'.cell? ⟨w.heap.size, 6, none⟩ = some (.slice ja p.js.length jc) ∧ w'.cell? ⟨w.heap.size, 7, none⟩ = some (.slice sa p.ss.length sc) ∧ w'.cell? ⟨u2.heap.size, 0, none⟩ = some (.int .i64 (k : Int)) ∧ w'.cell? ⟨u2.heap.size, 1, none⟩ = some (.slice (some ⟨g, 0, none⟩) n c) ∧ w'.cell? ⟨u2.heap.size, 2, none⟩ = some (.int .i64 tm) ∧ w'.cell? ⟨u2.heap.size, 3, none⟩ = some (.int .i64 ds) ∧ w'.cell? ⟨u2.heap.size, 4, none⟩ = some (.int .i64 wt) ∧ w'.cell? ⟨u2.heap.size, 5, none⟩ = some (.int .i64 sv) ∧ w'.cell? ⟨u2.heap.size, 6, none⟩ = some (.int .i64 co) ∧ w'.cell? ⟨nb, q, none⟩ = some (.int .i64 lq) ∧ w'.cell? ⟨mb, q, none⟩ = some (.int .i64 (lq - ar)) ∧ w'.cell? ⟨g, q * 9 + 3, none⟩ = some (.int .i64 ar))) (by kernel_rfl) ?_ (fun hHeld0 => ?_)
          · (try dsimp only); first | fail | exact HSA.out _ (Below.refl _ _) | exact HSA.out _ ((Below.refl _ _).drew) | (go_keep; done)
          obtain ⟨u0, hu0⟩ : ∃ u, z5.drew = u := ⟨_, rfl⟩
          rw [hu0]
          rw [hu0] at hHeld0
          have K0 : Hid (Below z5.heap.size z5 u0) := by show Below _ _ _; rw [← hu0]; exact ((Below.refl _ _).drew)
          clear hu0
          refine wpAnyH_take (i := 0) (oi := { dst := some 66, op := Op.load 29 (Operand.tmp 3), type := 29, pos := "law.go:46", after := #[], guard := none }) (v := ?_) rfl (by kernel_rfl) (by kernel_rfl) (by kernel_rfl) (fun _ _ _ h => h) (Or.inl ⟨by rfl, ?_⟩) (by assumption) ?_
          rotate_left
          · intro w hSw; (try dsimp only at hSw); first | (go_simp; done) | (go_simp; with_reducible rfl) | with_reducible rfl | rfl
          try simp only [Act.put, List.setIfInBounds_toArray, List.set_cons_succ, List.set_cons_zero]
          refine wpAnyH_take (i := 1) (oi := { dst := some 67, op := Op.load 34 (Operand.tmp 7), type := 34, pos := "law.go:46", after := #[], guard := none }) (v := ?_) rfl (by kernel_rfl) (by kernel_rfl) (by kernel_rfl) (fun _ _ _ h => h) (Or.inl ⟨by rfl, ?_⟩) (by assumption) ?_
          rotate_left
          · intro w hSw; (try dsimp only at hSw); first | (go_simp; done) | (go_simp; with_reducible rfl) | with_reducible rfl | rfl
          try simp only [Act.put, List.setIfInBounds_toArray, List.set_cons_succ, List.set_cons_zero]
          refine wpAnyH_take (i := 2) (oi := { dst := some 68, op := Op.move (Operand.tmp 11), type := 3, pos := "law.go:46", after := #[], guard := none }) (v := ?_) rfl (by kernel_rfl) (by kernel_rfl) (by kernel_rfl) (fun _ _ _ h => h) (Or.inl ⟨by rfl, ?_⟩) (by assumption) ?_
          rotate_left
          · intro w hSw; (try dsimp only at hSw); first | (go_simp; done) | (go_simp; with_reducible rfl) | with_reducible rfl | rfl
          try simp only [Act.put, List.setIfInBounds_toArray, List.set_cons_succ, List.set_cons_zero]
          refine wpAnyH_take (i := 3) (oi := { dst := some 69, op := Op.move (Operand.tmp 9), type := 22, pos := "law.go:46", after := #[], guard := none }) (v := ?_) rfl (by kernel_rfl) (by kernel_rfl) (by kernel_rfl) (fun _ _ _ h => h) (Or.inl ⟨by rfl, ?_⟩) (by assumption) ?_
          rotate_left
          · intro w hSw; (try dsimp only at hSw); first | (go_simp; done) | (go_simp; with_reducible rfl) | with_reducible rfl | rfl
          try simp only [Act.put, List.setIfInBounds_toArray, List.set_cons_succ, List.set_cons_zero]
          refine wpAnyH_take (i := 4) (oi := { dst := some 70, op := Op.move (Operand.tmp 11), type := 3, pos := "law.go:46", after := #[], guard := none }) (v := ?_) rfl (by kernel_rfl) (by kernel_rfl) (by kernel_rfl) (fun _ _ _ h => h) (Or.inl ⟨by rfl, ?_⟩) (by assumption) ?_
          rotate_left
          · intro w hSw; (try dsimp only at hSw); first | (go_simp; done) | (go_simp; with_reducible rfl) | with_reducible rfl | rfl
          try simp only [Act.put, List.setIfInBounds_toArray, List.set_cons_succ, List.set_cons_zero]
          refine wpAnyH_take (i := 5) (oi := { dst := some 71, op := Op.indexAddr 22 (Operand.tmp 69) (Operand.tmp 70), type := 0, pos := "law.go:46", after := #[{ on := 3, ground := Ground.data }, { on := 4, ground := Ground.data }], guard := none }) (v := ?_) rfl (by kernel_rfl) (by kernel_rfl) (by kernel_rfl) (fun _ _ _ h => h) (Or.inl ⟨by rfl, ?_⟩) (by assumption) ?_
          rotate_left
          · intro w hSw; (try dsimp only at hSw); first | (go_simp; done) | (go_simp; with_reducible rfl) | with_reducible rfl | rfl
          try simp only [Act.put, List.setIfInBounds_toArray, List.set_cons_succ, List.set_cons_zero]
          refine wpAnyH_take (i := 6) (oi := { dst := some 72, op := Op.load 3 (Operand.tmp 71), type := 3, pos := "law.go:46", after := #[{ on := 5, ground := Ground.data }], guard := none }) (v := ?_) rfl (by kernel_rfl) (by kernel_rfl) (by kernel_rfl) (fun _ _ _ h => h) (Or.inl ⟨by rfl, ?_⟩) (by assumption) ?_
          rotate_left
          · intro w hSw; (try dsimp only at hSw); first | (go_simp; done) | (go_simp; with_reducible rfl) | with_reducible rfl | rfl
          try simp only [Act.put, List.setIfInBounds_toArray, List.set_cons_succ, List.set_cons_zero]
          refine wpAnyH_take (i := 7) (oi := { dst := some 73, op := Op.binOp BinOp.add 3 (Operand.tmp 72) (Operand.const (Value.int IntKind.i64 1)) 3, type := 3, pos := "law.go:46", after := #[{ on := 6, ground := Ground.data }], guard := none }) (v := ?_) rfl (by kernel_rfl) (by kernel_rfl) (by kernel_rfl) (fun _ _ _ h => h) (Or.inl ⟨by rfl, ?_⟩) (by assumption) ?_
          rotate_left
          · intro w hSw; (try dsimp only at hSw); first | (go_simp; done) | (go_simp; with_reducible rfl) | with_reducible rfl | rfl
          try simp only [Act.put, List.setIfInBounds_toArray, List.set_cons_succ, List.set_cons_zero]
          refine wpAnyH_ready (rs := [8]) (by kernel_rfl) (by simp) ?_
          refine AllReadyH.cons (o := { dst := some 74, op := Op.call { callee := Callee.value (Operand.func 16), args := #[Operand.tmp 66, Operand.tmp 67, Operand.tmp 68, Operand.tmp 73], argTypes := #[29, 34, 3, 3] }, type := 39, pos := "law.go:46", after := #[{ on := 0, ground := Ground.data }, { on := 1, ground := Ground.data }, { on := 2, ground := Ground.data }, { on := 7, ground := Ground.data }], guard := none }) rfl (fun K hK => ?_) ?_
          · refine held_call (by rfl) 16 _ _ (by rfl) hl16 [.agg #[.int .i64 p.dims, .int .i64 p.time.n, .slice ta p.time.cells.length tc, .int .i64 p.dist.n, .slice da p.dist.cells.length dc, .slice va p.vs.length vc9, .slice ja p.js.length jc, .slice sa p.ss.length sc], .agg #[.int .i64 (k : Int), .slice (some ⟨g, 0, none⟩) n c, .int .i64 tm, .int .i64 ds, .int .i64 wt, .int .i64 sv, .int .i64 co], .int .i64 (q : Int), .int .i64 (lq + 1)] (by rfl) ?_; refine (HCb.out _ (below_on KA.out K0.out)).mono ?_; rintro e u1 ⟨r, rfl, k9⟩; refine ⟨_, rfl, ?_⟩; have E1 := hide k9; have K1 := hide (below_on K0.out k9); clear k9
            refine hK.out _ _ ?_ (fun hHeld1 => ?_)
            · (try dsimp only); exact HSA.out _ K1.out
            clear hK K
            try simp only [Act.put, List.setIfInBounds_toArray, List.set_cons_succ, List.set_cons_zero]
            clear hHeld0
            refine wpAnyH_take (i := 9) (oi := { dst := some 65, op := Op.move (Operand.tmp 74), type := 39, pos := "law.go:46", after := #[{ on := 8, ground := Ground.data }], guard := none }) (v := ?_) rfl (by kernel_rfl) (by kernel_rfl) (by kernel_rfl) (fun _ _ _ h => h) (Or.inl ⟨by rfl, ?_⟩) (by assumption) ?_
            rotate_left
            · intro w hSw; (try dsimp only at hSw); first | (go_simp; done) | (go_simp; with_reducible rfl) | with_reducible rfl | rfl
            try simp only [Act.put, List.setIfInBounds_toArray, List.set_cons_succ, List.set_cons_zero]
            refine wpAnyH_take (i := 10) (oi := { dst := some 75, op := Op.extract (Operand.tmp 65) 0, type := 3, pos := "law.go:46", after := #[{ on := 9, ground := Ground.data }], guard := none }) (v := ?_) rfl (by kernel_rfl) (by kernel_rfl) (by kernel_rfl) (fun _ _ _ h => h) (Or.inl ⟨by rfl, ?_⟩) (by assumption) ?_
            rotate_left
            · intro w hSw; (try dsimp only at hSw); first | (go_simp; done) | (go_simp; with_reducible rfl) | with_reducible rfl | rfl
            try simp only [Act.put, List.setIfInBounds_toArray, List.set_cons_succ, List.set_cons_zero]
            refine wpAnyH_take (i := 11) (oi := { dst := some 76, op := Op.extract (Operand.tmp 65) 1, type := 4, pos := "law.go:46", after := #[{ on := 9, ground := Ground.data }, { on := 12, ground := Ground.gcOnly Departure.lateStores }], guard := none }) (v := ?_) rfl (by kernel_rfl) (by kernel_rfl) (by kernel_rfl) (fun _ _ _ h => h) (Or.inl ⟨by rfl, ?_⟩) (by assumption) ?_
            rotate_left
            · intro w hSw; (try dsimp only at hSw); first | (go_simp; done) | (go_simp; with_reducible rfl) | with_reducible rfl | rfl
            try simp only [Act.put, List.setIfInBounds_toArray, List.set_cons_succ, List.set_cons_zero]
            refine wpAnyH_take (i := 12) (oi := { dst := some 14, op := Op.assign (Operand.tmp 75), type := 3, pos := "law.go:46", after := #[{ on := 10, ground := Ground.data }, { on := 8, ground := Ground.chain }, { on := 0, ground := Ground.phase }, { on := 1, ground := Ground.phase }, { on := 2, ground := Ground.phase }, { on := 3, ground := Ground.phase }, { on := 4, ground := Ground.phase }, { on := 5, ground := Ground.phase }, { on := 6, ground := Ground.phase }, { on := 7, ground := Ground.phase }, { on := 8, ground := Ground.phase }, { on := 9, ground := Ground.phase }, { on := 10, ground := Ground.phase }, { on := 11, ground := Ground.textOnly Departure.lateStores }], guard := none }) (v := ?_) rfl (by kernel_rfl) (by kernel_rfl) (by kernel_rfl) (fun _ _ _ h => h) (Or.inl ⟨by rfl, ?_⟩) (by assumption) ?_
            rotate_left
            · intro w hSw; (try dsimp only at hSw); first | (go_simp; done) | (go_simp; with_reducible rfl) | with_reducible rfl | rfl
            try simp only [Act.put, List.setIfInBounds_toArray, List.set_cons_succ, List.set_cons_zero]
            refine wpAnyH_take (i := 13) (oi := { dst := some 15, op := Op.assign (Operand.tmp 76), type := 4, pos := "law.go:46", after := #[{ on := 11, ground := Ground.data }, { on := 12, ground := Ground.chain }, { on := 0, ground := Ground.phase }, { on := 1, ground := Ground.phase }, { on := 2, ground := Ground.phase }, { on := 3, ground := Ground.phase }, { on := 4, ground := Ground.phase }, { on := 5, ground := Ground.phase }, { on := 6, ground := Ground.phase }, { on := 7, ground := Ground.phase }, { on := 8, ground := Ground.phase }, { on := 9, ground := Ground.phase }, { on := 10, ground := Ground.phase }, { on := 11, ground := Ground.phase }, { on := 12, ground := Ground.phase }], guard := none }) (v := ?_) rfl (by kernel_rfl) (by kernel_rfl) (by kernel_rfl) (fun _ _ _ h => h) (Or.inl ⟨by rfl, ?_⟩) (by assumption) ?_
            rotate_left
            · intro w hSw; (try dsimp only at hSw); first | (go_simp; done) | (go_simp; with_reducible rfl) | with_reducible rfl | rfl
            try simp only [Act.put, List.setIfInBounds_toArray, List.set_cons_succ, List.set_cons_zero]
            refine wpAnyH_done (by kernel_rfl) ?_ _
            clear hHeld1
            go_wp2_with fail
            go_meet
            case rel => exact ⟨rfl, K1.out⟩
          exact AllReadyH.nil
        case rest =>
        obtain ⟨rfl, KB⟩ := hcut
        rename World => z6
        have HSB : Hid (∀ w', Below z6.heap.size z6 w' → w'.cell? ⟨w.heap.size, 0, none⟩ = some (.int .i64 p.dims) ∧ w'.cell? ⟨w.heap.size, 1, none⟩ = some (.int .i64 p.time.n) ∧ w'.cell? ⟨w.heap.size, 2, none⟩ = some (.slice ta p.time.cells.length tc) ∧ w'.cell? ⟨w.heap.size, 3, none⟩ = some (.int .i64 p.dist.n) ∧ w'.cell? ⟨w.heap.size, 4, none⟩ = some (.slice da p.dist.cells.length dc) ∧ w'.cell? ⟨w.heap.size, 5, none⟩ = some (.slice va p.vs.length vc9) ∧ w'.cell? ⟨w.heap.size, 6, none⟩ = some (.slice ja p.js.length jc) ∧ w'.cell? ⟨w.heap.size, 7, none⟩ = some (.slice sa p.ss.length sc) ∧ w'.cell? ⟨u2.heap.size, 0, none⟩ = some (.int .i64 (k : Int)) ∧ w'.cell? ⟨u2.heap.size, 1, none⟩ = some (.slice (some ⟨g, 0, none⟩) n c) ∧ w'.cell? ⟨u2.heap.size, 2, none⟩ = some (.int .i64 tm) ∧ w'.cell? ⟨u2.heap.size, 3, none⟩ = some (.int .i64 ds) ∧ w'.cell? ⟨u2.heap.size, 4, none⟩ = some (.int .i64 wt) ∧ w'.cell? ⟨u2.heap.size, 5, none⟩ = some (.int .i64 sv) ∧ w'.cell? ⟨u2.heap.size, 6, none⟩ = some (.int .i64 co) ∧ w'.cell? ⟨nb, q, none⟩ = some (.int .i64 lq) ∧ w'.cell? ⟨mb, q, none⟩ = some (.int .i64 (lq - ar)) ∧ w'.cell? ⟨g, q * 9 + 3, none⟩ = some (.int .i64 ar)) := fun w' hf => HSA.out w' (below_on KB.out hf)
        go_upto_region 14 with fail
        refine wp_region_held_drew (S := (fun w' => w'.cell? ⟨w.heap.size, 0, none⟩ = some (.int .i64 p.dims) ∧ w'.cell? ⟨w.heap.size, 1, none⟩ = some (.int .i64 p.time.n) ∧ w'.cell? ⟨w.heap.size, 2, none⟩ = some (.slice ta p.time.cells.length tc) ∧ w'.cell? ⟨w.heap.size, 3, none⟩ = some (.int .i64 p.dist.n) ∧ w'.cell? ⟨w.heap.size, 4, none⟩ = some (.slice da p.dist.cells.length dc) ∧ w'.cell? ⟨w.heap.size, 5, none⟩ = some (.slice va p.vs.length vc9) ∧ w'.cell? ⟨w.heap.size, 6, none⟩ = some (.slice ja p.js.length jc) ∧ w'.cell? ⟨w.heap.size, 7, none⟩ = some (.slice sa p.ss.length sc) ∧ w'.cell? ⟨u2.heap.size, 0, none⟩ = some (.int .i64 (k : Int)) ∧ w'.cell? ⟨u2.heap.size, 1, none⟩ = some (.slice (some ⟨g, 0, none⟩) n c) ∧ w'.cell? ⟨u2.heap.size, 2, none⟩ = some (.int .i64 tm) ∧ w'.cell? ⟨u2.heap.size, 3, none⟩ = some (.int .i64 ds) ∧ w'.cell? ⟨u2.heap.size, 4, none⟩ = some (.int .i64 wt) ∧ w'.cell? ⟨u2.heap.size, 5, none⟩ = some (.int .i64 sv) ∧ w'.cell? ⟨u2.heap.size, 6, none⟩ = some (.int .i64 co) ∧ w'.cell? ⟨nb, q, none⟩ = some (.int .i64 lq) ∧ w'.cell? ⟨mb, q, none⟩ = some (.int .i64 (lq - ar)) ∧ w'.cell? ⟨g, q * 9 + 3, none⟩ = some (.int .i64 ar))) (by kernel_rfl) ?_ (fun hHeld0 => ?_)
        · (try dsimp only); first | fail | exact HSB.out _ (Below.refl _ _) | exact HSB.out _ ((Below.refl _ _).drew) | (go_keep; done)
        obtain ⟨u0, hu0⟩ : ∃ u, z6.drew = u := ⟨_, rfl⟩
        rw [hu0]
        rw [hu0] at hHeld0
        have K0 : Hid (Below z6.heap.size z6 u0) := by show Below _ _ _; rw [← hu0]; exact ((Below.refl _ _).drew)
        clear hu0
        refine wpAnyH_take (i := 0) (oi := { dst := some 77, op := Op.move (Operand.tmp 13), type := 4, pos := "law.go:47", after := #[], guard := none }) (v := ?_) rfl (by kernel_rfl) (by kernel_rfl) (by kernel_rfl) (fun _ _ _ h => h) (Or.inl ⟨by rfl, ?_⟩) (by assumption) ?_
        rotate_left
        · intro w hSw; (try dsimp only at hSw); first | (go_simp; done) | (go_simp; with_reducible rfl) | with_reducible rfl | rfl
        try simp only [Act.put, List.setIfInBounds_toArray, List.set_cons_succ, List.set_cons_zero]
        refine wpAnyH_take (i := 1) (oi := { dst := some 78, op := Op.unOp UnOp.not 4 (Operand.tmp 77), type := 4, pos := "law.go:47", after := #[{ on := 0, ground := Ground.data }], guard := none }) (v := ?_) rfl (by kernel_rfl) (by kernel_rfl) (by kernel_rfl) (fun _ _ _ h => h) (Or.inl ⟨by rfl, ?_⟩) (by assumption) ?_
        rotate_left
        · intro w hSw; (try dsimp only at hSw); first | (go_simp; done) | (go_simp; with_reducible rfl) | with_reducible rfl | rfl
        try simp only [Act.put, List.setIfInBounds_toArray, List.set_cons_succ, List.set_cons_zero]
        refine wpAnyH_take (i := 2) (oi := { dst := some 79, op := Op.move (Operand.tmp 78), type := 4, pos := "law.go:47", after := #[{ on := 1, ground := Ground.data }], guard := none }) (v := ?_) rfl (by kernel_rfl) (by kernel_rfl) (by kernel_rfl) (fun _ _ _ h => h) (Or.inl ⟨by rfl, ?_⟩) (by assumption) ?_
        rotate_left
        · intro w hSw; (try dsimp only at hSw); first | (go_simp; done) | (go_simp; with_reducible rfl) | with_reducible rfl | rfl
        try simp only [Act.put, List.setIfInBounds_toArray, List.set_cons_succ, List.set_cons_zero]
        refine wpAnyH_take (i := 3) (oi := { dst := some 80, op := Op.move (Operand.tmp 15), type := 4, pos := "law.go:47", after := #[{ on := 2, ground := Ground.guard }], guard := some (2, false) }) (v := ?_) rfl (by kernel_rfl) (by kernel_rfl) (by kernel_rfl) (fun _ _ _ h => h) (Or.inl ⟨by rfl, ?_⟩) (by assumption) ?_
        rotate_left
        · intro w hSw; (try dsimp only at hSw); first | (go_simp; done) | (go_simp; with_reducible rfl) | with_reducible rfl | rfl
        try simp only [Act.put, List.setIfInBounds_toArray, List.set_cons_succ, List.set_cons_zero]
        refine wpAnyH_take (i := 4) (oi := { dst := some 81, op := Op.pick (Operand.tmp 79) (Operand.const (Value.bool true)) (Operand.tmp 80), type := 4, pos := "law.go:47", after := #[{ on := 2, ground := Ground.data }, { on := 3, ground := Ground.data }], guard := none }) (v := ?_) rfl (by kernel_rfl) (by kernel_rfl) (by kernel_rfl) (fun _ _ _ h => h) (Or.inl ⟨by rfl, ?_⟩) (by assumption) ?_
        rotate_left
        · intro w hSw; (try dsimp only at hSw); first | (go_simp; done) | (go_simp; with_reducible rfl) | with_reducible rfl | rfl
        try simp only [Act.put, List.setIfInBounds_toArray, List.set_cons_succ, List.set_cons_zero]
        refine wpAnyH_take (i := 5) (oi := { dst := some 82, op := Op.move (Operand.tmp 81), type := 4, pos := "law.go:47", after := #[{ on := 4, ground := Ground.data }, { on := 2, ground := Ground.chain }], guard := none }) (v := ?_) rfl (by kernel_rfl) (by kernel_rfl) (by kernel_rfl) (fun _ _ _ h => h) (Or.inl ⟨by rfl, ?_⟩) (by assumption) ?_
        rotate_left
        · intro w hSw; (try dsimp only at hSw); first | (go_simp; done) | (go_simp; with_reducible rfl) | with_reducible rfl | rfl
        try simp only [Act.put, List.setIfInBounds_toArray, List.set_cons_succ, List.set_cons_zero]
        refine wpAnyH_take (i := 6) (oi := { dst := some 83, op := Op.move (Operand.tmp 10), type := 22, pos := "law.go:47", after := #[{ on := 5, ground := Ground.guard }], guard := some (5, false) }) (v := ?_) rfl (by kernel_rfl) (by kernel_rfl) (by kernel_rfl) (fun _ _ _ h => h) (Or.inl ⟨by rfl, ?_⟩) (by assumption) ?_
        rotate_left
        · intro w hSw; (try dsimp only at hSw); first | (go_simp; done) | (go_simp; with_reducible rfl) | with_reducible rfl | rfl
        try simp only [Act.put, List.setIfInBounds_toArray, List.set_cons_succ, List.set_cons_zero]
        refine wpAnyH_take (i := 7) (oi := { dst := some 84, op := Op.move (Operand.tmp 11), type := 3, pos := "law.go:47", after := #[{ on := 5, ground := Ground.guard }], guard := some (5, false) }) (v := ?_) rfl (by kernel_rfl) (by kernel_rfl) (by kernel_rfl) (fun _ _ _ h => h) (Or.inl ⟨by rfl, ?_⟩) (by assumption) ?_
        rotate_left
        · intro w hSw; (try dsimp only at hSw); first | (go_simp; done) | (go_simp; with_reducible rfl) | with_reducible rfl | rfl
        try simp only [Act.put, List.setIfInBounds_toArray, List.set_cons_succ, List.set_cons_zero]
        refine wpAnyH_take (i := 8) (oi := { dst := some 85, op := Op.indexAddr 22 (Operand.tmp 83) (Operand.tmp 84), type := 0, pos := "law.go:47", after := #[{ on := 6, ground := Ground.data }, { on := 7, ground := Ground.data }, { on := 5, ground := Ground.guard }], guard := some (5, false) }) (v := ?_) rfl (by kernel_rfl) (by kernel_rfl) (by kernel_rfl) (fun _ _ _ h => h) (Or.inl ⟨by rfl, ?_⟩) (by assumption) ?_
        rotate_left
        · intro w hSw; (try dsimp only at hSw); first | (go_simp; done) | (go_simp; with_reducible rfl) | with_reducible rfl | rfl
        try simp only [Act.put, List.setIfInBounds_toArray, List.set_cons_succ, List.set_cons_zero]
        refine wpAnyH_take (i := 9) (oi := { dst := some 86, op := Op.load 3 (Operand.tmp 85), type := 3, pos := "law.go:47", after := #[{ on := 8, ground := Ground.data }, { on := 5, ground := Ground.guard }], guard := some (5, false) }) (v := ?_) rfl (by kernel_rfl) (by kernel_rfl) (by kernel_rfl) (fun _ _ _ h => h) (Or.inl ⟨by rfl, ?_⟩) (by assumption) ?_
        rotate_left
        · intro w hSw; (try dsimp only at hSw); first | (go_simp; done) | (go_simp; with_reducible rfl) | with_reducible rfl | rfl
        try simp only [Act.put, List.setIfInBounds_toArray, List.set_cons_succ, List.set_cons_zero]
        refine wpAnyH_take (i := 10) (oi := { dst := some 87, op := Op.move (Operand.tmp 9), type := 22, pos := "law.go:47", after := #[{ on := 5, ground := Ground.guard }], guard := some (5, false) }) (v := ?_) rfl (by kernel_rfl) (by kernel_rfl) (by kernel_rfl) (fun _ _ _ h => h) (Or.inl ⟨by rfl, ?_⟩) (by assumption) ?_
        rotate_left
        · intro w hSw; (try dsimp only at hSw); first | (go_simp; done) | (go_simp; with_reducible rfl) | with_reducible rfl | rfl
        try simp only [Act.put, List.setIfInBounds_toArray, List.set_cons_succ, List.set_cons_zero]
        refine wpAnyH_take (i := 11) (oi := { dst := some 88, op := Op.move (Operand.tmp 11), type := 3, pos := "law.go:47", after := #[{ on := 5, ground := Ground.guard }], guard := some (5, false) }) (v := ?_) rfl (by kernel_rfl) (by kernel_rfl) (by kernel_rfl) (fun _ _ _ h => h) (Or.inl ⟨by rfl, ?_⟩) (by assumption) ?_
        rotate_left
        · intro w hSw; (try dsimp only at hSw); first | (go_simp; done) | (go_simp; with_reducible rfl) | with_reducible rfl | rfl
        try simp only [Act.put, List.setIfInBounds_toArray, List.set_cons_succ, List.set_cons_zero]
        refine wpAnyH_take (i := 12) (oi := { dst := some 89, op := Op.indexAddr 22 (Operand.tmp 87) (Operand.tmp 88), type := 0, pos := "law.go:47", after := #[{ on := 10, ground := Ground.data }, { on := 11, ground := Ground.data }, { on := 5, ground := Ground.guard }], guard := some (5, false) }) (v := ?_) rfl (by kernel_rfl) (by kernel_rfl) (by kernel_rfl) (fun _ _ _ h => h) (Or.inl ⟨by rfl, ?_⟩) (by assumption) ?_
        rotate_left
        · intro w hSw; (try dsimp only at hSw); first | (go_simp; done) | (go_simp; with_reducible rfl) | with_reducible rfl | rfl
        try simp only [Act.put, List.setIfInBounds_toArray, List.set_cons_succ, List.set_cons_zero]
        refine wpAnyH_take (i := 13) (oi := { dst := some 90, op := Op.load 3 (Operand.tmp 89), type := 3, pos := "law.go:47", after := #[{ on := 12, ground := Ground.data }, { on := 5, ground := Ground.guard }], guard := some (5, false) }) (v := ?_) rfl (by kernel_rfl) (by kernel_rfl) (by kernel_rfl) (fun _ _ _ h => h) (Or.inl ⟨by rfl, ?_⟩) (by assumption) ?_
        rotate_left
        · intro w hSw; (try dsimp only at hSw); first | (go_simp; done) | (go_simp; with_reducible rfl) | with_reducible rfl | rfl
        try simp only [Act.put, List.setIfInBounds_toArray, List.set_cons_succ, List.set_cons_zero]
        refine wpAnyH_take (i := 14) (oi := { dst := some 91, op := Op.fieldAddr 34 (Operand.tmp 7) 1, type := 0, pos := "law.go:47", after := #[{ on := 5, ground := Ground.guard }], guard := some (5, false) }) (v := ?_) rfl (by kernel_rfl) (by kernel_rfl) (by kernel_rfl) (fun _ _ _ h => h) (Or.inl ⟨by rfl, ?_⟩) (by assumption) ?_
        rotate_left
        · intro w hSw; (try dsimp only at hSw); first | (go_simp; done) | (go_simp; with_reducible rfl) | with_reducible rfl | rfl
        try simp only [Act.put, List.setIfInBounds_toArray, List.set_cons_succ, List.set_cons_zero]
        refine wpAnyH_take (i := 15) (oi := { dst := some 92, op := Op.load 32 (Operand.tmp 91), type := 32, pos := "law.go:47", after := #[{ on := 14, ground := Ground.data }, { on := 5, ground := Ground.guard }], guard := some (5, false) }) (v := ?_) rfl (by kernel_rfl) (by kernel_rfl) (by kernel_rfl) (fun _ _ _ h => h) (Or.inl ⟨by rfl, ?_⟩) (by assumption) ?_
        rotate_left
        · intro w hSw; (try dsimp only at hSw); first | (go_simp; done) | (go_simp; with_reducible rfl) | with_reducible rfl | rfl
        try simp only [Act.put, List.setIfInBounds_toArray, List.set_cons_succ, List.set_cons_zero]
        refine wpAnyH_take (i := 16) (oi := { dst := some 93, op := Op.move (Operand.tmp 11), type := 3, pos := "law.go:47", after := #[{ on := 5, ground := Ground.guard }], guard := some (5, false) }) (v := ?_) rfl (by kernel_rfl) (by kernel_rfl) (by kernel_rfl) (fun _ _ _ h => h) (Or.inl ⟨by rfl, ?_⟩) (by assumption) ?_
        rotate_left
        · intro w hSw; (try dsimp only at hSw); first | (go_simp; done) | (go_simp; with_reducible rfl) | with_reducible rfl | rfl
        try simp only [Act.put, List.setIfInBounds_toArray, List.set_cons_succ, List.set_cons_zero]
        refine wpAnyH_take (i := 17) (oi := { dst := some 94, op := Op.indexAddr 32 (Operand.tmp 92) (Operand.tmp 93), type := 0, pos := "law.go:47", after := #[{ on := 15, ground := Ground.data }, { on := 16, ground := Ground.data }, { on := 5, ground := Ground.guard }], guard := some (5, false) }) (v := ?_) rfl (by kernel_rfl) (by kernel_rfl) (by kernel_rfl) (fun _ _ _ h => h) (Or.inl ⟨by rfl, ?_⟩) (by assumption) ?_
        rotate_left
        · intro w hSw; (try dsimp only at hSw); first | (go_simp; done) | (go_simp; with_reducible rfl) | with_reducible rfl | rfl
        try simp only [Act.put, List.setIfInBounds_toArray, List.set_cons_succ, List.set_cons_zero]
        refine wpAnyH_take (i := 18) (oi := { dst := some 95, op := Op.fieldAddr 45 (Operand.tmp 94) 2, type := 0, pos := "law.go:47", after := #[{ on := 17, ground := Ground.data }, { on := 5, ground := Ground.guard }], guard := some (5, false) }) (v := ?_) rfl (by kernel_rfl) (by kernel_rfl) (by kernel_rfl) (fun _ _ _ h => h) (Or.inl ⟨by rfl, ?_⟩) (by assumption) ?_
        rotate_left
        · intro w hSw; (try dsimp only at hSw); first | (go_simp; done) | (go_simp; with_reducible rfl) | with_reducible rfl | rfl
        try simp only [Act.put, List.setIfInBounds_toArray, List.set_cons_succ, List.set_cons_zero]
        refine wpAnyH_take (i := 19) (oi := { dst := some 96, op := Op.load 3 (Operand.tmp 95), type := 3, pos := "law.go:47", after := #[{ on := 18, ground := Ground.data }, { on := 5, ground := Ground.guard }], guard := some (5, false) }) (v := ?_) rfl (by kernel_rfl) (by kernel_rfl) (by kernel_rfl) (fun _ _ _ h => h) (Or.inl ⟨by rfl, ?_⟩) (by assumption) ?_
        rotate_left
        · intro w hSw; (try dsimp only at hSw); first | (go_simp; done) | (go_simp; with_reducible rfl) | with_reducible rfl | rfl
        try simp only [Act.put, List.setIfInBounds_toArray, List.set_cons_succ, List.set_cons_zero]
        refine wpAnyH_take (i := 20) (oi := { dst := some 97, op := Op.binOp BinOp.sub 3 (Operand.tmp 90) (Operand.tmp 96) 3, type := 3, pos := "law.go:47", after := #[{ on := 13, ground := Ground.data }, { on := 19, ground := Ground.data }, { on := 5, ground := Ground.guard }], guard := some (5, false) }) (v := ?_) rfl (by kernel_rfl) (by kernel_rfl) (by kernel_rfl) (fun _ _ _ h => h) (Or.inl ⟨by rfl, ?_⟩) (by assumption) ?_
        rotate_left
        · intro w hSw; (try dsimp only at hSw); first | (go_simp; done) | (go_simp; with_reducible rfl) | with_reducible rfl | rfl
        try simp only [Act.put, List.setIfInBounds_toArray, List.set_cons_succ, List.set_cons_zero]
        refine wpAnyH_take (i := 21) (oi := { dst := some 98, op := Op.binOp BinOp.neq 3 (Operand.tmp 86) (Operand.tmp 97) 3, type := 4, pos := "law.go:47", after := #[{ on := 9, ground := Ground.data }, { on := 20, ground := Ground.data }, { on := 5, ground := Ground.guard }], guard := some (5, false) }) (v := ?_) rfl (by kernel_rfl) (by kernel_rfl) (by kernel_rfl) (fun _ _ _ h => h) (Or.inl ⟨by rfl, ?_⟩) (by assumption) ?_
        rotate_left
        · intro w hSw; (try dsimp only at hSw); first | (go_simp; done) | (go_simp; with_reducible rfl) | with_reducible rfl | rfl
        try simp only [Act.put, List.setIfInBounds_toArray, List.set_cons_succ, List.set_cons_zero]
        refine wpAnyH_take (i := 22) (oi := { dst := some 99, op := Op.pick (Operand.tmp 82) (Operand.const (Value.bool true)) (Operand.tmp 98), type := 4, pos := "law.go:47", after := #[{ on := 5, ground := Ground.data }, { on := 21, ground := Ground.data }], guard := none }) (v := ?_) rfl (by kernel_rfl) (by kernel_rfl) (by kernel_rfl) (fun _ _ _ h => h) (Or.inl ⟨by rfl, ?_⟩) (by assumption) ?_
        rotate_left
        · intro w hSw; (try dsimp only at hSw); first | (go_simp; done) | (go_simp; with_reducible rfl) | with_reducible rfl | rfl
        try simp only [Act.put, List.setIfInBounds_toArray, List.set_cons_succ, List.set_cons_zero]
        refine wpAnyH_take (i := 23) (oi := { dst := some 100, op := Op.move (Operand.tmp 99), type := 4, pos := "law.go:47", after := #[{ on := 22, ground := Ground.data }, { on := 5, ground := Ground.chain }], guard := none }) (v := ?_) rfl (by kernel_rfl) (by kernel_rfl) (by kernel_rfl) (fun _ _ _ h => h) (Or.inl ⟨by rfl, ?_⟩) (by assumption) ?_
        rotate_left
        · intro w hSw; (try dsimp only at hSw); first | (go_simp; done) | (go_simp; with_reducible rfl) | with_reducible rfl | rfl
        try simp only [Act.put, List.setIfInBounds_toArray, List.set_cons_succ, List.set_cons_zero]
        refine wpAnyH_take (i := 24) (oi := { dst := some 101, op := Op.move (Operand.tmp 10), type := 22, pos := "law.go:47", after := #[{ on := 23, ground := Ground.guard }], guard := some (23, false) }) (v := ?_) rfl (by kernel_rfl) (by kernel_rfl) (by kernel_rfl) (fun _ _ _ h => h) (Or.inl ⟨by rfl, ?_⟩) (by assumption) ?_
        rotate_left
        · intro w hSw; (try dsimp only at hSw); first | (go_simp; done) | (go_simp; with_reducible rfl) | with_reducible rfl | rfl
        try simp only [Act.put, List.setIfInBounds_toArray, List.set_cons_succ, List.set_cons_zero]
        refine wpAnyH_take (i := 25) (oi := { dst := some 102, op := Op.move (Operand.tmp 11), type := 3, pos := "law.go:47", after := #[{ on := 23, ground := Ground.guard }], guard := some (23, false) }) (v := ?_) rfl (by kernel_rfl) (by kernel_rfl) (by kernel_rfl) (fun _ _ _ h => h) (Or.inl ⟨by rfl, ?_⟩) (by assumption) ?_
        rotate_left
        · intro w hSw; (try dsimp only at hSw); first | (go_simp; done) | (go_simp; with_reducible rfl) | with_reducible rfl | rfl
        try simp only [Act.put, List.setIfInBounds_toArray, List.set_cons_succ, List.set_cons_zero]
        refine wpAnyH_take (i := 26) (oi := { dst := some 103, op := Op.indexAddr 22 (Operand.tmp 101) (Operand.tmp 102), type := 0, pos := "law.go:47", after := #[{ on := 24, ground := Ground.data }, { on := 25, ground := Ground.data }, { on := 23, ground := Ground.guard }], guard := some (23, false) }) (v := ?_) rfl (by kernel_rfl) (by kernel_rfl) (by kernel_rfl) (fun _ _ _ h => h) (Or.inl ⟨by rfl, ?_⟩) (by assumption) ?_
        rotate_left
        · intro w hSw; (try dsimp only at hSw); first | (go_simp; done) | (go_simp; with_reducible rfl) | with_reducible rfl | rfl
        try simp only [Act.put, List.setIfInBounds_toArray, List.set_cons_succ, List.set_cons_zero]
        refine wpAnyH_take (i := 27) (oi := { dst := some 104, op := Op.load 3 (Operand.tmp 103), type := 3, pos := "law.go:47", after := #[{ on := 26, ground := Ground.data }, { on := 23, ground := Ground.guard }], guard := some (23, false) }) (v := ?_) rfl (by kernel_rfl) (by kernel_rfl) (by kernel_rfl) (fun _ _ _ h => h) (Or.inl ⟨by rfl, ?_⟩) (by assumption) ?_
        rotate_left
        · intro w hSw; (try dsimp only at hSw); first | (go_simp; done) | (go_simp; with_reducible rfl) | with_reducible rfl | rfl
        try simp only [Act.put, List.setIfInBounds_toArray, List.set_cons_succ, List.set_cons_zero]
        refine wpAnyH_take (i := 28) (oi := { dst := some 105, op := Op.binOp BinOp.lss 3 (Operand.tmp 104) (Operand.const (Value.int IntKind.i64 0)) 3, type := 4, pos := "law.go:47", after := #[{ on := 27, ground := Ground.data }, { on := 23, ground := Ground.guard }], guard := some (23, false) }) (v := ?_) rfl (by kernel_rfl) (by kernel_rfl) (by kernel_rfl) (fun _ _ _ h => h) (Or.inl ⟨by rfl, ?_⟩) (by assumption) ?_
        rotate_left
        · intro w hSw; (try dsimp only at hSw); first | (go_simp; done) | (go_simp; with_reducible rfl) | with_reducible rfl | rfl
        try simp only [Act.put, List.setIfInBounds_toArray, List.set_cons_succ, List.set_cons_zero]
        refine wpAnyH_take (i := 29) (oi := { dst := some 106, op := Op.pick (Operand.tmp 100) (Operand.const (Value.bool true)) (Operand.tmp 105), type := 4, pos := "law.go:47", after := #[{ on := 23, ground := Ground.data }, { on := 28, ground := Ground.data }], guard := none }) (v := ?_) rfl (by kernel_rfl) (by kernel_rfl) (by kernel_rfl) (fun _ _ _ h => h) (Or.inl ⟨by rfl, ?_⟩) (by assumption) ?_
        rotate_left
        · intro w hSw; (try dsimp only at hSw); first | (go_simp; done) | (go_simp; with_reducible rfl) | with_reducible rfl | rfl
        try simp only [Act.put, List.setIfInBounds_toArray, List.set_cons_succ, List.set_cons_zero]
        refine wpAnyH_done (by kernel_rfl) ?_ _
        clear hHeld0
        go_wp2_with fail
        go_roundw
        case rel => exact ⟨q + 1, rfl, by omega, below_on HR.out (below_on KA.out (below_on KB.out K0.out))⟩
        case measure => simp [intOf]; omega
      · obtain rfl : q = n := by omega
        go_wp2_with fail
        go_ret
        exact ⟨rfl, below_on HB.out (below_on E4.out HR.out)⟩
end Go.Proofs.Ytndbikoccdjafaa
