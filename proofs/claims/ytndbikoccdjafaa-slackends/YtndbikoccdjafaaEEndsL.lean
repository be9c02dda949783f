/-
  SlackEnds: Ends at any step and time.
-/
import Derived.BigRegion
import Derived.Test.YtndbikoccdjafaaBSkFG
import Derived.Test.YtndbikoccdjafaaBSk9
import Derived.Test.YtndbikoccdjafaaBSk10
import Derived.Test.YtndbikoccdjafaaBSkRG
import Derived.Test.YtndbikoccdjafaaBCCpX
namespace Go.Proofs.Ytndbikoccdjafaa
open Go.RowKit
theorem hs14 (args : Array Value) (w : World) : (callFunc 14 args).run Try.prog w = .ok (.enter 14 args) w := Go.Proofs.enters_of Try.func14 (by kernel_rfl) rfl args w
theorem hs17 (args : Array Value) (w : World) : (callFunc 17 args).run Try.prog w = .ok (.enter 17 args) w := Go.Proofs.enters_of Try.func17 (by kernel_rfl) rfl args w
set_option maxRecDepth 100000 in
set_option maxHeartbeats 6400000 in
theorem slackends_any {w : World} {x : PrbS} {p : Prb} {m vc : Nat} {va0 : Option Addr} {V : List Vst} (h : PrbV w x p) (hV : VsV w (.slice va0 m vc) V) (hm : V.length = m) (vi : Int) (i t : Int) (ht : -9223372036854775808 ≤ t) : Calls Try.prog 4 #[.agg (prbE p x), .int .i64 vi, .slice va0 m vc, .agg #[.int .i64 i, .int .i64 t]] w fun e w' => e = .returned (.bool true) ∧ Below w.heap.size w w' := by
  have HP := hide h
  have HV := hide hV
  have HM := hide hm
  have hmb : m * 16 ≤ 140737488351232 := by obtain ⟨_, _, e, hb, _⟩ := hV; rw [← hm]; exact hb
  clear hV hm
  obtain ⟨ta, tc, da, dc, va, vc9, ja, jc, sa, sc, rfl⟩ := h.open
  clear h
  have HT0 := hide ht
  clear ht
  obtain ⟨mb, hmb2⟩ : ∃ z, madeB p vi V = z := ⟨_, rfl⟩
  have HMB := hide hmb2
  obtain ⟨W, hW⟩ : ∃ W, (w.alloc (.cells #[.int .i64 p.dims, .int .i64 p.time.n, .slice ta p.time.cells.length tc, .int .i64 p.dist.n, .slice da p.dist.cells.length dc, .slice va p.vs.length vc9, .slice ja p.js.length jc, .slice sa p.ss.length sc] 29)).alloc (.cells #[.int .i64 i, .int .i64 t] 47) = W := ⟨_, rfl⟩
  have HB : Hid (Below w.heap.size w W) := by show Below _ _ _; rw [← hW]; exact ((Below.refl _ _).alloc (Nat.le_refl _) _).alloc (by simp) _
  have HX1 : Hid (W.heap[w.heap.size]? = some (.cells #[.int .i64 p.dims, .int .i64 p.time.n, .slice ta p.time.cells.length tc, .int .i64 p.dist.n, .slice da p.dist.cells.length dc, .slice va p.vs.length vc9, .slice ja p.js.length jc, .slice sa p.ss.length sc] 29 (0, 0))) := by show _ = _; rw [← hW, heap_alloc_old _ _ (by simp)]; exact new_block _ _
  have HX2 : Hid (W.heap[w.heap.size + 1]? = some (.cells #[.int .i64 i, .int .i64 t] 47 (0, 0))) := by
    show _ = _
    rw [← hW]
    have h9 := new_block (w.alloc (.cells #[.int .i64 p.dims, .int .i64 p.time.n, .slice ta p.time.cells.length tc, .int .i64 p.dist.n, .slice da p.dist.cells.length dc, .slice va p.vs.length vc9, .slice ja p.js.length jc, .slice sa p.ss.length sc] 29)) (.cells #[.int .i64 i, .int .i64 t] 47)
    simp only [World.size_alloc] at h9
    exact h9
  have H12 : Hid (∀ W2, Below w.heap.size w W2 → Calls Try.prog 12 #[.agg #[.int .i64 p.dims, .int .i64 p.time.n, .slice ta p.time.cells.length tc, .int .i64 p.dist.n, .slice da p.dist.cells.length dc, .slice va p.vs.length vc9, .slice ja p.js.length jc, .slice sa p.ss.length sc], .int .i64 vi, .slice va0 m vc] W2 fun e w' => ∃ (pl : PlanT) (pa : Option Addr) (pn pc : Nat), e = .returned (.tuple #[.agg #[.int .i64 pl.veh, .slice pa pn pc, .int .i64 pl.time, .int .i64 pl.dist, .int .i64 pl.wait, .int .i64 pl.serv, .int .i64 pl.cost], .bool mb]) ∧ (PlanW w' W2.heap.size (.agg #[.int .i64 pl.veh, .slice pa pn pc, .int .i64 pl.time, .int .i64 pl.dist, .int .i64 pl.wait, .int .i64 pl.serv, .int .i64 pl.cost]) pl ∧ (mb = true → pl = fitP p vi V)) ∧ Below W2.heap.size W2 w') := fun W2 hf => by
    have h9 := made_any (HP.out.on hf) (PrV.on HV.out hf) HM.out vi
    rw [HMB.out] at h9
    refine h9.mono ?_
    rintro e w' ⟨v, pl, rfl, hp, hq, k9⟩
    obtain ⟨a, n, c, ys, rfl, hr, hn⟩ := id hp
    exact ⟨pl, a, n, c, rfl, ⟨hp, hq⟩, k9⟩
  unfold prbE
  simp only
  clear hmb2 hmb
  cases mb with
  | false =>
    go_enter Try.func4, Try.ntmps4
    go_wp2_with (first | (go_at_call 12; refine (H12.out _ (below_on HB.out E1.out)).mono ?_; rintro e u2 ⟨pl, pa, pn, pc, rfl, ⟨hpw, hpe⟩, kk⟩; have E2 := hide (below_on E1.out kk); have HPW := hide hpw; have HPE := hide hpe; clear kk hpw hpe; clear c10 c11 c12 c13 c14 c15 c16 c17) | (go_at_call 11; refine (awake_any _).mono ?_; rintro e u1 ⟨rfl, kk⟩; have E1 := hide kk; clear kk; have c10 : u1.cell? ⟨w.heap.size, 0, none⟩ = some (.int .i64 p.dims) := ((bcell E1.out).1 _ _ (lt_of_block HX1.out)).trans (cell_of_row _ _ _ _ _ _ HX1.out); have c11 : u1.cell? ⟨w.heap.size, 1, none⟩ = some (.int .i64 p.time.n) := ((bcell E1.out).1 _ _ (lt_of_block HX1.out)).trans (cell_of_row _ _ _ _ _ _ HX1.out); have c12 : u1.cell? ⟨w.heap.size, 2, none⟩ = some (.slice ta p.time.cells.length tc) := ((bcell E1.out).1 _ _ (lt_of_block HX1.out)).trans (cell_of_row _ _ _ _ _ _ HX1.out); have c13 : u1.cell? ⟨w.heap.size, 3, none⟩ = some (.int .i64 p.dist.n) := ((bcell E1.out).1 _ _ (lt_of_block HX1.out)).trans (cell_of_row _ _ _ _ _ _ HX1.out); have c14 : u1.cell? ⟨w.heap.size, 4, none⟩ = some (.slice da p.dist.cells.length dc) := ((bcell E1.out).1 _ _ (lt_of_block HX1.out)).trans (cell_of_row _ _ _ _ _ _ HX1.out); have c15 : u1.cell? ⟨w.heap.size, 5, none⟩ = some (.slice va p.vs.length vc9) := ((bcell E1.out).1 _ _ (lt_of_block HX1.out)).trans (cell_of_row _ _ _ _ _ _ HX1.out); have c16 : u1.cell? ⟨w.heap.size, 6, none⟩ = some (.slice ja p.js.length jc) := ((bcell E1.out).1 _ _ (lt_of_block HX1.out)).trans (cell_of_row _ _ _ _ _ _ HX1.out); have c17 : u1.cell? ⟨w.heap.size, 7, none⟩ = some (.slice sa p.ss.length sc) := ((bcell E1.out).1 _ _ (lt_of_block HX1.out)).trans (cell_of_row _ _ _ _ _ _ HX1.out)) | fail)
    go_ret
    exact ⟨rfl, (below_on HB.out E2.out).alloc (by have h1 := (below_on HB.out E2.out).size; omega) _⟩
  | true =>
    obtain ⟨k, L, G, l, e9, hF⟩ := made_facts HMB.out
    have HF := hide hF
    obtain rfl := hF.man
    clear hF
    go_enter Try.func4, Try.ntmps4
    go_upto_region 6 with (first | (go_at_call 12; refine (H12.out _ (below_on HB.out E1.out)).mono ?_; rintro e u2 ⟨pl, pa, pn, pc, rfl, ⟨hpw, hpe⟩, kk⟩; have E2 := hide (below_on E1.out kk); have HPW := hide hpw; have HPE := hide hpe; clear kk hpw hpe; clear c10 c11 c12 c13 c14 c15 c16 c17) | (go_at_call 11; refine (awake_any _).mono ?_; rintro e u1 ⟨rfl, kk⟩; have E1 := hide kk; clear kk; have c10 : u1.cell? ⟨w.heap.size, 0, none⟩ = some (.int .i64 p.dims) := ((bcell E1.out).1 _ _ (lt_of_block HX1.out)).trans (cell_of_row _ _ _ _ _ _ HX1.out); have c11 : u1.cell? ⟨w.heap.size, 1, none⟩ = some (.int .i64 p.time.n) := ((bcell E1.out).1 _ _ (lt_of_block HX1.out)).trans (cell_of_row _ _ _ _ _ _ HX1.out); have c12 : u1.cell? ⟨w.heap.size, 2, none⟩ = some (.slice ta p.time.cells.length tc) := ((bcell E1.out).1 _ _ (lt_of_block HX1.out)).trans (cell_of_row _ _ _ _ _ _ HX1.out); have c13 : u1.cell? ⟨w.heap.size, 3, none⟩ = some (.int .i64 p.dist.n) := ((bcell E1.out).1 _ _ (lt_of_block HX1.out)).trans (cell_of_row _ _ _ _ _ _ HX1.out); have c14 : u1.cell? ⟨w.heap.size, 4, none⟩ = some (.slice da p.dist.cells.length dc) := ((bcell E1.out).1 _ _ (lt_of_block HX1.out)).trans (cell_of_row _ _ _ _ _ _ HX1.out); have c15 : u1.cell? ⟨w.heap.size, 5, none⟩ = some (.slice va p.vs.length vc9) := ((bcell E1.out).1 _ _ (lt_of_block HX1.out)).trans (cell_of_row _ _ _ _ _ _ HX1.out); have c16 : u1.cell? ⟨w.heap.size, 6, none⟩ = some (.slice ja p.js.length jc) := ((bcell E1.out).1 _ _ (lt_of_block HX1.out)).trans (cell_of_row _ _ _ _ _ _ HX1.out); have c17 : u1.cell? ⟨w.heap.size, 7, none⟩ = some (.slice sa p.ss.length sc) := ((bcell E1.out).1 _ _ (lt_of_block HX1.out)).trans (cell_of_row _ _ _ _ _ _ HX1.out)) | fail)
    obtain rfl := HPE.out (by first | rfl | trivial)
    obtain ⟨a, n, c, tm, ds, wt, sv, co, hv, hst, hsl⟩ := slk_made HF.out HPW.out
    unfold planC at hv
    have hvv : (#[.int .i64 (fitP p (k : Int) V).veh, .slice pa pn pc, .int .i64 (fitP p (k : Int) V).time, .int .i64 (fitP p (k : Int) V).dist, .int .i64 (fitP p (k : Int) V).wait, .int .i64 (fitP p (k : Int) V).serv, .int .i64 (fitP p (k : Int) V).cost] : Array Value) = #[.int .i64 (k : Int), .slice a n c, .int .i64 tm, .int .i64 ds, .int .i64 wt, .int .i64 sv, .int .i64 co] := by injection hv
    clear hv
    obtain ⟨u3, hu3⟩ : ∃ z, u2.alloc (.cells #[.int .i64 (fitP p (k : Int) V).veh, .slice pa pn pc, .int .i64 (fitP p (k : Int) V).time, .int .i64 (fitP p (k : Int) V).dist, .int .i64 (fitP p (k : Int) V).wait, .int .i64 (fitP p (k : Int) V).serv, .int .i64 (fitP p (k : Int) V).cost] 34) = z := ⟨_, rfl⟩
    rw [hu3]
    have HX8 : Hid (u3.heap[u2.heap.size]? = some (.cells #[.int .i64 (k : Int), .slice a n c, .int .i64 tm, .int .i64 ds, .int .i64 wt, .int .i64 sv, .int .i64 co] 34 (0, 0))) := by show _ = _; rw [← hu3, ← hvv]; exact new_block _ _
    have E3 : Hid (Below W.heap.size W u3) := by show Below _ _ _; rw [← hu3]; exact below_on E2.out ((Below.refl _ _).alloc (Nat.le_refl _) _)
    have HSL : Hid (∀ (W2 : World) (x2 : PrbS), Below u3.heap.size u3 W2 → PrbV W2 x2 p → SlkV W2 x2 p k a n L G) := fun W2 x2 hb h => hsl W2 x2 (below_on (by rw [← hu3]; exact (Below.refl _ _).alloc (Nat.le_refl _) _) hb) h
    have HST : Hid (StpC u3 a n L) := by show StpC _ _ _ _; rw [← hu3]; exact hst.on ((Below.refl _ _).alloc (Nat.le_refl _) _)
    have HNN : Hid (n = G.length + 1 ∧ 1 ≤ G.length ∧ G.length ≤ 40 ∧ L.length = n) := by
      have h1 := HF.out.rt.len
      have h2 := HF.out.rt.low
      have h3 := HF.out.rt.high
      have h4 := hst.1
      show _ ∧ _ ∧ _ ∧ _
      omega
    have HVV := hide hvv
    clear hu3 hsl hst hvv HPE HPW
    obtain ⟨cl, hcl⟩ : ∃ z, (p.vs.getD k vz).shift.2 = z := ⟨_, rfl⟩
    have HCL := hide hcl
    have HR : ∃ (re : Int) (rb : Bool), Hid ((∀ W2 x2, Below u3.heap.size u3 W2 → PrbV W2 x2 p → Calls Try.prog 17 #[.agg (prbE p x2), .agg #[.int .i64 (k : Int), .slice a n c, .int .i64 tm, .int .i64 ds, .int .i64 wt, .int .i64 sv, .int .i64 co], .int .i64 i, .int .i64 t] W2 fun e w' => e = .returned (.tuple #[.int .i64 re, .bool rb]) ∧ Below W2.heap.size W2 w') ∧ (i < 0 ∨ (n : Int) ≤ i → re = 0 ∧ rb = false) ∧ (∀ j : Nat, i = j → j < n → re = (endG cl (G.drop j) t).getD 0 ∧ rb = (endG cl (G.drop j) t).isSome)) := by
      by_cases hi : i < 0 ∨ (n : Int) ≤ i
      · refine ⟨0, false, fun W2 x2 hb h => ends_out (HSL.out W2 x2 hb h) HF.out.lat hi t c tm ds wt sv co, fun _ => ⟨rfl, rfl⟩, fun j e hj => ?_⟩
        rcases hi with h | h <;> omega
      · obtain ⟨j, rfl⟩ : ∃ j : Nat, i = j := ⟨i.toNat, by omega⟩
        refine ⟨(endG cl (G.drop j) t).getD 0, (endG cl (G.drop j) t).isSome, fun W2 x2 hb h => ?_, fun h => absurd h hi, fun j2 e hj => ?_⟩
        · have h9 := ends_any (HSL.out W2 x2 hb h) HF.out.lat (i := j) (by omega) HT0.out c tm ds wt sv co
          rw [hcl] at h9
          exact h9
        · have : j2 = j := by omega
          subst this
          exact ⟨rfl, rfl⟩
    obtain ⟨re, rb, HR⟩ := HR
    have H14 : Hid (∀ W2, Below w.heap.size w W2 → Calls Try.prog 14 #[.agg #[.int .i64 p.dims, .int .i64 p.time.n, .slice ta p.time.cells.length tc, .int .i64 p.dist.n, .slice da p.dist.cells.length dc, .slice va p.vs.length vc9, .slice ja p.js.length jc, .slice sa p.ss.length sc]] W2 fun e w' => ∃ xt xtc xd xdc xv xvc xj xjc xs xsc, e = .returned (.agg #[.int .i64 p.dims, .int .i64 p.time.n, .slice xt p.time.cells.length xtc, .int .i64 p.dist.n, .slice xd p.dist.cells.length xdc, .slice xv p.vs.length xvc, .slice xj p.js.length xjc, .slice xs p.ss.length xsc]) ∧ PrbV w' ⟨.slice xt p.time.cells.length xtc, .slice xd p.dist.cells.length xdc, .slice xv p.vs.length xvc, .slice xj p.js.length xjc, .slice xs p.ss.length xsc⟩ p ∧ Below W2.heap.size W2 w') := fun W2 hf => by
      refine (copied_any (HP.out.on hf)).mono ?_
      rintro e w' ⟨x', rfl, ⟨_, _, _, hq⟩, k9⟩
      have hp := hq.prb
      obtain ⟨xt, xtc, xd, xdc, xv, xvc, xj, xjc, xs, xsc, rfl⟩ := hp.open
      exact ⟨xt, xtc, xd, xdc, xv, xvc, xj, xjc, xs, xsc, rfl, hp, k9⟩
    have HS6 : Hid (∀ w', Below u3.heap.size u3 w' → w'.cell? ⟨w.heap.size + 1, 0, none⟩ = some (.int .i64 i) ∧ w'.cell? ⟨w.heap.size + 1, 1, none⟩ = some (.int .i64 t)) := fun w' hf => ⟨((bcell (below_on E3.out hf)).1 _ _ (lt_of_block HX2.out)).trans (cell_of_row _ _ _ _ _ _ HX2.out), ((bcell (below_on E3.out hf)).1 _ _ (lt_of_block HX2.out)).trans (cell_of_row _ _ _ _ _ _ HX2.out)⟩
    go_upto_region 6 with fail
    go_cut [11, 12] from 28 to 32 (fun v11 v12 wx => v11 = .int .i64 i ∧ v12 = .int .i64 t ∧ Hid (Below u3.heap.size u3 wx))
    case first =>
      refine wp_region_held_drew (S := (fun w' => w'.cell? ⟨w.heap.size + 1, 0, none⟩ = some (.int .i64 i) ∧ w'.cell? ⟨w.heap.size + 1, 1, none⟩ = some (.int .i64 t))) (by kernel_rfl) ?_ (fun hHeld0 => ?_)
      · (try dsimp only); first | fail | exact HS6.out _ (Below.refl _ _) | exact HS6.out _ ((Below.refl _ _).drew) | (go_keep; done)
      obtain ⟨u0, hu0⟩ : ∃ u, u3.drew = u := ⟨_, rfl⟩
      rw [hu0]
      rw [hu0] at hHeld0
      have K0 : Hid (Below u3.heap.size u3 u0) := by show Below _ _ _; rw [← hu0]; exact ((Below.refl _ _).drew)
      clear hu0
      refine wpAnyH_take (i := 0) (oi := { dst := some 28, op := Op.indexAddr 47 (Operand.tmp 7) (Operand.const (Value.int IntKind.i64 0)), type := 0, pos := "law.go:63", after := #[], guard := none }) (v := ?_) rfl (by kernel_rfl) (by kernel_rfl) (by kernel_rfl) (fun _ _ _ h => h) (Or.inl ⟨by rfl, ?_⟩) (by assumption) ?_
      rotate_left
      · intro w hSw; (try dsimp only at hSw); first | (go_simp; done) | (go_simp; with_reducible rfl) | with_reducible rfl | rfl
      try simp only [Act.put, List.setIfInBounds_toArray, List.set_cons_succ, List.set_cons_zero]
      refine wpAnyH_take (i := 1) (oi := { dst := some 29, op := Op.load 3 (Operand.tmp 28), type := 3, pos := "law.go:63", after := #[{ on := 0, ground := Ground.data }], guard := none }) (v := ?_) rfl (by kernel_rfl) (by kernel_rfl) (by kernel_rfl) (fun _ _ _ h => h) (Or.inl ⟨by rfl, ?_⟩) (by assumption) ?_
      rotate_left
      · intro w hSw; (try dsimp only at hSw); first | (go_simp; done) | (go_simp; with_reducible rfl) | with_reducible rfl | rfl
      try simp only [Act.put, List.setIfInBounds_toArray, List.set_cons_succ, List.set_cons_zero]
      refine wpAnyH_take (i := 2) (oi := { dst := some 30, op := Op.indexAddr 47 (Operand.tmp 7) (Operand.const (Value.int IntKind.i64 1)), type := 0, pos := "law.go:63", after := #[{ on := 4, ground := Ground.gcOnly Departure.lateStores }], guard := none }) (v := ?_) rfl (by kernel_rfl) (by kernel_rfl) (by kernel_rfl) (fun _ _ _ h => h) (Or.inl ⟨by rfl, ?_⟩) (by assumption) ?_
      rotate_left
      · intro w hSw; (try dsimp only at hSw); first | (go_simp; done) | (go_simp; with_reducible rfl) | with_reducible rfl | rfl
      try simp only [Act.put, List.setIfInBounds_toArray, List.set_cons_succ, List.set_cons_zero]
      refine wpAnyH_take (i := 3) (oi := { dst := some 31, op := Op.load 3 (Operand.tmp 30), type := 3, pos := "law.go:63", after := #[{ on := 2, ground := Ground.data }, { on := 4, ground := Ground.gcOnly Departure.lateStores }], guard := none }) (v := ?_) rfl (by kernel_rfl) (by kernel_rfl) (by kernel_rfl) (fun _ _ _ h => h) (Or.inl ⟨by rfl, ?_⟩) (by assumption) ?_
      rotate_left
      · intro w hSw; (try dsimp only at hSw); first | (go_simp; done) | (go_simp; with_reducible rfl) | with_reducible rfl | rfl
      try simp only [Act.put, List.setIfInBounds_toArray, List.set_cons_succ, List.set_cons_zero]
      refine wpAnyH_take (i := 4) (oi := { dst := some 11, op := Op.assign (Operand.tmp 29), type := 3, pos := "law.go:63", after := #[{ on := 1, ground := Ground.data }, { on := 0, ground := Ground.phase }, { on := 1, ground := Ground.phase }, { on := 2, ground := Ground.textOnly Departure.lateStores }, { on := 3, ground := Ground.textOnly Departure.lateStores }], guard := none }) (v := ?_) rfl (by kernel_rfl) (by kernel_rfl) (by kernel_rfl) (fun _ _ _ h => h) (Or.inl ⟨by rfl, ?_⟩) (by assumption) ?_
      rotate_left
      · intro w hSw; (try dsimp only at hSw); first | (go_simp; done) | (go_simp; with_reducible rfl) | with_reducible rfl | rfl
      try simp only [Act.put, List.setIfInBounds_toArray, List.set_cons_succ, List.set_cons_zero]
      refine wpAnyH_take (i := 5) (oi := { dst := some 12, op := Op.assign (Operand.tmp 31), type := 3, pos := "law.go:63", after := #[{ on := 3, ground := Ground.data }, { on := 4, ground := Ground.chain }, { on := 0, ground := Ground.phase }, { on := 1, ground := Ground.phase }, { on := 2, ground := Ground.phase }, { on := 3, ground := Ground.phase }, { on := 4, ground := Ground.phase }], guard := none }) (v := ?_) rfl (by kernel_rfl) (by kernel_rfl) (by kernel_rfl) (fun _ _ _ h => h) (Or.inl ⟨by rfl, ?_⟩) (by assumption) ?_
      rotate_left
      · intro w hSw; (try dsimp only at hSw); first | (go_simp; done) | (go_simp; with_reducible rfl) | with_reducible rfl | rfl
      try simp only [Act.put, List.setIfInBounds_toArray, List.set_cons_succ, List.set_cons_zero]
      refine wpAnyH_done (by kernel_rfl) ?_ _
      clear hHeld0
      go_wp2_with fail
      go_meet
      case rel => exact ⟨rfl, rfl, K0.out⟩
    case rest =>
    obtain ⟨rfl, rfl, K6⟩ := hcut
    rename World => u4
    have E4 := hide (below_on E3.out K6.out)
    have HX8u4 := hide ((K6.out.block _ (lt_of_block HX8.out)).trans HX8.out)
    have HS7 : Hid (∀ w', Below u4.heap.size u4 w' → w'.cell? ⟨w.heap.size, 0, none⟩ = some (.int .i64 p.dims) ∧ w'.cell? ⟨w.heap.size, 1, none⟩ = some (.int .i64 p.time.n) ∧ w'.cell? ⟨w.heap.size, 2, none⟩ = some (.slice ta p.time.cells.length tc) ∧ w'.cell? ⟨w.heap.size, 3, none⟩ = some (.int .i64 p.dist.n) ∧ w'.cell? ⟨w.heap.size, 4, none⟩ = some (.slice da p.dist.cells.length dc) ∧ w'.cell? ⟨w.heap.size, 5, none⟩ = some (.slice va p.vs.length vc9) ∧ w'.cell? ⟨w.heap.size, 6, none⟩ = some (.slice ja p.js.length jc) ∧ w'.cell? ⟨w.heap.size, 7, none⟩ = some (.slice sa p.ss.length sc) ∧ w'.cell? ⟨u2.heap.size, 0, none⟩ = some (.int .i64 (k : Int)) ∧ w'.cell? ⟨u2.heap.size, 1, none⟩ = some (.slice a n c) ∧ w'.cell? ⟨u2.heap.size, 2, none⟩ = some (.int .i64 tm) ∧ w'.cell? ⟨u2.heap.size, 3, none⟩ = some (.int .i64 ds) ∧ w'.cell? ⟨u2.heap.size, 4, none⟩ = some (.int .i64 wt) ∧ w'.cell? ⟨u2.heap.size, 5, none⟩ = some (.int .i64 sv) ∧ w'.cell? ⟨u2.heap.size, 6, none⟩ = some (.int .i64 co)) := fun w' hf => ⟨((bcell (below_on E4.out hf)).1 _ _ (lt_of_block HX1.out)).trans (cell_of_row _ _ _ _ _ _ HX1.out), ((bcell (below_on E4.out hf)).1 _ _ (lt_of_block HX1.out)).trans (cell_of_row _ _ _ _ _ _ HX1.out), ((bcell (below_on E4.out hf)).1 _ _ (lt_of_block HX1.out)).trans (cell_of_row _ _ _ _ _ _ HX1.out), ((bcell (below_on E4.out hf)).1 _ _ (lt_of_block HX1.out)).trans (cell_of_row _ _ _ _ _ _ HX1.out), ((bcell (below_on E4.out hf)).1 _ _ (lt_of_block HX1.out)).trans (cell_of_row _ _ _ _ _ _ HX1.out), ((bcell (below_on E4.out hf)).1 _ _ (lt_of_block HX1.out)).trans (cell_of_row _ _ _ _ _ _ HX1.out), ((bcell (below_on E4.out hf)).1 _ _ (lt_of_block HX1.out)).trans (cell_of_row _ _ _ _ _ _ HX1.out), ((bcell (below_on E4.out hf)).1 _ _ (lt_of_block HX1.out)).trans (cell_of_row _ _ _ _ _ _ HX1.out), ((bcell hf).1 _ _ (lt_of_block HX8u4.out)).trans (cell_of_row _ _ _ _ _ _ HX8u4.out), ((bcell hf).1 _ _ (lt_of_block HX8u4.out)).trans (cell_of_row _ _ _ _ _ _ HX8u4.out), ((bcell hf).1 _ _ (lt_of_block HX8u4.out)).trans (cell_of_row _ _ _ _ _ _ HX8u4.out), ((bcell hf).1 _ _ (lt_of_block HX8u4.out)).trans (cell_of_row _ _ _ _ _ _ HX8u4.out), ((bcell hf).1 _ _ (lt_of_block HX8u4.out)).trans (cell_of_row _ _ _ _ _ _ HX8u4.out), ((bcell hf).1 _ _ (lt_of_block HX8u4.out)).trans (cell_of_row _ _ _ _ _ _ HX8u4.out), ((bcell hf).1 _ _ (lt_of_block HX8u4.out)).trans (cell_of_row _ _ _ _ _ _ HX8u4.out)⟩
    go_upto_region 7 with fail
    go_cut [13, 14] from 32 to 41 (fun v13 v14 wx => v13 = .int .i64 re ∧ v14 = .bool rb ∧ Hid (Below u4.heap.size u4 wx))
    case first =>
      refine wp_region_held_drew (S := (fun w' => w'.cell? ⟨w.heap.size, 0, none⟩ = some (.int .i64 p.dims) ∧ w'.cell? ⟨w.heap.size, 1, none⟩ = some (.int .i64 p.time.n) ∧ w'.cell? ⟨w.heap.size, 2, none⟩ = some (.slice ta p.time.cells.length tc) ∧ w'.cell? ⟨w.heap.size, 3, none⟩ = some (.int .i64 p.dist.n) ∧ w'.cell? ⟨w.heap.size, 4, none⟩ = some (.slice da p.dist.cells.length dc) ∧ w'.cell? ⟨w.heap.size, 5, none⟩ = some (.slice va p.vs.length vc9) ∧ w'.cell? ⟨w.heap.size, 6, none⟩ = some (.slice ja p.js.length jc) ∧ w'.cell? ⟨w.heap.size, 7, none⟩ = some (.slice sa p.ss.length sc) ∧ w'.cell? ⟨u2.heap.size, 0, none⟩ = some (.int .i64 (k : Int)) ∧ w'.cell? ⟨u2.heap.size, 1, none⟩ = some (.slice a n c) ∧ w'.cell? ⟨u2.heap.size, 2, none⟩ = some (.int .i64 tm) ∧ w'.cell? ⟨u2.heap.size, 3, none⟩ = some (.int .i64 ds) ∧ w'.cell? ⟨u2.heap.size, 4, none⟩ = some (.int .i64 wt) ∧ w'.cell? ⟨u2.heap.size, 5, none⟩ = some (.int .i64 sv) ∧ w'.cell? ⟨u2.heap.size, 6, none⟩ = some (.int .i64 co))) (by kernel_rfl) ?_ (fun hHeld0 => ?_)
      · (try dsimp only); first | fail | exact HS7.out _ (Below.refl _ _) | exact HS7.out _ ((Below.refl _ _).drew) | (go_keep; done)
      obtain ⟨u0, hu0⟩ : ∃ u, u4.drew = u := ⟨_, rfl⟩
      rw [hu0]
      rw [hu0] at hHeld0
      have K0 : Hid (Below u4.heap.size u4 u0) := by show Below _ _ _; rw [← hu0]; exact ((Below.refl _ _).drew)
      clear hu0
      refine wpAnyH_take (i := 0) (oi := { dst := some 33, op := Op.load 29 (Operand.tmp 4), type := 29, pos := "law.go:64", after := #[], guard := none }) (v := ?_) rfl (by kernel_rfl) (by kernel_rfl) (by kernel_rfl) (fun _ _ _ h => h) (Or.inl ⟨by rfl, ?_⟩) (by assumption) ?_
      rotate_left
      · intro w hSw; (try dsimp only at hSw); first | (go_simp; done) | (go_simp; with_reducible rfl) | with_reducible rfl | rfl
      try simp only [Act.put, List.setIfInBounds_toArray, List.set_cons_succ, List.set_cons_zero]
      refine wpAnyH_take (i := 2) (oi := { dst := some 35, op := Op.load 34 (Operand.tmp 9), type := 34, pos := "law.go:64", after := #[], guard := none }) (v := ?_) rfl (by kernel_rfl) (by kernel_rfl) (by kernel_rfl) (fun _ _ _ h => h) (Or.inl ⟨by rfl, ?_⟩) (by assumption) ?_
      rotate_left
      · intro w hSw; (try dsimp only at hSw); first | (go_simp; done) | (go_simp; with_reducible rfl) | with_reducible rfl | rfl
      try simp only [Act.put, List.setIfInBounds_toArray, List.set_cons_succ, List.set_cons_zero]
      refine wpAnyH_take (i := 3) (oi := { dst := some 36, op := Op.move (Operand.tmp 11), type := 3, pos := "law.go:64", after := #[], guard := none }) (v := ?_) rfl (by kernel_rfl) (by kernel_rfl) (by kernel_rfl) (fun _ _ _ h => h) (Or.inl ⟨by rfl, ?_⟩) (by assumption) ?_
      rotate_left
      · intro w hSw; (try dsimp only at hSw); first | (go_simp; done) | (go_simp; with_reducible rfl) | with_reducible rfl | rfl
      try simp only [Act.put, List.setIfInBounds_toArray, List.set_cons_succ, List.set_cons_zero]
      refine wpAnyH_take (i := 4) (oi := { dst := some 37, op := Op.move (Operand.tmp 12), type := 3, pos := "law.go:64", after := #[], guard := none }) (v := ?_) rfl (by kernel_rfl) (by kernel_rfl) (by kernel_rfl) (fun _ _ _ h => h) (Or.inl ⟨by rfl, ?_⟩) (by assumption) ?_
      rotate_left
      · intro w hSw; (try dsimp only at hSw); first | (go_simp; done) | (go_simp; with_reducible rfl) | with_reducible rfl | rfl
      try simp only [Act.put, List.setIfInBounds_toArray, List.set_cons_succ, List.set_cons_zero]
      refine wpAnyH_ready (rs := [1]) (by kernel_rfl) (by simp) ?_
      refine AllReadyH.cons (o := { dst := some 34, op := Op.call { callee := Callee.value (Operand.func 14), args := #[Operand.tmp 33], argTypes := #[29] }, type := 29, pos := "law.go:64", after := #[{ on := 0, ground := Ground.data }], guard := none }) rfl (fun K hK => ?_) ?_
      · refine held_call (by rfl) 14 _ _ (by rfl) hs14 [.agg #[.int .i64 p.dims, .int .i64 p.time.n, .slice ta p.time.cells.length tc, .int .i64 p.dist.n, .slice da p.dist.cells.length dc, .slice va p.vs.length vc9, .slice ja p.js.length jc, .slice sa p.ss.length sc]] (by rfl) ?_; refine (H14.out _ (below_on HB.out (below_on E4.out K0.out))).mono ?_; rintro e u1 ⟨xt, xtc, xd, xdc, xv, xvc, xj, xjc, xs, xsc, rfl, hpq, k9⟩; refine ⟨_, rfl, ?_⟩; have E1 := hide k9; have K1 := hide (below_on K0.out k9); clear k9
        have HQ1 := hide (hpq)
        clear hpq
        refine hK.out _ _ ?_ (fun hHeld1 => ?_)
        · (try dsimp only); exact HS7.out _ K1.out
        clear hK K
        try simp only [Act.put, List.setIfInBounds_toArray, List.set_cons_succ, List.set_cons_zero]
        clear hHeld0
        refine wpAnyH_ready (rs := [5]) (by kernel_rfl) (by simp) ?_
        refine AllReadyH.cons (o := { dst := some 38, op := Op.call { callee := Callee.value (Operand.func 17), args := #[Operand.tmp 34, Operand.tmp 35, Operand.tmp 36, Operand.tmp 37], argTypes := #[29, 34, 3, 3] }, type := 39, pos := "law.go:64", after := #[{ on := 1, ground := Ground.data }, { on := 2, ground := Ground.data }, { on := 3, ground := Ground.data }, { on := 4, ground := Ground.data }, { on := 1, ground := Ground.chain }], guard := none }) rfl (fun K hK => ?_) ?_
        · refine held_call (by rfl) 17 _ _ (by rfl) hs17 [.agg #[.int .i64 p.dims, .int .i64 p.time.n, .slice xt p.time.cells.length xtc, .int .i64 p.dist.n, .slice xd p.dist.cells.length xdc, .slice xv p.vs.length xvc, .slice xj p.js.length xjc, .slice xs p.ss.length xsc], .agg #[.int .i64 (k : Int), .slice a n c, .int .i64 tm, .int .i64 ds, .int .i64 wt, .int .i64 sv, .int .i64 co], .int .i64 i, .int .i64 t] (by rfl) ?_; refine (HR.out.1 _ _ (below_on K6.out K1.out) HQ1.out).mono ?_; rintro e u2 ⟨rfl, k9⟩; refine ⟨_, rfl, ?_⟩; have E2 := hide k9; have K2 := hide (below_on K1.out k9); clear k9
          have HQ2 := hide (PrbV.on HQ1.out E2.out)
          clear HQ1
          refine hK.out _ _ ?_ (fun hHeld2 => ?_)
          · (try dsimp only); exact HS7.out _ K2.out
          clear hK K
          try simp only [Act.put, List.setIfInBounds_toArray, List.set_cons_succ, List.set_cons_zero]
          clear hHeld1
          refine wpAnyH_take (i := 6) (oi := { dst := some 32, op := Op.move (Operand.tmp 38), type := 39, pos := "law.go:64", after := #[{ on := 5, ground := Ground.data }], guard := none }) (v := ?_) rfl (by kernel_rfl) (by kernel_rfl) (by kernel_rfl) (fun _ _ _ h => h) (Or.inl ⟨by rfl, ?_⟩) (by assumption) ?_
          rotate_left
          · intro w hSw; (try dsimp only at hSw); first | (go_simp; done) | (go_simp; with_reducible rfl) | with_reducible rfl | rfl
          try simp only [Act.put, List.setIfInBounds_toArray, List.set_cons_succ, List.set_cons_zero]
          refine wpAnyH_take (i := 7) (oi := { dst := some 39, op := Op.extract (Operand.tmp 32) 0, type := 3, pos := "law.go:64", after := #[{ on := 6, ground := Ground.data }], guard := none }) (v := ?_) rfl (by kernel_rfl) (by kernel_rfl) (by kernel_rfl) (fun _ _ _ h => h) (Or.inl ⟨by rfl, ?_⟩) (by assumption) ?_
          rotate_left
          · intro w hSw; (try dsimp only at hSw); first | (go_simp; done) | (go_simp; with_reducible rfl) | with_reducible rfl | rfl
          try simp only [Act.put, List.setIfInBounds_toArray, List.set_cons_succ, List.set_cons_zero]
          refine wpAnyH_take (i := 8) (oi := { dst := some 40, op := Op.extract (Operand.tmp 32) 1, type := 4, pos := "law.go:64", after := #[{ on := 6, ground := Ground.data }, { on := 9, ground := Ground.gcOnly Departure.lateStores }], guard := none }) (v := ?_) rfl (by kernel_rfl) (by kernel_rfl) (by kernel_rfl) (fun _ _ _ h => h) (Or.inl ⟨by rfl, ?_⟩) (by assumption) ?_
          rotate_left
          · intro w hSw; (try dsimp only at hSw); first | (go_simp; done) | (go_simp; with_reducible rfl) | with_reducible rfl | rfl
          try simp only [Act.put, List.setIfInBounds_toArray, List.set_cons_succ, List.set_cons_zero]
          refine wpAnyH_take (i := 9) (oi := { dst := some 13, op := Op.assign (Operand.tmp 39), type := 3, pos := "law.go:64", after := #[{ on := 7, ground := Ground.data }, { on := 5, ground := Ground.chain }, { on := 0, ground := Ground.phase }, { on := 1, ground := Ground.phase }, { on := 2, ground := Ground.phase }, { on := 3, ground := Ground.phase }, { on := 4, ground := Ground.phase }, { on := 5, ground := Ground.phase }, { on := 6, ground := Ground.phase }, { on := 7, ground := Ground.phase }, { on := 8, ground := Ground.textOnly Departure.lateStores }], guard := none }) (v := ?_) rfl (by kernel_rfl) (by kernel_rfl) (by kernel_rfl) (fun _ _ _ h => h) (Or.inl ⟨by rfl, ?_⟩) (by assumption) ?_
          rotate_left
          · intro w hSw; (try dsimp only at hSw); first | (go_simp; done) | (go_simp; with_reducible rfl) | with_reducible rfl | rfl
          try simp only [Act.put, List.setIfInBounds_toArray, List.set_cons_succ, List.set_cons_zero]
          refine wpAnyH_take (i := 10) (oi := { dst := some 14, op := Op.assign (Operand.tmp 40), type := 4, pos := "law.go:64", after := #[{ on := 8, ground := Ground.data }, { on := 9, ground := Ground.chain }, { on := 0, ground := Ground.phase }, { on := 1, ground := Ground.phase }, { on := 2, ground := Ground.phase }, { on := 3, ground := Ground.phase }, { on := 4, ground := Ground.phase }, { on := 5, ground := Ground.phase }, { on := 6, ground := Ground.phase }, { on := 7, ground := Ground.phase }, { on := 8, ground := Ground.phase }, { on := 9, ground := Ground.phase }], guard := none }) (v := ?_) rfl (by kernel_rfl) (by kernel_rfl) (by kernel_rfl) (fun _ _ _ h => h) (Or.inl ⟨by rfl, ?_⟩) (by assumption) ?_
          rotate_left
          · intro w hSw; (try dsimp only at hSw); first | (go_simp; done) | (go_simp; with_reducible rfl) | with_reducible rfl | rfl
          try simp only [Act.put, List.setIfInBounds_toArray, List.set_cons_succ, List.set_cons_zero]
          refine wpAnyH_done (by kernel_rfl) ?_ _
          clear hHeld2
          go_wp2_with fail
          go_meet
          case rel => exact ⟨rfl, rfl, K2.out⟩
        exact AllReadyH.nil
      exact AllReadyH.nil
    case rest =>
    obtain ⟨rfl, rfl, K7⟩ := hcut
    rename World => u5
    have E5 := hide (below_on E4.out K7.out)
    have HX8u5 := hide ((K7.out.block _ (lt_of_block HX8u4.out)).trans HX8u4.out)
    have c50 : u5.cell? ⟨w.heap.size, 0, none⟩ = some (.int .i64 p.dims) := ((bcell E5.out).1 _ _ (lt_of_block HX1.out)).trans (cell_of_row _ _ _ _ _ _ HX1.out)
    have c51 : u5.cell? ⟨w.heap.size, 1, none⟩ = some (.int .i64 p.time.n) := ((bcell E5.out).1 _ _ (lt_of_block HX1.out)).trans (cell_of_row _ _ _ _ _ _ HX1.out)
    have c52 : u5.cell? ⟨w.heap.size, 2, none⟩ = some (.slice ta p.time.cells.length tc) := ((bcell E5.out).1 _ _ (lt_of_block HX1.out)).trans (cell_of_row _ _ _ _ _ _ HX1.out)
    have c53 : u5.cell? ⟨w.heap.size, 3, none⟩ = some (.int .i64 p.dist.n) := ((bcell E5.out).1 _ _ (lt_of_block HX1.out)).trans (cell_of_row _ _ _ _ _ _ HX1.out)
    have c54 : u5.cell? ⟨w.heap.size, 4, none⟩ = some (.slice da p.dist.cells.length dc) := ((bcell E5.out).1 _ _ (lt_of_block HX1.out)).trans (cell_of_row _ _ _ _ _ _ HX1.out)
    have c55 : u5.cell? ⟨w.heap.size, 5, none⟩ = some (.slice va p.vs.length vc9) := ((bcell E5.out).1 _ _ (lt_of_block HX1.out)).trans (cell_of_row _ _ _ _ _ _ HX1.out)
    have c56 : u5.cell? ⟨w.heap.size, 6, none⟩ = some (.slice ja p.js.length jc) := ((bcell E5.out).1 _ _ (lt_of_block HX1.out)).trans (cell_of_row _ _ _ _ _ _ HX1.out)
    have c57 : u5.cell? ⟨w.heap.size, 7, none⟩ = some (.slice sa p.ss.length sc) := ((bcell E5.out).1 _ _ (lt_of_block HX1.out)).trans (cell_of_row _ _ _ _ _ _ HX1.out)
    have c5p0 : u5.cell? ⟨u2.heap.size, 0, none⟩ = some (.int .i64 (k : Int)) := cell_of_row _ _ _ _ _ _ HX8u5.out
    have c5p1 : u5.cell? ⟨u2.heap.size, 1, none⟩ = some (.slice a n c) := cell_of_row _ _ _ _ _ _ HX8u5.out
    have c5p2 : u5.cell? ⟨u2.heap.size, 2, none⟩ = some (.int .i64 tm) := cell_of_row _ _ _ _ _ _ HX8u5.out
    have c5p3 : u5.cell? ⟨u2.heap.size, 3, none⟩ = some (.int .i64 ds) := cell_of_row _ _ _ _ _ _ HX8u5.out
    have c5p4 : u5.cell? ⟨u2.heap.size, 4, none⟩ = some (.int .i64 wt) := cell_of_row _ _ _ _ _ _ HX8u5.out
    have c5p5 : u5.cell? ⟨u2.heap.size, 5, none⟩ = some (.int .i64 sv) := cell_of_row _ _ _ _ _ _ HX8u5.out
    have c5p6 : u5.cell? ⟨u2.heap.size, 6, none⟩ = some (.int .i64 co) := cell_of_row _ _ _ _ _ _ HX8u5.out
    by_cases hi0 : i < 0
    · obtain ⟨rfl, rfl⟩ := HR.out.2.1 (.inl hi0)
      go_wp2_with fail
      go_ret
      exact ⟨rfl, below_on HB.out E5.out⟩
    · by_cases hin : (n : Int) ≤ i
      · obtain ⟨rfl, rfl⟩ := HR.out.2.1 (.inr hin)
        go_wp2_with fail
        go_ret
        exact ⟨rfl, below_on HB.out E5.out⟩
      · by_cases ht1 : t < -1000000000
        · go_wp2_with fail
          go_ret
          exact ⟨rfl, below_on HB.out E5.out⟩
        · by_cases ht2 : 1000000000 < t
          · go_wp2_with fail
            go_ret
            exact ⟨rfl, below_on HB.out E5.out⟩
          · obtain ⟨j, rfl⟩ : ∃ j : Nat, i = j := ⟨i.toNat, by omega⟩
            have hjn : j < n := by omega
            obtain ⟨he1, he2⟩ := HR.out.2.2 j rfl hjn
            obtain ⟨E, hE⟩ : ∃ z, endG cl (G.drop j) t = z := ⟨_, rfl⟩
            rw [hE] at he1 he2
            have H16 : Hid (∀ W2, Below u5.heap.size u5 W2 → Calls Try.prog 16 #[.agg #[.int .i64 p.dims, .int .i64 p.time.n, .slice ta p.time.cells.length tc, .int .i64 p.dist.n, .slice da p.dist.cells.length dc, .slice va p.vs.length vc9, .slice ja p.js.length jc, .slice sa p.ss.length sc], .agg #[.int .i64 (k : Int), .slice a n c, .int .i64 tm, .int .i64 ds, .int .i64 wt, .int .i64 sv, .int .i64 co], .int .i64 (j : Int), .int .i64 t] W2 fun e w' => ∃ r, e = .returned (.tuple #[.int .i64 r, .bool rb]) ∧ (∀ z, E = some z → r = z) ∧ Below W2.heap.size W2 w') := fun W2 hf => by
              have h9 := rends_any (HSL.out W2 _ (below_on K6.out (below_on K7.out hf)) (HP.out.on (below_on HB.out (below_on E5.out hf)))) (i := j) hjn (t := t) (by omega) c tm ds wt sv co
              rw [HCL.out, hE, ← he2] at h9
              exact h9
            have HE1 := hide he1
            have HE2 := hide he2
            have HNJ := hide hjn
            clear he1 he2 hE hjn
            have z1 : decide ((j : Int) < 0) = false := decide_eq_false hi0
            cases E with
            | none =>
              obtain rfl : re = 0 := HE1.out
              obtain rfl : rb = false := HE2.out
              go_wp2_with (first | (go_at_call 16; refine (H16.out _ (Below.refl _ _)).mono ?_; rintro e u6 ⟨r, rfl, _, kk⟩; have E6 := hide (below_on E5.out kk); clear kk) | fail)
              go_ret
              exact ⟨rfl, below_on HB.out E6.out⟩
            | some z =>
              obtain rfl : re = z := HE1.out
              obtain rfl : rb = true := HE2.out
              go_wp2_with (first | (go_at_call 16; refine (H16.out _ (Below.refl _ _)).mono ?_; rintro e u6 ⟨r, rfl, hr, kk⟩; obtain rfl := hr _ rfl; have E6 := hide (below_on E5.out kk); clear kk) | fail)
              go_ret
              exact ⟨rfl, below_on HB.out E6.out⟩
end Go.Proofs.Ytndbikoccdjafaa
