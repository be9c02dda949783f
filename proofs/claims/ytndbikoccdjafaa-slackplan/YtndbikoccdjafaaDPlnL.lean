/-
  SlackPlan: at the plan's own times one comes to the end when the plan says; coming later ends no earlier.
-/
import Derived.BigRegion
import Derived.Test.YtndbikoccdjafaaBSkFG
import Derived.Test.YtndbikoccdjafaaBSk9
import Derived.Test.YtndbikoccdjafaaBSkRG
namespace Go.Proofs.Ytndbikoccdjafaa
open Go.RowKit
theorem umod_thousand (x : Int) : ∃ r : Nat, (IntKind.u64.wrap x).tmod 1000 = r ∧ r < 1000 := by
  have h0 : 0 ≤ IntKind.u64.wrap x := by rw [IntKind.wrap_u64]; omega
  have h1 := Int.tmod_lt_of_pos (IntKind.u64.wrap x) (show (0 : Int) < 1000 by decide)
  have h2 := Int.tmod_nonneg 1000 h0
  exact ⟨((IntKind.u64.wrap x).tmod 1000).toNat, by omega, by omega⟩
set_option maxRecDepth 100000 in
set_option maxHeartbeats 6400000 in
theorem slackplan_any {w : World} {x : PrbS} {p : Prb} {m vc : Nat} {va0 : Option Addr} {V : List Vst} (h : PrbV w x p) (hV : VsV w (.slice va0 m vc) V) (hm : V.length = m) (vi : Int) (mo : Int) : Calls Try.prog 5 #[.agg (prbE p x), .int .i64 vi, .slice va0 m vc, .int .i64 mo] w fun e w' => e = .returned (.bool true) ∧ Below w.heap.size w w' := by
  have HP := hide h
  have HV := hide hV
  have HM := hide hm
  have hmb : m * 16 ≤ 140737488351232 := by obtain ⟨_, _, e, hb, _⟩ := hV; rw [← hm]; exact hb
  clear hV hm
  obtain ⟨ta, tc, da, dc, va, vc9, ja, jc, sa, sc, rfl⟩ := h.open
  clear h
  obtain ⟨mb, hmb2⟩ : ∃ z, madeB p vi V = z := ⟨_, rfl⟩
  have HMB := hide hmb2
  obtain ⟨W, hW⟩ : ∃ W, w.alloc (.cells #[.int .i64 p.dims, .int .i64 p.time.n, .slice ta p.time.cells.length tc, .int .i64 p.dist.n, .slice da p.dist.cells.length dc, .slice va p.vs.length vc9, .slice ja p.js.length jc, .slice sa p.ss.length sc] 29) = W := ⟨_, rfl⟩
  have HB : Hid (Below w.heap.size w W) := by show Below _ _ _; rw [← hW]; exact (Below.refl _ _).alloc (Nat.le_refl _) _
  have HX1 : Hid (W.heap[w.heap.size]? = some (.cells #[.int .i64 p.dims, .int .i64 p.time.n, .slice ta p.time.cells.length tc, .int .i64 p.dist.n, .slice da p.dist.cells.length dc, .slice va p.vs.length vc9, .slice ja p.js.length jc, .slice sa p.ss.length sc] 29 (0, 0))) := by show _ = _; rw [← hW]; exact new_block _ _
  have H12 : Hid (∀ W2, Below w.heap.size w W2 → Calls Try.prog 12 #[.agg #[.int .i64 p.dims, .int .i64 p.time.n, .slice ta p.time.cells.length tc, .int .i64 p.dist.n, .slice da p.dist.cells.length dc, .slice va p.vs.length vc9, .slice ja p.js.length jc, .slice sa p.ss.length sc], .int .i64 vi, .slice va0 m vc] W2 fun e w' => ∃ (pl : PlanT) (pa : Option Addr) (pn pc : Nat), e = .returned (.tuple #[.agg #[.int .i64 pl.veh, .slice pa pn pc, .int .i64 pl.time, .int .i64 pl.dist, .int .i64 pl.wait, .int .i64 pl.serv, .int .i64 pl.cost], .bool mb]) ∧ (PlanW w' W2.heap.size (.agg #[.int .i64 pl.veh, .slice pa pn pc, .int .i64 pl.time, .int .i64 pl.dist, .int .i64 pl.wait, .int .i64 pl.serv, .int .i64 pl.cost]) pl ∧ (mb = true → pl = fitP p vi V)) ∧ Below W2.heap.size W2 w') := fun W2 hf => by
    have h9 := made_any (HP.out.on hf) (PrV.on HV.out hf) HM.out vi
    rw [HMB.out] at h9
    refine h9.mono ?_
    rintro e w' ⟨v, pl, rfl, hp, hq, k9⟩
    obtain ⟨a, n, c, ys, rfl, hr, hn⟩ := id hp
    exact ⟨pl, a, n, c, rfl, ⟨hp, hq⟩, k9⟩
  unfold prbE
  simp only
  clear hmb2 hmb
  cases mb with
  | false =>
    go_enter Try.func5, Try.ntmps5
    go_wp2_with (first | (go_at_call 12; refine (H12.out _ (below_on HB.out E1.out)).mono ?_; rintro e u2 ⟨pl, pa, pn, pc, rfl, ⟨hpw, hpe⟩, kk⟩; have E2 := hide (below_on E1.out kk); have HPW := hide hpw; have HPE := hide hpe; clear kk hpw hpe; clear c10 c11 c12 c13 c14 c15 c16 c17) | (go_at_call 11; refine (awake_any _).mono ?_; rintro e u1 ⟨rfl, kk⟩; have E1 := hide kk; clear kk; have c10 : u1.cell? ⟨w.heap.size, 0, none⟩ = some (.int .i64 p.dims) := ((bcell E1.out).1 _ _ (lt_of_block HX1.out)).trans (cell_of_row _ _ _ _ _ _ HX1.out); have c11 : u1.cell? ⟨w.heap.size, 1, none⟩ = some (.int .i64 p.time.n) := ((bcell E1.out).1 _ _ (lt_of_block HX1.out)).trans (cell_of_row _ _ _ _ _ _ HX1.out); have c12 : u1.cell? ⟨w.heap.size, 2, none⟩ = some (.slice ta p.time.cells.length tc) := ((bcell E1.out).1 _ _ (lt_of_block HX1.out)).trans (cell_of_row _ _ _ _ _ _ HX1.out); have c13 : u1.cell? ⟨w.heap.size, 3, none⟩ = some (.int .i64 p.dist.n) := ((bcell E1.out).1 _ _ (lt_of_block HX1.out)).trans (cell_of_row _ _ _ _ _ _ HX1.out); have c14 : u1.cell? ⟨w.heap.size, 4, none⟩ = some (.slice da p.dist.cells.length dc) := ((bcell E1.out).1 _ _ (lt_of_block HX1.out)).trans (cell_of_row _ _ _ _ _ _ HX1.out); have c15 : u1.cell? ⟨w.heap.size, 5, none⟩ = some (.slice va p.vs.length vc9) := ((bcell E1.out).1 _ _ (lt_of_block HX1.out)).trans (cell_of_row _ _ _ _ _ _ HX1.out); have c16 : u1.cell? ⟨w.heap.size, 6, none⟩ = some (.slice ja p.js.length jc) := ((bcell E1.out).1 _ _ (lt_of_block HX1.out)).trans (cell_of_row _ _ _ _ _ _ HX1.out); have c17 : u1.cell? ⟨w.heap.size, 7, none⟩ = some (.slice sa p.ss.length sc) := ((bcell E1.out).1 _ _ (lt_of_block HX1.out)).trans (cell_of_row _ _ _ _ _ _ HX1.out)) | fail)
    go_ret
    exact ⟨rfl, (below_on HB.out E2.out).alloc (by have h1 := (below_on HB.out E2.out).size; omega) _⟩
  | true =>
    obtain ⟨k, L, G, l, e9, hF⟩ := made_facts HMB.out
    have HF := hide hF
    obtain rfl := hF.man
    clear hF
    go_enter Try.func5, Try.ntmps5
    go_upto_region 6 with (first | (go_at_call 12; refine (H12.out _ (below_on HB.out E1.out)).mono ?_; rintro e u2 ⟨pl, pa, pn, pc, rfl, ⟨hpw, hpe⟩, kk⟩; have E2 := hide (below_on E1.out kk); have HPW := hide hpw; have HPE := hide hpe; clear kk hpw hpe; clear c10 c11 c12 c13 c14 c15 c16 c17) | (go_at_call 11; refine (awake_any _).mono ?_; rintro e u1 ⟨rfl, kk⟩; have E1 := hide kk; clear kk; have c10 : u1.cell? ⟨w.heap.size, 0, none⟩ = some (.int .i64 p.dims) := ((bcell E1.out).1 _ _ (lt_of_block HX1.out)).trans (cell_of_row _ _ _ _ _ _ HX1.out); have c11 : u1.cell? ⟨w.heap.size, 1, none⟩ = some (.int .i64 p.time.n) := ((bcell E1.out).1 _ _ (lt_of_block HX1.out)).trans (cell_of_row _ _ _ _ _ _ HX1.out); have c12 : u1.cell? ⟨w.heap.size, 2, none⟩ = some (.slice ta p.time.cells.length tc) := ((bcell E1.out).1 _ _ (lt_of_block HX1.out)).trans (cell_of_row _ _ _ _ _ _ HX1.out); have c13 : u1.cell? ⟨w.heap.size, 3, none⟩ = some (.int .i64 p.dist.n) := ((bcell E1.out).1 _ _ (lt_of_block HX1.out)).trans (cell_of_row _ _ _ _ _ _ HX1.out); have c14 : u1.cell? ⟨w.heap.size, 4, none⟩ = some (.slice da p.dist.cells.length dc) := ((bcell E1.out).1 _ _ (lt_of_block HX1.out)).trans (cell_of_row _ _ _ _ _ _ HX1.out); have c15 : u1.cell? ⟨w.heap.size, 5, none⟩ = some (.slice va p.vs.length vc9) := ((bcell E1.out).1 _ _ (lt_of_block HX1.out)).trans (cell_of_row _ _ _ _ _ _ HX1.out); have c16 : u1.cell? ⟨w.heap.size, 6, none⟩ = some (.slice ja p.js.length jc) := ((bcell E1.out).1 _ _ (lt_of_block HX1.out)).trans (cell_of_row _ _ _ _ _ _ HX1.out); have c17 : u1.cell? ⟨w.heap.size, 7, none⟩ = some (.slice sa p.ss.length sc) := ((bcell E1.out).1 _ _ (lt_of_block HX1.out)).trans (cell_of_row _ _ _ _ _ _ HX1.out)) | fail)
    obtain rfl := HPE.out (by first | rfl | trivial)
    obtain ⟨a, n, c, tm, ds, wt, sv, co, hv, ⟨hst, hsd⟩, hsl⟩ := slk_madeD HF.out HPW.out
    unfold planC at hv
    have hvv : (#[.int .i64 (fitP p (k : Int) V).veh, .slice pa pn pc, .int .i64 (fitP p (k : Int) V).time, .int .i64 (fitP p (k : Int) V).dist, .int .i64 (fitP p (k : Int) V).wait, .int .i64 (fitP p (k : Int) V).serv, .int .i64 (fitP p (k : Int) V).cost] : Array Value) = #[.int .i64 (k : Int), .slice a n c, .int .i64 tm, .int .i64 ds, .int .i64 wt, .int .i64 sv, .int .i64 co] := by injection hv
    clear hv
    obtain ⟨u3, hu3⟩ : ∃ z, u2.alloc (.cells #[.int .i64 (fitP p (k : Int) V).veh, .slice pa pn pc, .int .i64 (fitP p (k : Int) V).time, .int .i64 (fitP p (k : Int) V).dist, .int .i64 (fitP p (k : Int) V).wait, .int .i64 (fitP p (k : Int) V).serv, .int .i64 (fitP p (k : Int) V).cost] 34) = z := ⟨_, rfl⟩
    rw [hu3]
    have HX8 : Hid (u3.heap[u2.heap.size]? = some (.cells #[.int .i64 (k : Int), .slice a n c, .int .i64 tm, .int .i64 ds, .int .i64 wt, .int .i64 sv, .int .i64 co] 34 (0, 0))) := by show _ = _; rw [← hu3, ← hvv]; exact new_block _ _
    have E3 : Hid (Below W.heap.size W u3) := by show Below _ _ _; rw [← hu3]; exact below_on E2.out ((Below.refl _ _).alloc (Nat.le_refl _) _)
    have HSL : Hid (∀ (W2 : World) (x2 : PrbS), Below u3.heap.size u3 W2 → PrbV W2 x2 p → SlkV W2 x2 p k a n L G) := fun W2 x2 hb h => hsl W2 x2 (below_on (by rw [← hu3]; exact (Below.refl _ _).alloc (Nat.le_refl _) _) hb) h
    have HST : Hid (StpC u3 a n L) := by show StpC _ _ _ _; rw [← hu3]; exact hst.on ((Below.refl _ _).alloc (Nat.le_refl _) _)
    have HSD : Hid (StpD u3 a L) := by show StpD _ _ _; rw [← hu3]; exact hsd.on ((Below.refl _ _).alloc (Nat.le_refl _) _)
    clear hsd
    have HNN : Hid (n = G.length + 1 ∧ 1 ≤ G.length ∧ G.length ≤ 40 ∧ L.length = n) := by
      have h1 := HF.out.rt.len
      have h2 := HF.out.rt.low
      have h3 := HF.out.rt.high
      have h4 := hst.1
      show _ ∧ _ ∧ _ ∧ _
      omega
    have HVV := hide hvv
    clear hu3 hsl hst hvv HPE HPW
    obtain ⟨mr, hmr, hmr2⟩ := umod_thousand mo
    have hmw : IntKind.i64.wrap (mr : Int) = mr := by rw [IntKind.wrap_i64]; omega
    obtain ⟨cl, hcl⟩ : ∃ z, (p.vs.getD k vz).shift.2 = z := ⟨_, rfl⟩
    have HCL := hide hcl
    obtain ⟨s0, hs0⟩ : ∃ s, L[0]? = some s := ⟨_, List.getElem?_eq_getElem (by have h1 := HNN.out; omega)⟩
    obtain ⟨g, _, _, _, rfl, _, _⟩ := HSD.out 0 s0 hs0
    have HSS : Hid (∀ W2, Below u3.heap.size u3 W2 → ∀ j, j < n → ∃ (s : StepT) (ya : Option Addr) (yn yc : Nat), L[j]? = some s ∧ g < W2.heap.size ∧ (∀ i, i < 9 → W2.cell? ⟨g, j * 9 + i, none⟩ = (encS s (.slice ya yn yc))[i]?)) := fun W2 hf j hj => by
      have hn9 := HNN.out
      have hs : L[j]? = some (L[j]'(by omega)) := List.getElem?_eq_getElem (by omega)
      obtain ⟨g2, ya, yn, yc, e, h1, h2⟩ := (HSD.out.on hf) j _ hs
      injection e with e
      injection e with e
      subst e
      exact ⟨_, ya, yn, yc, hs, h1, h2⟩
    have H17 : Hid (∀ j (s : StepT), L[j]? = some s → j < n → ∃ (u : Int) (ub : Bool), (ub = true → e9 ≤ u) ∧ ∀ W2, Below u3.heap.size u3 W2 → (Calls Try.prog 17 #[.agg #[.int .i64 p.dims, .int .i64 p.time.n, .slice ta p.time.cells.length tc, .int .i64 p.dist.n, .slice da p.dist.cells.length dc, .slice va p.vs.length vc9, .slice ja p.js.length jc, .slice sa p.ss.length sc], .agg #[.int .i64 (k : Int), .slice (some ⟨g, 0, none⟩) n c, .int .i64 tm, .int .i64 ds, .int .i64 wt, .int .i64 sv, .int .i64 co], .int .i64 (j : Int), .int .i64 s.arr] W2 fun e w' => e = .returned (.tuple #[.int .i64 e9, .bool true]) ∧ Below W2.heap.size W2 w') ∧ (Calls Try.prog 17 #[.agg #[.int .i64 p.dims, .int .i64 p.time.n, .slice ta p.time.cells.length tc, .int .i64 p.dist.n, .slice da p.dist.cells.length dc, .slice va p.vs.length vc9, .slice ja p.js.length jc, .slice sa p.ss.length sc], .agg #[.int .i64 (k : Int), .slice (some ⟨g, 0, none⟩) n c, .int .i64 tm, .int .i64 ds, .int .i64 wt, .int .i64 sv, .int .i64 co], .int .i64 (j : Int), .int .i64 (s.arr + mr)] W2 fun e w' => e = .returned (.tuple #[.int .i64 u, .bool ub]) ∧ Below W2.heap.size W2 w')) := fun j s hs hj => by
      have ha := HF.out.arr j s hs
      have ho := HF.out.own j s hs
      refine ⟨(endG (p.vs.getD k vz).shift.2 (G.drop j) (s.arr + mr)).getD 0, (endG (p.vs.getD k vz).shift.2 (G.drop j) (s.arr + mr)).isSome, fun h => ?_, fun W2 hf => ⟨?_, ?_⟩⟩
      · obtain ⟨z, hz⟩ := Option.isSome_iff_exists.1 h
        rw [hz]
        exact end_mono (HF.out.rt.ok.drop j) (show s.arr ≤ s.arr + mr by omega) ho hz
      · have h9 := ends_any (HSL.out W2 _ hf (HP.out.on (below_on HB.out (below_on E3.out hf)))) HF.out.lat (i := j) hj (t := s.arr) (by omega) c tm ds wt sv co
        rw [ho] at h9
        exact h9
      · exact ends_any (HSL.out W2 _ hf (HP.out.on (below_on HB.out (below_on E3.out hf)))) HF.out.lat (i := j) hj (t := s.arr + mr) (by omega) c tm ds wt sv co
    obtain ⟨sl, _, _, _, hsl9, hgl, hcl9⟩ := HSS.out u3 (Below.refl _ _) (n - 1) (by have h1 := HNN.out; omega)
    have hla : sl.arr = e9 := HF.out.last sl (by have h1 := HNN.out; rw [show L.length - 1 = n - 1 by omega]; exact hsl9)
    obtain ⟨n9, hn9⟩ : ∃ z, n - 1 = z := ⟨_, rfl⟩
    rw [hn9] at hcl9
    have hc9 : u3.cell? ⟨g, n9 * 9 + 3, none⟩ = some (.int .i64 e9) := by rw [← hla]; exact hcl9 3 (by decide)
    have j0 : IntKind.i64.wrap ((n : Int) - 1) = (n9 : Int) := by rw [IntKind.wrap_i64]; have h1 := HNN.out; omega
    have j1 : (n9 : Int) < (n : Int) := by have h1 := HNN.out; omega
    have j2 : (0 : Int) ≤ (n9 : Int) := by omega
    have c3p0 : u3.cell? ⟨u2.heap.size, 0, none⟩ = some (.int .i64 (k : Int)) := cell_of_row _ _ _ _ _ _ HX8.out
    have c3p1 : u3.cell? ⟨u2.heap.size, 1, none⟩ = some (.slice (some ⟨g, 0, none⟩) n c) := cell_of_row _ _ _ _ _ _ HX8.out
    have c3p2 : u3.cell? ⟨u2.heap.size, 2, none⟩ = some (.int .i64 tm) := cell_of_row _ _ _ _ _ _ HX8.out
    have c3p3 : u3.cell? ⟨u2.heap.size, 3, none⟩ = some (.int .i64 ds) := cell_of_row _ _ _ _ _ _ HX8.out
    have c3p4 : u3.cell? ⟨u2.heap.size, 4, none⟩ = some (.int .i64 wt) := cell_of_row _ _ _ _ _ _ HX8.out
    have c3p5 : u3.cell? ⟨u2.heap.size, 5, none⟩ = some (.int .i64 sv) := cell_of_row _ _ _ _ _ _ HX8.out
    have c3p6 : u3.cell? ⟨u2.heap.size, 6, none⟩ = some (.int .i64 co) := cell_of_row _ _ _ _ _ _ HX8.out
    clear hs0 hsl9 hcl9 hla hn9 hcl
    go_wp2_with fail
    clear hmr hmw hc9 j0 j1 j2 c3p0 c3p1 c3p2 c3p3 c3p4 c3p5 c3p6
    go_loopw [45] (fun vi wr => ∃ q : Nat, vi = .int .i64 q ∧ q ≤ n ∧ Hid (Below u3.heap.size u3 wr)) (fun vi _ => n - (intOf vi).toNat)
    case atStart => exact ⟨0, rfl, Nat.zero_le _, Below.refl _ _⟩
    case round =>
      rename World => wr
      obtain ⟨q, rfl, hq, HR⟩ := hrel
      by_cases hqn : q < n
      · have E5 := hide (below_on E3.out HR.out)
        have HX8r := hide ((HR.out.block _ (lt_of_block HX8.out)).trans HX8.out)
        obtain ⟨s, ya, yn, yc, hs, hg, hcs⟩ := HSS.out wr HR.out q hqn
        obtain ⟨u, ub, hub, h17⟩ := H17.out q s hs hqn
        have ha := HF.out.arr q s hs
        have r0 : wr.cell? ⟨g, q * 9, none⟩ = some (.int .i64 s.kind) := hcs 0 (by decide)
        have r1 : wr.cell? ⟨g, q * 9 + 1, none⟩ = some (.int .i64 s.item) := hcs 1 (by decide)
        have r2 : wr.cell? ⟨g, q * 9 + 2, none⟩ = some (.int .i64 s.place) := hcs 2 (by decide)
        have r3 : wr.cell? ⟨g, q * 9 + 3, none⟩ = some (.int .i64 s.arr) := hcs 3 (by decide)
        have r4 : wr.cell? ⟨g, q * 9 + 4, none⟩ = some (.int .i64 s.wait) := hcs 4 (by decide)
        have r5 : wr.cell? ⟨g, q * 9 + 5, none⟩ = some (.int .i64 s.serv) := hcs 5 (by decide)
        have r6 : wr.cell? ⟨g, q * 9 + 6, none⟩ = some (.slice ya yn yc) := hcs 6 (by decide)
        have r7 : wr.cell? ⟨g, q * 9 + 7, none⟩ = some (.int .i64 s.time) := hcs 7 (by decide)
        have r8 : wr.cell? ⟨g, q * 9 + 8, none⟩ = some (.int .i64 s.dist) := hcs 8 (by decide)
        clear hcs
        obtain ⟨k0, hk0⟩ : ∃ z, s.kind = z := ⟨_, rfl⟩
        obtain ⟨k1, hk1⟩ : ∃ z, s.item = z := ⟨_, rfl⟩
        obtain ⟨k2, hk2⟩ : ∃ z, s.place = z := ⟨_, rfl⟩
        obtain ⟨ar, har⟩ : ∃ z, s.arr = z := ⟨_, rfl⟩
        obtain ⟨k4, hk4⟩ : ∃ z, s.wait = z := ⟨_, rfl⟩
        obtain ⟨k5, hk5⟩ : ∃ z, s.serv = z := ⟨_, rfl⟩
        obtain ⟨k7, hk7⟩ : ∃ z, s.time = z := ⟨_, rfl⟩
        obtain ⟨k8, hk8⟩ : ∃ z, s.dist = z := ⟨_, rfl⟩
        rw [hk0] at r0
        rw [hk1] at r1
        rw [hk2] at r2
        rw [har] at r3 ha h17
        rw [hk4] at r4
        rw [hk5] at r5
        rw [hk7] at r7
        rw [hk8] at r8
        have HCa := hide (fun W2 (hf : Below wr.heap.size wr W2) => (h17 W2 (below_on HR.out hf)).1)
        have HCb := hide (fun W2 (hf : Below wr.heap.size wr W2) => (h17 W2 (below_on HR.out hf)).2)
        have HUB := hide hub
        clear h17 hub hs hk0 hk1 hk2 har hk4 hk5 hk7 hk8
        have j1 : (q : Int) < (n : Int) := by omega
        have j2 : (0 : Int) ≤ (q : Int) := by omega
        have j3 : IntKind.i64.wrap (ar + mr) = ar + mr := by rw [IntKind.wrap_i64]; omega
        have j5 : IntKind.i64.wrap ((q : Int) + 1) = ((q + 1 : Nat) : Int) := by rw [IntKind.wrap_i64]; have h1 := HNN.out; omega
        have hgx : ¬ g = wr.heap.size := by omega
        go_upto_region 11 with fail
        obtain ⟨z5, hz5⟩ : ∃ z, wr.alloc (.cells #[.int .i64 k0, .int .i64 k1, .int .i64 k2, .int .i64 ar, .int .i64 k4, .int .i64 k5, .slice ya yn yc, .int .i64 k7, .int .i64 k8] 45) = z := ⟨_, rfl⟩
        rw [hz5]
        have HXS : Hid (z5.heap[wr.heap.size]? = some (.cells #[.int .i64 k0, .int .i64 k1, .int .i64 k2, .int .i64 ar, .int .i64 k4, .int .i64 k5, .slice ya yn yc, .int .i64 k7, .int .i64 k8] 45 (0, 0))) := by show _ = _; rw [← hz5]; exact new_block _ _
        have KA : Hid (Below wr.heap.size wr z5) := by show Below _ _ _; rw [← hz5]; exact (Below.refl _ _).alloc (Nat.le_refl _) _
        clear hz5 hgx r0 r1 r2 r3 r4 r5 r6 r7 r8
        have d50 : z5.cell? ⟨w.heap.size, 0, none⟩ = some (.int .i64 p.dims) := ((bcell (below_on E5.out KA.out)).1 _ _ (lt_of_block HX1.out)).trans (cell_of_row _ _ _ _ _ _ HX1.out)
        have d51 : z5.cell? ⟨w.heap.size, 1, none⟩ = some (.int .i64 p.time.n) := ((bcell (below_on E5.out KA.out)).1 _ _ (lt_of_block HX1.out)).trans (cell_of_row _ _ _ _ _ _ HX1.out)
        have d52 : z5.cell? ⟨w.heap.size, 2, none⟩ = some (.slice ta p.time.cells.length tc) := ((bcell (below_on E5.out KA.out)).1 _ _ (lt_of_block HX1.out)).trans (cell_of_row _ _ _ _ _ _ HX1.out)
        have d53 : z5.cell? ⟨w.heap.size, 3, none⟩ = some (.int .i64 p.dist.n) := ((bcell (below_on E5.out KA.out)).1 _ _ (lt_of_block HX1.out)).trans (cell_of_row _ _ _ _ _ _ HX1.out)
        have d54 : z5.cell? ⟨w.heap.size, 4, none⟩ = some (.slice da p.dist.cells.length dc) := ((bcell (below_on E5.out KA.out)).1 _ _ (lt_of_block HX1.out)).trans (cell_of_row _ _ _ _ _ _ HX1.out)
        have d55 : z5.cell? ⟨w.heap.size, 5, none⟩ = some (.slice va p.vs.length vc9) := ((bcell (below_on E5.out KA.out)).1 _ _ (lt_of_block HX1.out)).trans (cell_of_row _ _ _ _ _ _ HX1.out)
        have d56 : z5.cell? ⟨w.heap.size, 6, none⟩ = some (.slice ja p.js.length jc) := ((bcell (below_on E5.out KA.out)).1 _ _ (lt_of_block HX1.out)).trans (cell_of_row _ _ _ _ _ _ HX1.out)
        have d57 : z5.cell? ⟨w.heap.size, 7, none⟩ = some (.slice sa p.ss.length sc) := ((bcell (below_on E5.out KA.out)).1 _ _ (lt_of_block HX1.out)).trans (cell_of_row _ _ _ _ _ _ HX1.out)
        have d5p0 : z5.cell? ⟨u2.heap.size, 0, none⟩ = some (.int .i64 (k : Int)) := ((bcell KA.out).1 _ _ (lt_of_block HX8r.out)).trans (cell_of_row _ _ _ _ _ _ HX8r.out)
        have d5p1 : z5.cell? ⟨u2.heap.size, 1, none⟩ = some (.slice (some ⟨g, 0, none⟩) n c) := ((bcell KA.out).1 _ _ (lt_of_block HX8r.out)).trans (cell_of_row _ _ _ _ _ _ HX8r.out)
        have d5p2 : z5.cell? ⟨u2.heap.size, 2, none⟩ = some (.int .i64 tm) := ((bcell KA.out).1 _ _ (lt_of_block HX8r.out)).trans (cell_of_row _ _ _ _ _ _ HX8r.out)
        have d5p3 : z5.cell? ⟨u2.heap.size, 3, none⟩ = some (.int .i64 ds) := ((bcell KA.out).1 _ _ (lt_of_block HX8r.out)).trans (cell_of_row _ _ _ _ _ _ HX8r.out)
        have d5p4 : z5.cell? ⟨u2.heap.size, 4, none⟩ = some (.int .i64 wt) := ((bcell KA.out).1 _ _ (lt_of_block HX8r.out)).trans (cell_of_row _ _ _ _ _ _ HX8r.out)
        have d5p5 : z5.cell? ⟨u2.heap.size, 5, none⟩ = some (.int .i64 sv) := ((bcell KA.out).1 _ _ (lt_of_block HX8r.out)).trans (cell_of_row _ _ _ _ _ _ HX8r.out)
        have d5p6 : z5.cell? ⟨u2.heap.size, 6, none⟩ = some (.int .i64 co) := ((bcell KA.out).1 _ _ (lt_of_block HX8r.out)).trans (cell_of_row _ _ _ _ _ _ HX8r.out)
        have x53 : z5.cell? ⟨wr.heap.size, 3, none⟩ = some (.int .i64 ar) := cell_of_row _ _ _ _ _ _ HXS.out
        cases ub with
        | false =>
          go_wp2_with (first | (go_at_call 17; refine (HCb.out _ KB.out).mono ?_; rintro e z7 ⟨rfl, kk⟩; have KC := hide (below_on KB.out kk); clear kk x63; clear d60 d61 d62 d63 d64 d65 d66 d67 d6p0 d6p1 d6p2 d6p3 d6p4 d6p5 d6p6) | (go_at_call 17; refine (HCa.out _ KA.out).mono ?_; rintro e z6 ⟨rfl, kk⟩; have KB := hide (below_on KA.out kk); have HXS6 := hide ((kk.block _ (lt_of_block HXS.out)).trans HXS.out); clear kk x53; clear d50 d51 d52 d53 d54 d55 d56 d57 d5p0 d5p1 d5p2 d5p3 d5p4 d5p5 d5p6; have d60 : z6.cell? ⟨w.heap.size, 0, none⟩ = some (.int .i64 p.dims) := ((bcell (below_on E5.out KB.out)).1 _ _ (lt_of_block HX1.out)).trans (cell_of_row _ _ _ _ _ _ HX1.out); have d61 : z6.cell? ⟨w.heap.size, 1, none⟩ = some (.int .i64 p.time.n) := ((bcell (below_on E5.out KB.out)).1 _ _ (lt_of_block HX1.out)).trans (cell_of_row _ _ _ _ _ _ HX1.out); have d62 : z6.cell? ⟨w.heap.size, 2, none⟩ = some (.slice ta p.time.cells.length tc) := ((bcell (below_on E5.out KB.out)).1 _ _ (lt_of_block HX1.out)).trans (cell_of_row _ _ _ _ _ _ HX1.out); have d63 : z6.cell? ⟨w.heap.size, 3, none⟩ = some (.int .i64 p.dist.n) := ((bcell (below_on E5.out KB.out)).1 _ _ (lt_of_block HX1.out)).trans (cell_of_row _ _ _ _ _ _ HX1.out); have d64 : z6.cell? ⟨w.heap.size, 4, none⟩ = some (.slice da p.dist.cells.length dc) := ((bcell (below_on E5.out KB.out)).1 _ _ (lt_of_block HX1.out)).trans (cell_of_row _ _ _ _ _ _ HX1.out); have d65 : z6.cell? ⟨w.heap.size, 5, none⟩ = some (.slice va p.vs.length vc9) := ((bcell (below_on E5.out KB.out)).1 _ _ (lt_of_block HX1.out)).trans (cell_of_row _ _ _ _ _ _ HX1.out); have d66 : z6.cell? ⟨w.heap.size, 6, none⟩ = some (.slice ja p.js.length jc) := ((bcell (below_on E5.out KB.out)).1 _ _ (lt_of_block HX1.out)).trans (cell_of_row _ _ _ _ _ _ HX1.out); have d67 : z6.cell? ⟨w.heap.size, 7, none⟩ = some (.slice sa p.ss.length sc) := ((bcell (below_on E5.out KB.out)).1 _ _ (lt_of_block HX1.out)).trans (cell_of_row _ _ _ _ _ _ HX1.out); have d6p0 : z6.cell? ⟨u2.heap.size, 0, none⟩ = some (.int .i64 (k : Int)) := ((bcell KB.out).1 _ _ (lt_of_block HX8r.out)).trans (cell_of_row _ _ _ _ _ _ HX8r.out); have d6p1 : z6.cell? ⟨u2.heap.size, 1, none⟩ = some (.slice (some ⟨g, 0, none⟩) n c) := ((bcell KB.out).1 _ _ (lt_of_block HX8r.out)).trans (cell_of_row _ _ _ _ _ _ HX8r.out); have d6p2 : z6.cell? ⟨u2.heap.size, 2, none⟩ = some (.int .i64 tm) := ((bcell KB.out).1 _ _ (lt_of_block HX8r.out)).trans (cell_of_row _ _ _ _ _ _ HX8r.out); have d6p3 : z6.cell? ⟨u2.heap.size, 3, none⟩ = some (.int .i64 ds) := ((bcell KB.out).1 _ _ (lt_of_block HX8r.out)).trans (cell_of_row _ _ _ _ _ _ HX8r.out); have d6p4 : z6.cell? ⟨u2.heap.size, 4, none⟩ = some (.int .i64 wt) := ((bcell KB.out).1 _ _ (lt_of_block HX8r.out)).trans (cell_of_row _ _ _ _ _ _ HX8r.out); have d6p5 : z6.cell? ⟨u2.heap.size, 5, none⟩ = some (.int .i64 sv) := ((bcell KB.out).1 _ _ (lt_of_block HX8r.out)).trans (cell_of_row _ _ _ _ _ _ HX8r.out); have d6p6 : z6.cell? ⟨u2.heap.size, 6, none⟩ = some (.int .i64 co) := ((bcell KB.out).1 _ _ (lt_of_block HX8r.out)).trans (cell_of_row _ _ _ _ _ _ HX8r.out); have x63 : z6.cell? ⟨wr.heap.size, 3, none⟩ = some (.int .i64 ar) := cell_of_row _ _ _ _ _ _ HXS6.out) | fail)
          go_roundw
          case rel => exact ⟨q + 1, rfl, by omega, below_on HR.out KC.out⟩
          case measure => simp [intOf]; omega
        | true =>
          have hle : e9 ≤ u := HUB.out rfl
          have hle2 : ¬ u < e9 := by omega
          go_wp2_with (first | (go_at_call 17; refine (HCb.out _ KB.out).mono ?_; rintro e z7 ⟨rfl, kk⟩; have KC := hide (below_on KB.out kk); clear kk x63; clear d60 d61 d62 d63 d64 d65 d66 d67 d6p0 d6p1 d6p2 d6p3 d6p4 d6p5 d6p6) | (go_at_call 17; refine (HCa.out _ KA.out).mono ?_; rintro e z6 ⟨rfl, kk⟩; have KB := hide (below_on KA.out kk); have HXS6 := hide ((kk.block _ (lt_of_block HXS.out)).trans HXS.out); clear kk x53; clear d50 d51 d52 d53 d54 d55 d56 d57 d5p0 d5p1 d5p2 d5p3 d5p4 d5p5 d5p6; have d60 : z6.cell? ⟨w.heap.size, 0, none⟩ = some (.int .i64 p.dims) := ((bcell (below_on E5.out KB.out)).1 _ _ (lt_of_block HX1.out)).trans (cell_of_row _ _ _ _ _ _ HX1.out); have d61 : z6.cell? ⟨w.heap.size, 1, none⟩ = some (.int .i64 p.time.n) := ((bcell (below_on E5.out KB.out)).1 _ _ (lt_of_block HX1.out)).trans (cell_of_row _ _ _ _ _ _ HX1.out); have d62 : z6.cell? ⟨w.heap.size, 2, none⟩ = some (.slice ta p.time.cells.length tc) := ((bcell (below_on E5.out KB.out)).1 _ _ (lt_of_block HX1.out)).trans (cell_of_row _ _ _ _ _ _ HX1.out); have d63 : z6.cell? ⟨w.heap.size, 3, none⟩ = some (.int .i64 p.dist.n) := ((bcell (below_on E5.out KB.out)).1 _ _ (lt_of_block HX1.out)).trans (cell_of_row _ _ _ _ _ _ HX1.out); have d64 : z6.cell? ⟨w.heap.size, 4, none⟩ = some (.slice da p.dist.cells.length dc) := ((bcell (below_on E5.out KB.out)).1 _ _ (lt_of_block HX1.out)).trans (cell_of_row _ _ _ _ _ _ HX1.out); have d65 : z6.cell? ⟨w.heap.size, 5, none⟩ = some (.slice va p.vs.length vc9) := ((bcell (below_on E5.out KB.out)).1 _ _ (lt_of_block HX1.out)).trans (cell_of_row _ _ _ _ _ _ HX1.out); have d66 : z6.cell? ⟨w.heap.size, 6, none⟩ = some (.slice ja p.js.length jc) := ((bcell (below_on E5.out KB.out)).1 _ _ (lt_of_block HX1.out)).trans (cell_of_row _ _ _ _ _ _ HX1.out); have d67 : z6.cell? ⟨w.heap.size, 7, none⟩ = some (.slice sa p.ss.length sc) := ((bcell (below_on E5.out KB.out)).1 _ _ (lt_of_block HX1.out)).trans (cell_of_row _ _ _ _ _ _ HX1.out); have d6p0 : z6.cell? ⟨u2.heap.size, 0, none⟩ = some (.int .i64 (k : Int)) := ((bcell KB.out).1 _ _ (lt_of_block HX8r.out)).trans (cell_of_row _ _ _ _ _ _ HX8r.out); have d6p1 : z6.cell? ⟨u2.heap.size, 1, none⟩ = some (.slice (some ⟨g, 0, none⟩) n c) := ((bcell KB.out).1 _ _ (lt_of_block HX8r.out)).trans (cell_of_row _ _ _ _ _ _ HX8r.out); have d6p2 : z6.cell? ⟨u2.heap.size, 2, none⟩ = some (.int .i64 tm) := ((bcell KB.out).1 _ _ (lt_of_block HX8r.out)).trans (cell_of_row _ _ _ _ _ _ HX8r.out); have d6p3 : z6.cell? ⟨u2.heap.size, 3, none⟩ = some (.int .i64 ds) := ((bcell KB.out).1 _ _ (lt_of_block HX8r.out)).trans (cell_of_row _ _ _ _ _ _ HX8r.out); have d6p4 : z6.cell? ⟨u2.heap.size, 4, none⟩ = some (.int .i64 wt) := ((bcell KB.out).1 _ _ (lt_of_block HX8r.out)).trans (cell_of_row _ _ _ _ _ _ HX8r.out); have d6p5 : z6.cell? ⟨u2.heap.size, 5, none⟩ = some (.int .i64 sv) := ((bcell KB.out).1 _ _ (lt_of_block HX8r.out)).trans (cell_of_row _ _ _ _ _ _ HX8r.out); have d6p6 : z6.cell? ⟨u2.heap.size, 6, none⟩ = some (.int .i64 co) := ((bcell KB.out).1 _ _ (lt_of_block HX8r.out)).trans (cell_of_row _ _ _ _ _ _ HX8r.out); have x63 : z6.cell? ⟨wr.heap.size, 3, none⟩ = some (.int .i64 ar) := cell_of_row _ _ _ _ _ _ HXS6.out) | fail)
          go_roundw
          case rel => exact ⟨q + 1, rfl, by omega, below_on HR.out KC.out⟩
          case measure => simp [intOf]; omega
      · obtain rfl : q = n := by omega
        go_wp2_with fail
        go_ret
        exact ⟨rfl, below_on HB.out (below_on E3.out HR.out)⟩
end Go.Proofs.Ytndbikoccdjafaa
