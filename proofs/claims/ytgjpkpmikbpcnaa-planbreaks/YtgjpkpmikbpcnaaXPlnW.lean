/-
  What the call of plan of a tour does.
-/
import Derived.Deep.CutRange
import Derived.Test.YtgjpkpmikbpcnaaXPtsG
import Derived.Test.YtgjpkpmikbpcnaaXMin
namespace Go.Proofs.Ytgjpkpmikbpcnaa
open Go.RowKit
theorem hent107 (args : Array Value) (w : World) : (callFunc 107 args).run Try.prog w = .ok (.enter 107 args) w := Go.Proofs.enters_of Try.func107 (by kernel_rfl) rfl args w
def PlanV (w : World) (base : Nat) (v : Value) (pl : PlanT) : Prop := ∃ a n c ys,v = .agg (planC pl.veh (.slice a n c) pl.time pl.dist pl.wait pl.serv pl.cost) ∧ StpR w base base (.slice a n c) pl.steps ys ∧ Sep ys ∧ pl.steps.length = n
set_option maxRecDepth 100000 in
set_option maxHeartbeats 25600000 in
theorem plan_any {w : World} {x : PrbS} {p : Prb} {k m vc : Nat} {va : Option Addr} {V : List Vst} (h : PrbV w x p) (hl : lawM p = true) (hk : k < p.vs.length) (hV : VsV w (.slice va m vc) V) (hm : V.length = m) (hm2 : m ≤ 105) (hbr : ∀ u ∈ V,u.1 = 4 → ∃ j : Nat,u.2 = j ∧ j < (p.vs.getD k vz).brks.length) (hz : va = none → vc = 0) : Calls Try.prog 69 #[.agg (tourE p x k (.slice va m vc))] w fun e w' => ∃ v,e = .returned v ∧ PlanV w' w.heap.size v (planM p k (p.vs.getD k vz) V) ∧ Below w.heap.size w w' := by
 have hm2 : m ≤ 110 := by omega
 have HL := hide hl
 have HZ := hide hz
 have HW := hide (ways_ok hl)
 have hvo := veh_ok (law_veh hl hk)
 have hsh : 0 ≤ (p.vs.getD k vz).shift.1 ∧ (p.vs.getD k vz).shift.1 ≤ 1000000 := by have := hvo.shift;omega
 have hfx := hvo.fixed
 have hpt := hvo.perT
 have hpd := hvo.perD
 have HSO := hide (stops_ok hl hvo V)
 have HBR := hide hbr
 clear hl hbr hvo hz
 obtain ⟨ca,cc,ba,bc,hcar⟩ := h.car hk
 have HCAR := hide hcar
 clear hcar
 have HB0 : Hid (∀ A,Below w.heap.size w (w.alloc A)) := fun A => (Below.refl _ _).alloc (Nat.le_refl _) A
 have HP := hide h
 have HV := hide hV
 have HM := hide hm
 have hmb : m * 16 ≤ 140737488351232 := by obtain ⟨_,_,e,hb,_⟩ := hV;rw [← hm];exact hb
 clear hV hm
 obtain ⟨ta,tc,da,dc,va',vc',ja,jc,sa,sc,rfl⟩ := h.open
 clear h
 have HTE : Hid (tourE p ⟨.slice ta p.time.cells.length tc,.slice da p.dist.cells.length dc,.slice va' p.vs.length vc',.slice ja p.js.length jc,.slice sa p.ss.length sc⟩ k (.slice va m vc) = #[.int .i64 p.dims,.int .i64 p.time.n,.slice ta p.time.cells.length tc,.int .i64 p.dist.n,.slice da p.dist.cells.length dc,.slice va' p.vs.length vc',.slice ja p.js.length jc,.slice sa p.ss.length sc,.int .i64 k,.slice va m vc]) := rfl
 rw [HTE.out]
 obtain ⟨W,hW⟩ : ∃ W,W = w.alloc (.cells #[.int .i64 p.dims,.int .i64 p.time.n,.slice ta p.time.cells.length tc,.int .i64 p.dist.n,.slice da p.dist.cells.length dc,.slice va' p.vs.length vc',.slice ja p.js.length jc,.slice sa p.ss.length sc,.int .i64 k,.slice va m vc] 121) := ⟨_,rfl⟩
 have HBW : Hid (Below w.heap.size w W) := by rw [hW];exact HB0.out _
 have HLW : Hid (w.heap.size < W.heap.size) := by show _ < _;rw [hW];simp
 have HC : Hid (∀ j,W.cell? ⟨w.heap.size,j,none⟩ = (#[.int .i64 p.dims,.int .i64 p.time.n,.slice ta p.time.cells.length tc,.int .i64 p.dist.n,.slice da p.dist.cells.length dc,.slice va' p.vs.length vc',.slice ja p.js.length jc,.slice sa p.ss.length sc,.int .i64 k,.slice va m vc] : Array Value)[j]?) := fun j => by rw [hW];exact cell_of_row _ _ _ _ _ _ (heap_alloc_new w _)
 have H75 : Hid (∀ W2,Below w.heap.size w W2 → Calls Try.prog 75 #[.agg #[.int .i64 p.dims,.int .i64 p.time.n,.slice ta p.time.cells.length tc,.int .i64 p.dist.n,.slice da p.dist.cells.length dc,.slice va' p.vs.length vc',.slice ja p.js.length jc,.slice sa p.ss.length sc,.int .i64 k,.slice va m vc]] W2 fun e w' => ∃ v,e = .returned v ∧ StpsV w' v (stopsM p (p.vs.getD k vz) V) ∧ Below W2.heap.size W2 w') := fun W2 hf => by have h9 := stops_any (va := va) (m := m) (vc := vc) (HP.out.on hf) HL.out hk (PrV.on HV.out hf) HM.out hm2 HBR.out;exact h9
 have H105 : Hid (∀ W2,Below w.heap.size w W2 → Calls Try.prog 105 #[.agg #[.int .i64 p.dims,.int .i64 p.time.n,.slice ta p.time.cells.length tc,.int .i64 p.dist.n,.slice da p.dist.cells.length dc,.slice va' p.vs.length vc',.slice ja p.js.length jc,.slice sa p.ss.length sc,.int .i64 k,.slice va m vc]] W2 fun e w' => ∃ v,e = .returned v ∧ VsV w' v (pointsM V) ∧ Below W2.heap.size W2 w') := fun W2 hf => by have h9 := points_any (k := k) (va := va) (m := m) (vc := vc) (HP.out.on hf) (PrV.on HV.out hf) HM.out hm2 HZ.out;exact h9
 have H106 : Hid (∀ W2,Below w.heap.size w W2 → Calls Try.prog 106 #[.agg #[.int .i64 p.dims,.int .i64 p.time.n,.slice ta p.time.cells.length tc,.int .i64 p.dist.n,.slice da p.dist.cells.length dc,.slice va' p.vs.length vc',.slice ja p.js.length jc,.slice sa p.ss.length sc,.int .i64 k,.slice va m vc]] W2 fun e w' => ∃ v ys,e = .returned v ∧ LdS w' W2.heap.size v (loadsT p p.dims.toNat V) ys ∧ Sep ys ∧ Below W2.heap.size W2 w') := fun W2 hf => by have h9 := tloads_any (k := k) (va := va) (m := m) (vc := vc) (HP.out.on hf) HL.out (PrV.on HV.out hf) HM.out hm2;exact h9
 unfold planM
 obtain ⟨dd,hdd⟩ : ∃ q,p.dims.toNat = q := ⟨_,rfl⟩
 rw [hdd] at H106 ⊢
 clear hdd
 obtain ⟨S,hS⟩ : ∃ S,(stopsM p (p.vs.getD k vz) V) = S := ⟨_,rfl⟩
 obtain ⟨nS,hnS⟩ : ∃ n,m + 2 = n := ⟨_,rfl⟩
 have HSN : Hid (S.length = nS) := by show _ = _;rw [← hS,stopsM_len,HM.out];exact hnS
 have HPN : Hid ((pointsM V).length = nS) := by show _ = _;rw [pointsM_len,HM.out];exact hnS
 have HLN : Hid ((loadsT p dd V).length = nS) := by show _ = _;rw [loadsT_len,HM.out];exact hnS
 have HNS := hide hnS
 have hnb : nS ≤ 107 := by omega
 clear hnS
 rw [hS] at H75 HSO ⊢
 clear hS
 have H74 : Hid (∀ W2,Below w.heap.size w W2 → Calls Try.prog 74 #[.agg #[.int .i64 p.dims,.int .i64 p.time.n,.slice ta p.time.cells.length tc,.int .i64 p.dist.n,.slice da p.dist.cells.length dc,.slice va' p.vs.length vc',.slice ja p.js.length jc,.slice sa p.ss.length sc,.int .i64 k,.slice va m vc]] W2 fun e w' => e = .returned (.agg (vehA (p.vs.getD k vz) (.slice ca (p.vs.getD k vz).cap.length cc) (.slice ba (p.vs.getD k vz).brks.length bc))) ∧ Below W2.heap.size W2 w') := fun W2 hf => by have h9 := car_at (va := va) (m := m) (vc := vc) (HP.out.on hf) (HCAR.out.on hf);exact h9
 obtain ⟨v1,hv1⟩ : ∃ v1,p.vs.getD k vz = v1 := ⟨_,rfl⟩
 have HV1 := hide hv1
 rw [hv1] at H74
 clear hv1
 rw [HV1.out] at hsh hfx hpt hpd ⊢
 obtain ⟨fr,hfr⟩ : ∃ q,v1.shift.1 = q := ⟨_,rfl⟩
 rw [hfr] at hsh
 have hfd4 : ∀ X,(Instr.field 86 (.agg (vehA v1 (.slice ca v1.cap.length cc) (.slice ba v1.brks.length bc))) 4).run Try.prog X = .ok (.agg #[.int .i64 v1.shift.1,.int .i64 v1.shift.2]) X := fun X => by kernel_rfl
 rw [hfr] at hfd4
 have HFR := hide hfr
 clear hfr
 have hf61 : ∀ X,(Instr.field 61 (.agg #[.int .i64 fr,.int .i64 v1.shift.2]) 0).run Try.prog X = .ok (.int .i64 fr) X := fun X => by kernel_rfl
 have HSH := hide hsh
 have HWS : Hid (W.heap.size = w.heap.size + 1) := by show _ = _;rw [hW];simp
 go_enter Try.func69,Try.ntmps69
 go_wp2_with fail
 rw [← hW]
 clear hW
 obtain ⟨R,hR⟩ : ∃ R,R = W.alloc (.cells #[.int .i64 0,.slice none 0 0,.int .i64 0,.int .i64 0,.int .i64 0,.int .i64 0,.int .i64 0] 71) := ⟨_,rfl⟩
 rw [← hR]
 have HRB : Hid (Below W.heap.size W R) := by rw [hR];exact (Below.refl _ _).alloc (Nat.le_refl _) _
 have HBR2 : Hid (Below w.heap.size w R) := below_on HBW.out HRB.out
 have HLR : Hid (w.heap.size < R.heap.size) := Nat.lt_of_lt_of_le HLW.out HRB.out.size
 have HLR1 : Hid (w.heap.size + 1 < R.heap.size) := by show _ < _;rw [hR];have := HWS.out;simp;omega
 have HCR : Hid (∀ j,R.cell? ⟨w.heap.size,j,none⟩ = (#[.int .i64 p.dims,.int .i64 p.time.n,.slice ta p.time.cells.length tc,.int .i64 p.dist.n,.slice da p.dist.cells.length dc,.slice va' p.vs.length vc',.slice ja p.js.length jc,.slice sa p.ss.length sc,.int .i64 k,.slice va m vc] : Array Value)[j]?) := fun j => ((bcell HRB.out).1 _ j HLW.out).trans (HC.out j)
 have HRR : Hid (R.heap[w.heap.size + 1]? = some (.cells #[.int .i64 0,.slice none 0 0,.int .i64 0,.int .i64 0,.int .i64 0,.int .i64 0,.int .i64 0] 71)) := by have h9 := new_block W (.cells #[.int .i64 0,.slice none 0 0,.int .i64 0,.int .i64 0,.int .i64 0,.int .i64 0,.int .i64 0] 71);rw [HWS.out,← hR] at h9;exact h9
 clear hR
 obtain ⟨b0,b1,b2,b3,b4,b5,b6,b7,b8,b9⟩ := Mn.c10 (fun j => ((bcell (Below.refl _ _)).1 _ j HLR.out).trans (HCR.out j))
 first | (go_region_held3 (fun w' => w'.cell? ⟨w.heap.size,0,none⟩ = some (.int .i64 p.dims) ∧ w'.cell? ⟨w.heap.size,1,none⟩ = some (.int .i64 p.time.n) ∧ w'.cell? ⟨w.heap.size,2,none⟩ = some (.slice ta p.time.cells.length tc) ∧ w'.cell? ⟨w.heap.size,3,none⟩ = some (.int .i64 p.dist.n) ∧ w'.cell? ⟨w.heap.size,4,none⟩ = some (.slice da p.dist.cells.length dc) ∧ w'.cell? ⟨w.heap.size,5,none⟩ = some (.slice va' p.vs.length vc') ∧ w'.cell? ⟨w.heap.size,6,none⟩ = some (.slice ja p.js.length jc) ∧ w'.cell? ⟨w.heap.size,7,none⟩ = some (.slice sa p.ss.length sc) ∧ w'.cell? ⟨w.heap.size,8,none⟩ = some (.int .i64 k) ∧ w'.cell? ⟨w.heap.size,9,none⟩ = some (.slice va m vc)) (go_keep) (first | (go_at_call 75;refine (H75.out _ (below_on HBR2.out (Below.refl _ _).drew)).mono ?_;rintro e w1 ⟨sv,rfl,Q1,k1⟩;obtain ⟨sA,sC,rfl⟩ := SlV.shape Q1;rw [HSN.out] at Q1 ⊢;have HST1 := hide Q1;have E1 := hide (below_on ((Below.refl _ _).drew) k1);obtain ⟨c0,c1,c2,c3,c4,c5,c6,c7,c8,c9⟩ := Mn.c10 (fun j => ((bcell E1.out).1 _ j HLR.out).trans (HCR.out j));clear k1 Q1) | (go_at_call 105;refine (H105.out _ (below_on HBR2.out E1.out)).mono ?_;rintro e w2 ⟨pv,rfl,Q2,k2⟩;obtain ⟨pA,pC,he,_⟩ := (show ∃ a c,pv = .slice a (pointsM V).length c ∧ True from by obtain ⟨a,c,e,_⟩ := Q2;exact ⟨a,c,e,trivial⟩);subst he;rw [HPN.out] at Q2 ⊢;have HPT2 := hide Q2;have HST2 := hide (SlV.on HST1.out k2 (by decide) fun _ _ => StpV.on k2);have E2 := hide (below_on E1.out k2);obtain ⟨d0,d1,d2,d3,d4,d5,d6,d7,d8,d9⟩ := Mn.c10 (fun j => ((bcell E2.out).1 _ j HLR.out).trans (HCR.out j));clear k2 Q2) | (go_at_call 106;refine (H106.out _ (below_on HBR2.out E2.out)).mono ?_;rintro e w3 ⟨lv,ys,rfl,Q3,Q4,k3⟩;obtain ⟨lA,lC,rfl⟩ := RowS.shape Q3;rw [HLN.out] at Q3 ⊢;have HLD := hide (LdS.mono Q3 E2.out.size);have HSE := hide Q4;have HPT := hide (PrV.on HPT2.out k3);have HST := hide (SlV.on HST2.out k3 (by decide) fun _ _ => StpV.on k3);have E3 := hide (below_on E2.out k3);obtain ⟨e0,e1,e2,e3,e4,e5,e6,e7,e8,e9⟩ := Mn.c10 (fun j => ((bcell E3.out).1 _ j HLR.out).trans (HCR.out j));clear k3 Q3 Q4) | fail)) | fail
 rename_i hHeld
 clear hHeld b0 b1 b2 b3 b4 b5 b6 b7 b8 b9 c0 c1 c2 c3 c4 c5 c6 c7 c8 c9 d0 d1 d2 d3 d4 d5 d6 d7 d8 d9 HST1 HST2 HPT2 E1 E2
 go_wp2_with fail
 have l3 : w.heap.size < w3.heap.size := Nat.lt_of_lt_of_le HLR.out E3.out.size
 have l3n : ¬ w.heap.size = w3.heap.size := by omega
 have hmk := made_steps nS (by omega)
 go_cut [6] from 21 to 26 (fun v6 wx => ∃ x6,v6 = .pointer (some ⟨x6,0,none⟩) ∧ Hid (PlnS w3 R.heap.size x6 k [] [] 0 0 0 0 0 wx))
 case first =>
  go_region_held3 (fun w' => w'.cell? ⟨w.heap.size,8,none⟩ = some (.int .i64 k)) (go_keep) (fail)
  all_goals
   go_wp2_with fail
   go_meet
   case rel => first | exact ⟨_,rfl,plns_a (by omega)⟩ | exact ⟨_,rfl,plns_b (by omega)⟩
 case rest =>
  obtain ⟨x6,rfl,HPS⟩ := hcut
  clear hmk l3n e0 e1 e2 e3 e4 e5 e6 e7 e8 e9
  have EC : Hid (Below R.heap.size R wc) := below_on E3.out HPS.out.low
  obtain ⟨f0,f1,f2,f3,f4,f5,f6,f7,f8,f9⟩ := Mn.c10 (fun j => ((bcell EC.out).1 _ j HLR.out).trans (HCR.out j))
  go_wp2_with (first | (go_at_call 74;refine (H74.out _ (below_on HBR2.out EC.out)).mono ?_;rintro e w4 ⟨rfl,k4⟩;have HPS4 := hide (HPS.out.on k4);clear k4) | fail)
  clear HPS EC f0 f1 f2 f3 f4 f5 f6 f7 f8 f9 hfd4 hf61
  have H107t : Hid (∀ W2 (i : Nat),Below w.heap.size w W2 → StpsV W2 (.slice sA nS sC) S → i < S.length → Calls Try.prog 107 #[.agg #[.int .i64 p.time.n,.slice ta p.time.cells.length tc],.slice sA nS sC,.int .i64 (i : Int)] W2 fun e w' => e = .returned (.int .i64 (travelM p.time S i)) ∧ Below W2.heap.size W2 w') := fun W2 i hf hs hi => by have h9 := travel_at (HP.out.t.on hf) HW.out.st hs hi;exact h9
  have H107d : Hid (∀ W2 (i : Nat),Below w.heap.size w W2 → StpsV W2 (.slice sA nS sC) S → i < S.length → Calls Try.prog 107 #[.agg #[.int .i64 p.dist.n,.slice da p.dist.cells.length dc],.slice sA nS sC,.int .i64 (i : Int)] W2 fun e w' => e = .returned (.int .i64 (travelM p.dist S i)) ∧ Below W2.heap.size W2 w') := fun W2 i hf hs hi => by have h9 := travel_at (HP.out.d.on hf) HW.out.sd hs hi;exact h9
  go_loopw [33,7] (fun vi v7 wr => ∃ (q : Nat) (lf : Int),vi = .int .i64 q ∧ v7 = .int .i64 lf ∧ q ≤ nS ∧ Hid (lfM p.time S fr q = lf) ∧ Hid (PlnS w3 R.heap.size x6 k (ys.take q) ((List.range q).map (stepM p dd fr V S)) (sumN (travelM p.time S) q) (sumN (travelM p.dist S) q) (sumN (waitM p.time S fr) q) (sumN (servM S) q) q wr)) (fun vi _ _ => nS - (intOf vi).toNat)
  case atStart => exact ⟨0,fr,rfl,rfl,Nat.zero_le _,rfl,HPS4.out⟩
  case round =>
   clear HPS4
   obtain ⟨q,lf,rfl,rfl,hq,HLF,HPS⟩ := hrel
   have EC : Hid (Below R.heap.size R wr) := below_on E3.out HPS.out.low
   have EW : Hid (Below w.heap.size w wr) := below_on HBR2.out EC.out
   by_cases hqm : q < nS
   ·have i1 : (q : Int) < (nS : Int) := by omega
    have i2 : (0 : Int) ≤ (q : Int) := by omega
    have i3 : ¬ (nS : Int) ≤ (q : Int) := by omega
    have HQS : Hid (q < S.length) := by show _ < _;rw [HSN.out];exact hqm
    have hlb := lf_ok (m := p.time) HSO.out HSH.out q
    have htb := travel_ok HW.out.mt S q
    have hdb := travel_ok HW.out.md S q
    have hso := HSO.out q
    have hs1 := sumT_ok (S := S) HW.out.mt q (by omega)
    have hs2 := sumT_ok (S := S) HW.out.md q (by omega)
    have hs3 := sumW_ok HW.out.mt HSO.out HSH.out q (by omega)
    have hs4 := sumS_ok HSO.out q (by omega)
    obtain ⟨tt,htt⟩ : ∃ z,travelM p.time S q = z := ⟨_,rfl⟩
    obtain ⟨td,htd⟩ : ∃ z,travelM p.dist S q = z := ⟨_,rfl⟩
    obtain ⟨T0,hT0⟩ : ∃ z,sumN (travelM p.time S) q = z := ⟨_,rfl⟩
    obtain ⟨D0,hD0⟩ : ∃ z,sumN (travelM p.dist S) q = z := ⟨_,rfl⟩
    obtain ⟨W0,hW0⟩ : ∃ z,sumN (waitM p.time S fr) q = z := ⟨_,rfl⟩
    obtain ⟨S0,hS0⟩ : ∃ z,sumN (servM S) q = z := ⟨_,rfl⟩
    obtain ⟨g,gc,hbox,hgx,hrow⟩ := HPS.out.box
    rw [hT0,hD0,hW0,hS0] at hbox
    rw [hT0] at hs1
    rw [hD0] at hs2
    rw [hW0] at hs3
    rw [hS0] at hs4
    obtain ⟨s,hs⟩ : ∃ s,S.getD q sz = s := ⟨_,rfl⟩
    obtain ⟨b,off,cc',y,he,hb,hcs,hy⟩ := stp_cells HST.out HQS.out
    injection he with he1 he2 he3
    subst he1 he3
    clear he2
    rw [hs] at hcs hy hso
    obtain ⟨pl,hpl⟩ : ∃ z,s.place = z := ⟨_,rfl⟩
    obtain ⟨sv,hsv⟩ : ∃ z,s.serv = z := ⟨_,rfl⟩
    obtain ⟨ya,yc,rfl⟩ := hy.shape
    obtain ⟨nw,hnw⟩ : ∃ z,s.wins.length = z := ⟨_,rfl⟩
    have c0 : wr.cell? ⟨b,off + q * 3,none⟩ = some (.int .i64 pl) := by rw [← hpl];exact ((bcell HPS.out.low).1 _ _ hb).trans (hcs 0 (by decide))
    have c1 : wr.cell? ⟨b,off + q * 3 + 1,none⟩ = some (.int .i64 sv) := by rw [← hsv];exact ((bcell HPS.out.low).1 _ _ hb).trans (hcs 1 (by decide))
    have c2 : wr.cell? ⟨b,off + q * 3 + 2,none⟩ = some (.slice ya nw yc) := by rw [← hnw];exact ((bcell HPS.out.low).1 _ _ hb).trans (hcs 2 (by decide))
    obtain ⟨bs,bo,hbg⟩ : ∃ bs bo,Hr.startM (lf + tt) s.wins = (bs,bo) := ⟨_,_,rfl⟩
    have hstk := start_ok hso.1 (lf + tt)
    rw [hbg] at hstk
    simp only at hstk
    rw [HLF.out] at hlb
    rw [htt] at htb
    rw [htd] at hdb
    have hsb := hso.2
    rw [hsv] at hsb
    have HAR : Hid (arrM p.time S fr q = lf + tt) := by show _ = _;unfold arrM;rw [HLF.out,htt]
    have HBG : Hid (begM p.time S fr q = (bs,bo)) := by show _ = _;unfold begM;rw [HAR.out,hs,hbg]
    have HLS : Hid (lfM p.time S fr (q + 1) = bs + sv) := by show _ = _;rw [lfM_succ,HBG.out,hs,hsv]
    have HWT : Hid (waitM p.time S fr q = bs - (lf + tt)) := by show _ = _;unfold waitM;rw [HBG.out,HAR.out]
    have HSM : Hid (sumN (travelM p.time S) (q + 1) = T0 + tt ∧ sumN (travelM p.dist S) (q + 1) = D0 + td ∧ sumN (waitM p.time S fr) (q + 1) = W0 + (bs - (lf + tt)) ∧ sumN (servM S) (q + 1) = S0 + sv) := by
     refine ⟨?_,?_,?_,?_⟩
     · show sumN _ q + travelM p.time S q = _;rw [hT0,htt]
     · show sumN _ q + travelM p.dist S q = _;rw [hD0,htd]
     · show sumN _ q + waitM p.time S fr q = _;rw [hW0,HWT.out]
     · show sumN _ q + (S.getD q sz).serv = _;rw [hS0,hs,hsv]
    have HY : Hid (WinsV w3 (.slice ya nw yc) s.wins) := by rw [← hnw];exact hy
    have hwr : IntKind.i64.wrap (lf + tt) = lf + tt := by rw [IntKind.wrap_i64];omega
    have hw2 : IntKind.i64.wrap (T0 + tt) = T0 + tt := by rw [IntKind.wrap_i64];omega
    have hw3 : IntKind.i64.wrap (D0 + td) = D0 + td := by rw [IntKind.wrap_i64];omega
    have hw4 : IntKind.i64.wrap (bs - (lf + tt)) = bs - (lf + tt) := by rw [IntKind.wrap_i64];omega
    have hw5 : IntKind.i64.wrap (W0 + (bs - (lf + tt))) = W0 + (bs - (lf + tt)) := by rw [IntKind.wrap_i64];omega
    have hw6 : IntKind.i64.wrap (S0 + sv) = S0 + sv := by rw [IntKind.wrap_i64];omega
    have H108 : Hid (∀ W2,Below w3.heap.size w3 W2 → Calls Try.prog 108 #[.agg #[.int .i64 pl,.int .i64 sv,.slice ya nw yc],.int .i64 (lf + tt)] W2 fun e w' => e = .returned (.tuple #[.int .i64 bs,.int .i64 (bs + sv),.bool bo]) ∧ Below W2.heap.size W2 w') := fun W2 hf => by have h9 := stay_any pl sv (lf + tt) (HY.out.on hf) (by rw [hbg];simp only;omega) (by rw [hbg];simp only;omega);rw [hbg] at h9;exact h9
    have HTT := hide htt
    have HTD := hide htd
    have HST0 := hide hs
    have HPL := hide hpl
    have HSV := hide hsv
    have HSQ : Hid (sumN (travelM p.time S) q = T0 ∧ sumN (travelM p.dist S) q = D0 ∧ sumN (waitM p.time S fr) q = W0 ∧ sumN (servM S) q = S0) := ⟨hT0,hD0,hW0,hS0⟩
    have HBOX := hide hbox
    have HROW := hide hrow
    have HX6 := hide HPS.out.lt
    have HX6a := hide HPS.out.x6a
    have HLOW := hide HPS.out.low
    clear hbg hy hcs hpl hsv hnw hs htt htd hso hT0 hD0 hW0 hS0 hbox hrow HPS hstk hlb htb hdb hs1 hs2 hs3 hs4 hsb hb
    have r1 : wr.cell? ⟨w.heap.size,1,none⟩ = some (.int .i64 p.time.n) := ((bcell EC.out).1 _ 1 HLR.out).trans (HCR.out 1)
    have r2 : wr.cell? ⟨w.heap.size,2,none⟩ = some (.slice ta p.time.cells.length tc) := ((bcell EC.out).1 _ 2 HLR.out).trans (HCR.out 2)
    have lw0 : w.heap.size < wr.heap.size := Nat.lt_of_lt_of_le HLR.out EC.out.size
    have nw0 : ¬ w.heap.size = wr.heap.size := by omega
    have B3 : ∀ W2,Below wr.heap.size wr W2 → Below w3.heap.size w3 W2 := fun W2 hf => below_on HLOW.out hf
    have HB3 := hide B3
    clear B3
    go_wp2_with (first | (go_at_call 107;refine (H107t.out _ q (below_on EW.out ((Below.refl _ _).alloc (Nat.le_refl _) _)) (SlV.on HST.out (HB3.out _ ((Below.refl _ _).alloc (Nat.le_refl _) _)) (by decide) fun _ _ => StpV.on (HB3.out _ ((Below.refl _ _).alloc (Nat.le_refl _) _))) HQS.out).mono ?_;rintro e w5 ⟨rfl,k5⟩;rw [HTT.out];have E5 := hide (below_on ((Below.refl wr.heap.size wr).alloc (Nat.le_refl _) _) k5);have HSB5 := hide ((k5.block wr.heap.size (by simp)).trans (new_block wr _));have y0 := cell_of_row _ wr.heap.size 0 _ _ _ HSB5.out;have y1 := cell_of_row _ wr.heap.size 1 _ _ _ HSB5.out;have y2 := cell_of_row _ wr.heap.size 2 _ _ _ HSB5.out;simp only [List.getElem?_toArray,List.getElem?_cons_succ,List.getElem?_cons_zero] at y0 y1 y2;clear k5) | (go_at_call 108;refine (H108.out _ (HB3.out _ E5.out)).mono ?_;rintro e w6 ⟨rfl,k6⟩;have E6 := hide (below_on E5.out k6);have HSB6 := hide ((k6.block wr.heap.size (lt_of_block HSB5.out)).trans HSB5.out);have HBX6 := hide ((E6.out.block x6 HX6.out).trans HBOX.out);have x2 : w6.cell? ⟨x6,2,none⟩ = some (.int .i64 T0) := cell_of_row _ x6 2 _ _ _ HBX6.out;have xf2 := frozen_of_row w6 x6 2 _ _ HBX6.out;clear k6) | fail)
    obtain ⟨Y,hY⟩ : ∃ Y,Y = w6.setCell ⟨x6,2,none⟩ (.int .i64 (T0 + tt)) := ⟨_,rfl⟩
    rw [← hY]
    have HNX : Hid (wr.heap.size ≠ x6) := by have := HX6.out;show _ ≠ _;omega
    have HBY : Hid (Y.heap[x6]? = some (.cells (planC k (.slice (some ⟨g,0,none⟩) q gc) (T0 + tt) D0 W0 S0 0) 71 (0,0))) := by rw [hY];exact heap_setCell_same w6 x6 2 _ _ _ HBX6.out
    have GY : Hid (wr.grownBy Y (some x6)) := by rw [hY];exact grw_set (below_grw E6.out) _ _
    have HSY : Hid (Y.heap[wr.heap.size]? = some (.cells #[.int .i64 pl,.int .i64 sv,.slice ya nw yc] 45)) := by rw [hY];exact (heap_setCell_other _ _ _ _ HNX.out).trans HSB6.out
    have LY : Hid (Below w3.heap.size w3 Y) := HLOW.out.trans (grw_low GY.out HX6a.out HLOW.out.size)
    have HYX : Hid (x6 < Y.heap.size) := lt_of_block HBY.out
    have LR3 : Hid (Below R.heap.size R Y) := below_on E3.out LY.out
    have LW3 : Hid (Below w.heap.size w Y) := below_on HBR2.out LR3.out
    have x3 : Y.cell? ⟨x6,3,none⟩ = some (.int .i64 D0) := cell_of_row _ x6 3 _ _ _ HBY.out
    have xf3 := frozen_of_row Y x6 3 _ _ HBY.out
    clear hY x2 xf2 HBX6 HSB6 HSB5 y0 y1 y2 c0 c1 c2 r1 r2 E5 E6
    have g3 : Y.cell? ⟨w.heap.size,3,none⟩ = some (.int .i64 p.dist.n) := ((bcell LR3.out).1 _ 3 HLR.out).trans (HCR.out 3)
    have g4 : Y.cell? ⟨w.heap.size,4,none⟩ = some (.slice da p.dist.cells.length dc) := ((bcell LR3.out).1 _ 4 HLR.out).trans (HCR.out 4)
    go_cut [] from 59 to 68 (fun wx => Hid (Y.grownBy wx (some x6) ∧ wx.heap[x6]? = some (.cells (planC k (.slice (some ⟨g,0,none⟩) q gc) (T0 + tt) (D0 + td) W0 S0 0) 71 (0,0))))
    case first =>
     refine wp_region_held_drew (S := (fun w' => w'.cell? ⟨w.heap.size,3,none⟩ = some (.int .i64 p.dist.n) ∧ w'.cell? ⟨w.heap.size,4,none⟩ = some (.slice da p.dist.cells.length dc))) (by kernel_rfl) ?_ (fun hHeld0 => ?_)
     · (try dsimp only);go_keep
     refine Mn.t 0 (oi := ⟨some 59,.fieldAddr 71 (.tmp 6) 3,0,"tour.go:140",#[],none⟩) ?_
     try simp only [Act.put,List.setIfInBounds_toArray]
     refine Mn.t 2 (oi := ⟨some 61,.fieldAddr 121 (.tmp 1) 0,0,"tour.go:140",#[],none⟩) ?_
     try simp only [Act.put,List.setIfInBounds_toArray]
     refine Mn.t 3 (oi := ⟨some 62,.fieldAddr 29 (.tmp 61) 2,0,"tour.go:140",#[⟨2,.data⟩],none⟩) ?_
     try simp only [Act.put,List.setIfInBounds_toArray]
     refine Mn.t 4 (oi := ⟨some 63,.load 24 (.tmp 62),24,"tour.go:140",#[⟨3,.data⟩],none⟩) ?_
     try simp only [Act.put,List.setIfInBounds_toArray]
     refine Mn.t 5 (oi := ⟨some 64,.move (.tmp 3),132,"tour.go:140",#[],none⟩) ?_
     try simp only [Act.put,List.setIfInBounds_toArray]
     refine Mn.t 6 (oi := ⟨some 65,.move (.tmp 8),3,"tour.go:140",#[],none⟩) ?_
     try simp only [Act.put,List.setIfInBounds_toArray]
     refine wpAnyH_ready (rs := [1,7]) (by kernel_rfl) (by simp) ?_
     refine AllReadyH.cons (o := ⟨some 60,.load 3 (.tmp 59),3,"tour.go:140",#[⟨0,.data⟩],none⟩) rfl (fun K hK => ?_) ?_
     ·go_simp
      refine hK.out _ _ ?_ (fun hHeld1 => ?_)
      · (try dsimp only);go_keep
      clear hK K
      try simp only [Act.put,List.setIfInBounds_toArray]
      clear hHeld0
      refine wpAnyH_ready (rs := [7]) (by kernel_rfl) (by simp) ?_
      refine AllReadyH.cons (o := ⟨some 66,.call { callee := .value (.func 107),args := #[.tmp 63,.tmp 64,.tmp 65],argTypes := #[24,132,3] },3,"tour.go:140",#[⟨4,.data⟩,⟨5,.data⟩,⟨6,.data⟩],none⟩) rfl (fun K hK => ?_) ?_
      ·(refine held_call (by rfl) 107 _ _ (by rfl) hent107 [.agg #[.int .i64 p.dist.n,.slice da p.dist.cells.length dc],.slice (some ⟨b,off,none⟩) nS sC,.int .i64 (q : Int)] (by rfl) ?_;refine (H107d.out _ q (below_on LW3.out (Below.refl _ _).drew) (SlV.on HST.out (below_on LY.out (Below.refl _ _).drew) (by decide) fun _ _ => StpV.on (below_on LY.out (Below.refl _ _).drew)) HQS.out).mono ?_;rintro e w7 ⟨rfl,k7⟩;refine ⟨_,rfl,?_⟩;rw [HTD.out];have E7 := hide (below_on ((Below.refl _ _).drew) k7);have h3 : w7.cell? ⟨w.heap.size,3,none⟩ = some (.int .i64 p.dist.n) := ((bcell E7.out).1 _ 3 (Nat.lt_of_lt_of_le HLR.out LR3.out.size)).trans g3;have h4 : w7.cell? ⟨w.heap.size,4,none⟩ = some (.slice da p.dist.cells.length dc) := ((bcell E7.out).1 _ 4 (Nat.lt_of_lt_of_le HLR.out LR3.out.size)).trans g4;have HB7 := hide ((E7.out.block x6 HYX.out).trans HBY.out);have z3 : w7.cell? ⟨x6,3,none⟩ = some (.int .i64 D0) := cell_of_row _ x6 3 _ _ _ HB7.out;have zf3 := frozen_of_row w7 x6 3 _ _ HB7.out;have nx0 : ¬ w.heap.size = x6 := (by have := HX6a.out;omega);have nx1 : ¬ x6 = w.heap.size := (by omega);clear k7)
       refine hK.out _ _ ?_ (fun hHeld2 => ?_)
       · (try dsimp only);go_keep
       clear hK K
       try simp only [Act.put,List.setIfInBounds_toArray]
       clear hHeld1
       refine Mn.t 8 (oi := ⟨some 67,.binOp .add 3 (.tmp 60) (.tmp 66) 3,3,"tour.go:140",#[⟨1,.data⟩,⟨7,.data⟩],none⟩) ?_
       try simp only [Act.put,List.setIfInBounds_toArray]
       refine Mn.t 9 (oi := ⟨some 68,.fieldAddr 71 (.tmp 6) 3,0,"tour.go:140",#[⟨0,.phase⟩,⟨1,.phase⟩,⟨2,.phase⟩,⟨3,.phase⟩,⟨4,.phase⟩,⟨5,.phase⟩,⟨6,.phase⟩,⟨7,.phase⟩,⟨8,.phase⟩],none⟩) ?_
       try simp only [Act.put,List.setIfInBounds_toArray]
       refine wpAnyH_ready (rs := [10]) (by kernel_rfl) (by simp) ?_
       refine AllReadyH.cons (o := ⟨none,.store 3 (.tmp 68) (.tmp 67),0,"tour.go:140",#[⟨9,.data⟩,⟨8,.data⟩,⟨7,.chain⟩,⟨0,.phase⟩,⟨1,.phase⟩,⟨2,.phase⟩,⟨3,.phase⟩,⟨4,.phase⟩,⟨5,.phase⟩,⟨6,.phase⟩,⟨7,.phase⟩,⟨8,.phase⟩],none⟩) rfl (fun K hK => ?_) ?_
       ·go_simp
        refine hK.out _ _ ?_ (fun hHeld3 => ?_)
        · (try dsimp only);go_keep
        clear hK K
        try simp only [Act.put,List.setIfInBounds_toArray]
        clear hHeld2
        refine wpAnyH_done (by kernel_rfl) ?_ _
        clear hHeld3
        go_wp2_with fail
        go_meet
        case rel => exact ⟨grw_set (below_grw E7.out) _ _,heap_setCell_same w7 x6 3 _ _ _ HB7.out⟩
       exact AllReadyH.nil
      exact AllReadyH.nil
     refine AllReadyH.cons (o := ⟨some 66,.call { callee := .value (.func 107),args := #[.tmp 63,.tmp 64,.tmp 65],argTypes := #[24,132,3] },3,"tour.go:140",#[⟨4,.data⟩,⟨5,.data⟩,⟨6,.data⟩],none⟩) rfl (fun K hK => ?_) ?_
     ·(refine held_call (by rfl) 107 _ _ (by rfl) hent107 [.agg #[.int .i64 p.dist.n,.slice da p.dist.cells.length dc],.slice (some ⟨b,off,none⟩) nS sC,.int .i64 (q : Int)] (by rfl) ?_;refine (H107d.out _ q (below_on LW3.out (Below.refl _ _).drew) (SlV.on HST.out (below_on LY.out (Below.refl _ _).drew) (by decide) fun _ _ => StpV.on (below_on LY.out (Below.refl _ _).drew)) HQS.out).mono ?_;rintro e w7 ⟨rfl,k7⟩;refine ⟨_,rfl,?_⟩;rw [HTD.out];have E7 := hide (below_on ((Below.refl _ _).drew) k7);have h3 : w7.cell? ⟨w.heap.size,3,none⟩ = some (.int .i64 p.dist.n) := ((bcell E7.out).1 _ 3 (Nat.lt_of_lt_of_le HLR.out LR3.out.size)).trans g3;have h4 : w7.cell? ⟨w.heap.size,4,none⟩ = some (.slice da p.dist.cells.length dc) := ((bcell E7.out).1 _ 4 (Nat.lt_of_lt_of_le HLR.out LR3.out.size)).trans g4;have HB7 := hide ((E7.out.block x6 HYX.out).trans HBY.out);have z3 : w7.cell? ⟨x6,3,none⟩ = some (.int .i64 D0) := cell_of_row _ x6 3 _ _ _ HB7.out;have zf3 := frozen_of_row w7 x6 3 _ _ HB7.out;have nx0 : ¬ w.heap.size = x6 := (by have := HX6a.out;omega);have nx1 : ¬ x6 = w.heap.size := (by omega);clear k7)
      refine hK.out _ _ ?_ (fun hHeld4 => ?_)
      · (try dsimp only);go_keep
      clear hK K
      try simp only [Act.put,List.setIfInBounds_toArray]
      clear hHeld0
      refine wpAnyH_ready (rs := [1]) (by kernel_rfl) (by simp) ?_
      refine AllReadyH.cons (o := ⟨some 60,.load 3 (.tmp 59),3,"tour.go:140",#[⟨0,.data⟩],none⟩) rfl (fun K hK => ?_) ?_
      ·go_simp
       refine hK.out _ _ ?_ (fun hHeld5 => ?_)
       · (try dsimp only);go_keep
       clear hK K
       try simp only [Act.put,List.setIfInBounds_toArray]
       clear hHeld4
       refine Mn.t 8 (oi := ⟨some 67,.binOp .add 3 (.tmp 60) (.tmp 66) 3,3,"tour.go:140",#[⟨1,.data⟩,⟨7,.data⟩],none⟩) ?_
       try simp only [Act.put,List.setIfInBounds_toArray]
       refine Mn.t 9 (oi := ⟨some 68,.fieldAddr 71 (.tmp 6) 3,0,"tour.go:140",#[⟨0,.phase⟩,⟨1,.phase⟩,⟨2,.phase⟩,⟨3,.phase⟩,⟨4,.phase⟩,⟨5,.phase⟩,⟨6,.phase⟩,⟨7,.phase⟩,⟨8,.phase⟩],none⟩) ?_
       try simp only [Act.put,List.setIfInBounds_toArray]
       refine wpAnyH_ready (rs := [10]) (by kernel_rfl) (by simp) ?_
       refine AllReadyH.cons (o := ⟨none,.store 3 (.tmp 68) (.tmp 67),0,"tour.go:140",#[⟨9,.data⟩,⟨8,.data⟩,⟨7,.chain⟩,⟨0,.phase⟩,⟨1,.phase⟩,⟨2,.phase⟩,⟨3,.phase⟩,⟨4,.phase⟩,⟨5,.phase⟩,⟨6,.phase⟩,⟨7,.phase⟩,⟨8,.phase⟩],none⟩) rfl (fun K hK => ?_) ?_
       ·go_simp
        refine hK.out _ _ ?_ (fun hHeld6 => ?_)
        · (try dsimp only);go_keep
        clear hK K
        try simp only [Act.put,List.setIfInBounds_toArray]
        clear hHeld5
        refine wpAnyH_done (by kernel_rfl) ?_ _
        clear hHeld6
        go_wp2_with fail
        go_meet
        case rel => exact ⟨grw_set (below_grw E7.out) _ _,heap_setCell_same w7 x6 3 _ _ _ HB7.out⟩
       exact AllReadyH.nil
      exact AllReadyH.nil
     exact AllReadyH.nil
    case rest =>
     have HQ := hcut
     clear hcut x3 xf3 g3 g4
     have GC : Hid (wr.grownBy wc (some x6)) := grw_trans GY.out HQ.out.1
     have HSC : Hid (wc.heap[wr.heap.size]? = some (.cells #[.int .i64 pl,.int .i64 sv,.slice ya nw yc] 45)) := (HQ.out.1.block _ (lt_of_block HSY.out) (fun e => HNX.out (by injection e))).trans HSY.out
     have x4 : wc.cell? ⟨x6,4,none⟩ = some (.int .i64 W0) := cell_of_row _ x6 4 _ _ _ HQ.out.2
     have x5 : wc.cell? ⟨x6,5,none⟩ = some (.int .i64 S0) := cell_of_row _ x6 5 _ _ _ HQ.out.2
     have xf4 := frozen_of_row wc x6 4 _ _ HQ.out.2
     have xf5 := frozen_of_row wc x6 5 _ _ HQ.out.2
     have y1 : wc.cell? ⟨wr.heap.size,1,none⟩ = some (.int .i64 sv) := cell_of_row _ wr.heap.size 1 _ _ _ HSC.out
     have ny : ¬ wr.heap.size = x6 := HNX.out
     have ny' : ¬ x6 = wr.heap.size := fun e => ny e.symm
     obtain ⟨⟨kd,it⟩,hpu⟩ : ∃ u,(pointsM V)[q]? = some u := ⟨_,List.getElem?_eq_getElem (by rw [HPN.out];exact hqm)⟩
     obtain ⟨pb,poff,rfl,hpb,pc1,pc2,_⟩ := vs_cells HPT.out hpu
     obtain ⟨xs,hxs⟩ : ∃ u,(loadsT p dd V)[q]? = some u := ⟨_,List.getElem?_eq_getElem (by rw [HLN.out];exact hqm)⟩
     obtain ⟨lg,y9,rfl,hlg,hyy,lc1,hlr⟩ := ld_cells HLD.out hxs
     obtain ⟨la,lcp,rfl⟩ := IRow.shape hlr
     obtain ⟨ln,hln⟩ : ∃ z,xs.length = z := ⟨_,rfl⟩
     rw [hln] at lc1 hlr hyy
     have HSTP : Hid (stepM p dd fr V S q = ⟨kd,it,pl,lf + tt,bs - (lf + tt),sv,xs,T0 + tt,D0 + td⟩) := by
       show _ = _
       unfold stepM
       rw [HAR.out,HWT.out,HST0.out,HPL.out,HSV.out,HSM.out.1,HSM.out.2.1,List.getD_eq_getElem?_getD,hpu,List.getD_eq_getElem?_getD,hxs]
       rfl
     have HYY := hide hyy
     have HLRW := hide hlr
     clear hpu hxs hyy hln
     go_wp2_with fail
     obtain ⟨Z,hZ⟩ : ∃ Z,Z = (wc.setCell ⟨x6,4,none⟩ (.int .i64 (W0 + (bs - (lf + tt))))).setCell ⟨x6,5,none⟩ (.int .i64 (S0 + sv)) := ⟨_,rfl⟩
     rw [← hZ]
     have GZ : Hid (wr.grownBy Z (some x6)) := by rw [hZ];exact grw_set (grw_set GC.out _ _) _ _
     have HBZ : Hid (Z.heap[x6]? = some (.cells (planC k (.slice (some ⟨g,0,none⟩) q gc) (T0 + tt) (D0 + td) (W0 + (bs - (lf + tt))) (S0 + sv) 0) 71 (0,0))) := by rw [hZ];exact heap_setCell_same _ x6 5 _ _ _ (heap_setCell_same wc x6 4 _ _ _ HQ.out.2)
     have HSZ : Hid (Z.heap[wr.heap.size]? = some (.cells #[.int .i64 pl,.int .i64 sv,.slice ya nw yc] 45)) := by rw [hZ];exact (heap_setCell_other _ _ _ _ HNX.out).trans ((heap_setCell_other _ _ _ _ HNX.out).trans HSC.out)
     have LZ : Hid (Below w3.heap.size w3 Z) := HLOW.out.trans (grw_low GZ.out HX6a.out HLOW.out.size)
     have HYB : Hid (∀ y ∈ ys,∀ g,y.ownBlock = some g → g ≠ x6) := fun y hy g hg => by have h1 := RowS.inH HLD.out y hy g hg;have h2 := HX6a.out;omega
     have HRZ : Hid (StpR Z R.heap.size w3.heap.size (.slice (some ⟨g,0,none⟩) q gc) ((List.range q).map (stepM p dd fr V S)) (ys.take q)) := row_set HROW.out GZ.out (fun g' h9 => by rw [← own_blk h9];exact hgx) (fun y hy => HYB.out y (List.mem_of_mem_take hy))
     have HGA : Hid (w3.heap.size ≤ g) := (World.ownsRow.lt HROW.out.own g rfl).1
     have HLZ : Hid (IRow Z R.heap.size (.slice la ln lcp) xs) := HLRW.out.later (Nat.le_refl _) LZ.out
     have zX1 : Z.cell? ⟨x6,1,none⟩ = some (.slice (some ⟨g,0,none⟩) q gc) := cell_of_row _ x6 1 _ _ _ HBZ.out
     have zX2 : Z.cell? ⟨x6,2,none⟩ = some (.int .i64 (T0 + tt)) := cell_of_row _ x6 2 _ _ _ HBZ.out
     have zX3 : Z.cell? ⟨x6,3,none⟩ = some (.int .i64 (D0 + td)) := cell_of_row _ x6 3 _ _ _ HBZ.out
     have zY0 : Z.cell? ⟨wr.heap.size,0,none⟩ = some (.int .i64 pl) := cell_of_row _ wr.heap.size 0 _ _ _ HSZ.out
     have zY1 : Z.cell? ⟨wr.heap.size,1,none⟩ = some (.int .i64 sv) := cell_of_row _ wr.heap.size 1 _ _ _ HSZ.out
     have zP0 : Z.cell? ⟨pb,poff + q * 2,none⟩ = some (.int .i64 kd) := ((bcell LZ.out).1 _ _ hpb).trans pc1
     have zP1 : Z.cell? ⟨pb,poff + q * 2 + 1,none⟩ = some (.int .i64 it) := ((bcell LZ.out).1 _ _ hpb).trans pc2
     have zL0 : Z.cell? ⟨lg,q,none⟩ = some (.slice la ln lcp) := ((bcell LZ.out).1 _ _ hlg).trans lc1
     have lZ3 : w3.heap.size ≤ Z.heap.size := LZ.out.size
     have lX2 : x6 < Z.heap.size := lt_of_block HBZ.out
     have lY0 : wr.heap.size < Z.heap.size := lt_of_block HSZ.out
     have lP0 : pb < Z.heap.size := by omega
     have lL0 : lg < Z.heap.size := by omega
     have h6a := HX6a.out
     have hga := HGA.out
     have h6l := HX6.out
     have hgl : g < wr.heap.size := (World.ownsRow.lt HROW.out.own g rfl).2
     have np6 : ¬ pb = x6 := by omega
     have np6' : ¬ x6 = pb := by omega
     have nl6 : ¬ lg = x6 := by omega
     have nl6' : ¬ x6 = lg := by omega
     have HNG : Hid (x6 ≠ g ∧ wr.heap.size ≠ g ∧ pb ≠ g ∧ lg ≠ g) := ⟨fun e => hgx e.symm,by omega,by omega,by omega⟩
     have HAPT : Hid (Apt (.slice (some ⟨g,0,none⟩) q gc) (.slice la ln lcp)) := fun g' h8 h9 => by have h1 := own_blk h8;have h2 := irow_in HLRW.out g' h9;have h3 := HGA.out;omega
     have HQB : Hid (((List.range q).map (stepM p dd fr V S)).length = q) := by show _ = _;simp
     clear hZ x4 x5 xf4 xf5 y1 pc1 pc2 lc1 h6a hga h6l hgl hwr hw2 hw3 hw5 hw6 hsh hfx hpt hpd hmb lw0 nw0 hk
     go_cut [] from 82 to 107 (fun wx => Hid (PlnS w3 R.heap.size x6 k (ys.take (q + 1)) ((List.range (q + 1)).map (stepM p dd fr V S)) (T0 + tt) (D0 + td) (W0 + (bs - (lf + tt))) (S0 + sv) (q + 1) wx))
     case first =>
       refine wp_region_held_drew (S := (fun w' => w'.cell? ⟨pb,poff + q * 2,none⟩ = some (.int .i64 kd) ∧ w'.cell? ⟨pb,poff + q * 2 + 1,none⟩ = some (.int .i64 it) ∧ w'.cell? ⟨wr.heap.size,0,none⟩ = some (.int .i64 pl) ∧ w'.cell? ⟨wr.heap.size,1,none⟩ = some (.int .i64 sv) ∧ w'.cell? ⟨lg,q,none⟩ = some (.slice la ln lcp) ∧ w'.cell? ⟨x6,2,none⟩ = some (.int .i64 (T0 + tt)) ∧ w'.cell? ⟨x6,3,none⟩ = some (.int .i64 (D0 + td)))) (by kernel_rfl) ?_ (fun hHeld0 => ?_)
       · (try dsimp only);go_keep
       refine Mn.t 0 (oi := ⟨some 82,.fieldAddr 71 (.tmp 6) 1,0,"tour.go:143",#[],none⟩) ?_
       try simp only [Act.put,List.setIfInBounds_toArray]
       refine Mn.t 2 (oi := ⟨some 84,.move (.tmp 4),55,"tour.go:143",#[],none⟩) ?_
       try simp only [Act.put,List.setIfInBounds_toArray]
       refine Mn.t 3 (oi := ⟨some 85,.move (.tmp 8),3,"tour.go:143",#[],none⟩) ?_
       try simp only [Act.put,List.setIfInBounds_toArray]
       refine Mn.t 4 (oi := ⟨some 86,.indexAddr 55 (.tmp 84) (.tmp 85),0,"tour.go:143",#[⟨2,.data⟩,⟨3,.data⟩],none⟩) ?_
       try simp only [Act.put,List.setIfInBounds_toArray]
       refine Mn.t 5 (oi := ⟨some 87,.load 34 (.tmp 86),34,"tour.go:143",#[⟨4,.data⟩],none⟩) ?_
       try simp only [Act.put,List.setIfInBounds_toArray]
       refine Mn.t 6 (oi := ⟨some 88,.fieldAddr 45 (.tmp 9) 0,0,"tour.go:143",#[],none⟩) ?_
       try simp only [Act.put,List.setIfInBounds_toArray]
       refine Mn.t 7 (oi := ⟨some 89,.load 3 (.tmp 88),3,"tour.go:143",#[⟨6,.data⟩],none⟩) ?_
       try simp only [Act.put,List.setIfInBounds_toArray]
       refine Mn.t 8 (oi := ⟨some 90,.move (.tmp 11),3,"tour.go:143",#[],none⟩) ?_
       try simp only [Act.put,List.setIfInBounds_toArray]
       refine Mn.t 9 (oi := ⟨some 91,.move (.tmp 12),3,"tour.go:143",#[],none⟩) ?_
       try simp only [Act.put,List.setIfInBounds_toArray]
       refine Mn.t 10 (oi := ⟨some 92,.move (.tmp 11),3,"tour.go:143",#[],none⟩) ?_
       try simp only [Act.put,List.setIfInBounds_toArray]
       refine Mn.t 11 (oi := ⟨some 93,.binOp .sub 3 (.tmp 91) (.tmp 92) 3,3,"tour.go:143",#[⟨9,.data⟩,⟨10,.data⟩],none⟩) ?_
       try simp only [Act.put,List.setIfInBounds_toArray]
       refine Mn.t 12 (oi := ⟨some 94,.fieldAddr 45 (.tmp 9) 1,0,"tour.go:143",#[],none⟩) ?_
       try simp only [Act.put,List.setIfInBounds_toArray]
       refine Mn.t 13 (oi := ⟨some 95,.load 3 (.tmp 94),3,"tour.go:143",#[⟨12,.data⟩],none⟩) ?_
       try simp only [Act.put,List.setIfInBounds_toArray]
       refine Mn.t 14 (oi := ⟨some 96,.move (.tmp 5),79,"tour.go:143",#[],none⟩) ?_
       try simp only [Act.put,List.setIfInBounds_toArray]
       refine Mn.t 15 (oi := ⟨some 97,.move (.tmp 8),3,"tour.go:143",#[],none⟩) ?_
       try simp only [Act.put,List.setIfInBounds_toArray]
       refine Mn.t 16 (oi := ⟨some 98,.indexAddr 79 (.tmp 96) (.tmp 97),0,"tour.go:143",#[⟨14,.data⟩,⟨15,.data⟩],none⟩) ?_
       try simp only [Act.put,List.setIfInBounds_toArray]
       refine Mn.t 17 (oi := ⟨some 99,.load 22 (.tmp 98),22,"tour.go:143",#[⟨16,.data⟩],none⟩) ?_
       try simp only [Act.put,List.setIfInBounds_toArray]
       refine Mn.t 18 (oi := ⟨some 100,.fieldAddr 71 (.tmp 6) 2,0,"tour.go:143",#[],none⟩) ?_
       try simp only [Act.put,List.setIfInBounds_toArray]
       refine Mn.t 19 (oi := ⟨some 101,.load 3 (.tmp 100),3,"tour.go:143",#[⟨18,.data⟩],none⟩) ?_
       try simp only [Act.put,List.setIfInBounds_toArray]
       refine Mn.t 20 (oi := ⟨some 102,.fieldAddr 71 (.tmp 6) 3,0,"tour.go:143",#[],none⟩) ?_
       try simp only [Act.put,List.setIfInBounds_toArray]
       refine Mn.t 21 (oi := ⟨some 103,.load 3 (.tmp 102),3,"tour.go:143",#[⟨20,.data⟩],none⟩) ?_
       try simp only [Act.put,List.setIfInBounds_toArray]
       refine Mn.t 22 (oi := ⟨some 104,.build 88 #[(0,.tmp 87),(1,.tmp 89),(2,.tmp 90),(3,.tmp 93),(4,.tmp 95),(5,.tmp 99),(6,.tmp 101),(7,.tmp 103)],88,"tour.go:143",#[⟨5,.data⟩,⟨7,.data⟩,⟨8,.data⟩,⟨11,.data⟩,⟨13,.data⟩,⟨17,.data⟩,⟨19,.data⟩,⟨21,.data⟩],none⟩) ?_
       try simp only [Act.put,List.setIfInBounds_toArray]
       refine wpAnyH_ready (rs := [1,23]) (by kernel_rfl) (by simp) ?_
       refine AllReadyH.cons (o := ⟨some 83,.load 69 (.tmp 82),69,"tour.go:143",#[⟨0,.data⟩],none⟩) rfl (fun K hK => ?_) ?_
       ·go_simp
        refine hK.out _ _ ?_ (fun hHeld1 => ?_)
        · (try dsimp only);go_keep
        clear hK K
        try simp only [Act.put,List.setIfInBounds_toArray]
        clear hHeld0
        refine wpAnyH_ready (rs := [23]) (by kernel_rfl) (by simp) ?_
        refine AllReadyH.cons (o := ⟨some 105,.buildSlice 69 1 #[(0,.tmp 104)],69,"tour.go:143",#[⟨22,.data⟩],none⟩) rfl (fun K hK => ?_) ?_
        ·go_simp
         refine hK.out _ _ ?_ (fun hHeld2 => ?_)
         · (try dsimp only);go_keep
         clear hK K
         try simp only [Act.put,List.setIfInBounds_toArray]
         clear hHeld1
         refine wpAnyH_ready (rs := [24]) (by kernel_rfl) (by simp) ?_
         refine AllReadyH.cons (o := ⟨some 106,.call { callee := .builtin .append,args := #[.tmp 83,.tmp 105],argTypes := #[69,69] },69,"tour.go:143",#[⟨1,.data⟩,⟨23,.data⟩],none⟩) rfl (fun K hK => ?_) ?_
         ·(refine step_plan (Z := Z) (X := (Z.alloc (.cells #[.int .i64 kd,.int .i64 it,.int .i64 pl,.int .i64 (lf + tt),.int .i64 (bs - (lf + tt)),.int .i64 sv,.slice la ln lcp,.int .i64 (T0 + tt),.int .i64 (D0 + td)] 88)).drew) (cells := #[.int .i64 kd,.int .i64 it,.int .i64 pl,.int .i64 (lf + tt),.int .i64 (bs - (lf + tt)),.int .i64 sv,.slice la ln lcp,.int .i64 (T0 + tt),.int .i64 (D0 + td)]) (L := (List.range q).map (stepM p dd fr V S)) (ys := ys.take q) (base := R.heap.size) (b2 := w3.heap.size) (.tmp 83) (.tmp 105) rfl rfl rfl rfl (((Below.refl Z.heap.size Z).alloc (Nat.le_refl _) _).drew) (new_block Z _) (st := ⟨kd,it,pl,lf + tt,bs - (lf + tt),sv,xs,T0 + tt,D0 + td⟩) rfl HRZ.out HQB.out (by omega) LZ.out.size HLZ.out HAPT.out ?_;intro g3 cp3 wA r1 hgb r3 r4;have aP0 : wA.cell? ⟨pb,poff + q * 2,none⟩ = some (.int .i64 kd) := (World.cell?_of_block (a := ⟨pb,poff + q * 2,none⟩) (hgb _ lP0 HNG.out.2.2.1)).trans zP0;have aP1 : wA.cell? ⟨pb,poff + q * 2 + 1,none⟩ = some (.int .i64 it) := (World.cell?_of_block (a := ⟨pb,poff + q * 2 + 1,none⟩) (hgb _ lP0 HNG.out.2.2.1)).trans zP1;have aY0 : wA.cell? ⟨wr.heap.size,0,none⟩ = some (.int .i64 pl) := (World.cell?_of_block (a := ⟨wr.heap.size,0,none⟩) (hgb _ lY0 HNG.out.2.1)).trans zY0;have aY1 : wA.cell? ⟨wr.heap.size,1,none⟩ = some (.int .i64 sv) := (World.cell?_of_block (a := ⟨wr.heap.size,1,none⟩) (hgb _ lY0 HNG.out.2.1)).trans zY1;have aL0 : wA.cell? ⟨lg,q,none⟩ = some (.slice la ln lcp) := (World.cell?_of_block (a := ⟨lg,q,none⟩) (hgb _ lL0 HNG.out.2.2.2)).trans zL0;have aX2 : wA.cell? ⟨x6,2,none⟩ = some (.int .i64 (T0 + tt)) := (World.cell?_of_block (a := ⟨x6,2,none⟩) (hgb _ lX2 HNG.out.1)).trans zX2;have aX3 : wA.cell? ⟨x6,3,none⟩ = some (.int .i64 (D0 + td)) := (World.cell?_of_block (a := ⟨x6,3,none⟩) (hgb _ lX2 HNG.out.1)).trans zX3;have aX1 : wA.cell? ⟨x6,1,none⟩ = some (.slice (some ⟨g,0,none⟩) q gc) := (World.cell?_of_block (a := ⟨x6,1,none⟩) (hgb _ lX2 HNG.out.1)).trans zX1;have HBA := hide ((hgb x6 lX2 HNG.out.1).trans HBZ.out);have aF1 := frozen_of_row wA x6 1 _ _ HBA.out;have aW2 : ∀ v,(wA.setCell ⟨x6,1,none⟩ v).cell? ⟨x6,2,none⟩ = some (.int .i64 (T0 + tt)) := (fun v => cell_of_row _ x6 2 _ _ _ (heap_setCell_same wA x6 1 _ _ _ HBA.out));have aW3 : ∀ v,(wA.setCell ⟨x6,1,none⟩ v).cell? ⟨x6,3,none⟩ = some (.int .i64 (D0 + td)) := (fun v => cell_of_row _ x6 3 _ _ _ (heap_setCell_same wA x6 1 _ _ _ HBA.out));have HRA := hide r1;have HG3 : Hid (g3 ≠ x6) := (by rcases r3 with e | e;rw [e];exact hgx;show _ ≠ _;omega);have LA : Hid (Below w3.heap.size w3 wA) := LZ.out.trans r4;clear r1 r3 r4 hgb)
          refine hK.out _ _ ?_ (fun hHeld3 => ?_)
          · (try dsimp only);go_keep
          clear hK K
          try simp only [Act.put,List.setIfInBounds_toArray]
          clear hHeld2
          refine Mn.t 25 (oi := ⟨some 107,.fieldAddr 71 (.tmp 6) 1,0,"tour.go:143",#[⟨0,.phase⟩,⟨1,.phase⟩,⟨2,.phase⟩,⟨3,.phase⟩,⟨4,.phase⟩,⟨5,.phase⟩,⟨6,.phase⟩,⟨7,.phase⟩,⟨8,.phase⟩,⟨9,.phase⟩,⟨10,.phase⟩,⟨11,.phase⟩,⟨12,.phase⟩,⟨13,.phase⟩,⟨14,.phase⟩,⟨15,.phase⟩,⟨16,.phase⟩,⟨17,.phase⟩,⟨18,.phase⟩,⟨19,.phase⟩,⟨20,.phase⟩,⟨21,.phase⟩,⟨22,.phase⟩,⟨23,.phase⟩,⟨24,.phase⟩],none⟩) ?_
          try simp only [Act.put,List.setIfInBounds_toArray]
          refine wpAnyH_ready (rs := [26]) (by kernel_rfl) (by simp) ?_
          refine AllReadyH.cons (o := ⟨none,.store 69 (.tmp 107) (.tmp 106),0,"tour.go:143",#[⟨25,.data⟩,⟨24,.data⟩,⟨24,.chain⟩,⟨0,.phase⟩,⟨1,.phase⟩,⟨2,.phase⟩,⟨3,.phase⟩,⟨4,.phase⟩,⟨5,.phase⟩,⟨6,.phase⟩,⟨7,.phase⟩,⟨8,.phase⟩,⟨9,.phase⟩,⟨10,.phase⟩,⟨11,.phase⟩,⟨12,.phase⟩,⟨13,.phase⟩,⟨14,.phase⟩,⟨15,.phase⟩,⟨16,.phase⟩,⟨17,.phase⟩,⟨18,.phase⟩,⟨19,.phase⟩,⟨20,.phase⟩,⟨21,.phase⟩,⟨22,.phase⟩,⟨23,.phase⟩,⟨24,.phase⟩],none⟩) rfl (fun K hK => ?_) ?_
          ·go_simp
           refine hK.out _ _ ?_ (fun hHeld4 => ?_)
           · (try dsimp only);go_keep
           clear hK K
           try simp only [Act.put,List.setIfInBounds_toArray]
           clear hHeld3
           refine wpAnyH_done (by kernel_rfl) ?_ _
           clear hHeld4
           clear aP0 aP1 aY0 aY1 aL0 aX2 aX3 aX1 aW2 aW3 aF1
           go_wp2_with fail
           go_meet
           case rel => exact by rw [take_step HYY.out,range_step,HSTP.out];exact plns_next LA.out HX6a.out (by simp) HBA.out HRA.out HG3.out (fun y hy => by rcases List.mem_append.1 hy with h9 | h9;exact HYB.out y (List.mem_of_mem_take h9);rw [List.mem_singleton] at h9;rw [h9];exact HYB.out _ (List.mem_of_getElem? HYY.out))
          exact AllReadyH.nil
         exact AllReadyH.nil
        exact AllReadyH.nil
       refine AllReadyH.cons (o := ⟨some 105,.buildSlice 69 1 #[(0,.tmp 104)],69,"tour.go:143",#[⟨22,.data⟩],none⟩) rfl (fun K hK => ?_) ?_
       ·go_simp
        refine hK.out _ _ ?_ (fun hHeld5 => ?_)
        · (try dsimp only);go_keep
        clear hK K
        try simp only [Act.put,List.setIfInBounds_toArray]
        clear hHeld0
        refine wpAnyH_ready (rs := [1]) (by kernel_rfl) (by simp) ?_
        refine AllReadyH.cons (o := ⟨some 83,.load 69 (.tmp 82),69,"tour.go:143",#[⟨0,.data⟩],none⟩) rfl (fun K hK => ?_) ?_
        ·go_simp
         refine hK.out _ _ ?_ (fun hHeld6 => ?_)
         · (try dsimp only);go_keep
         clear hK K
         try simp only [Act.put,List.setIfInBounds_toArray]
         clear hHeld5
         refine wpAnyH_ready (rs := [24]) (by kernel_rfl) (by simp) ?_
         refine AllReadyH.cons (o := ⟨some 106,.call { callee := .builtin .append,args := #[.tmp 83,.tmp 105],argTypes := #[69,69] },69,"tour.go:143",#[⟨1,.data⟩,⟨23,.data⟩],none⟩) rfl (fun K hK => ?_) ?_
         ·(refine step_plan (Z := Z) (X := (Z.alloc (.cells #[.int .i64 kd,.int .i64 it,.int .i64 pl,.int .i64 (lf + tt),.int .i64 (bs - (lf + tt)),.int .i64 sv,.slice la ln lcp,.int .i64 (T0 + tt),.int .i64 (D0 + td)] 88)).drew) (cells := #[.int .i64 kd,.int .i64 it,.int .i64 pl,.int .i64 (lf + tt),.int .i64 (bs - (lf + tt)),.int .i64 sv,.slice la ln lcp,.int .i64 (T0 + tt),.int .i64 (D0 + td)]) (L := (List.range q).map (stepM p dd fr V S)) (ys := ys.take q) (base := R.heap.size) (b2 := w3.heap.size) (.tmp 83) (.tmp 105) rfl rfl rfl rfl (((Below.refl Z.heap.size Z).alloc (Nat.le_refl _) _).drew) (new_block Z _) (st := ⟨kd,it,pl,lf + tt,bs - (lf + tt),sv,xs,T0 + tt,D0 + td⟩) rfl HRZ.out HQB.out (by omega) LZ.out.size HLZ.out HAPT.out ?_;intro g3 cp3 wA r1 hgb r3 r4;have aP0 : wA.cell? ⟨pb,poff + q * 2,none⟩ = some (.int .i64 kd) := (World.cell?_of_block (a := ⟨pb,poff + q * 2,none⟩) (hgb _ lP0 HNG.out.2.2.1)).trans zP0;have aP1 : wA.cell? ⟨pb,poff + q * 2 + 1,none⟩ = some (.int .i64 it) := (World.cell?_of_block (a := ⟨pb,poff + q * 2 + 1,none⟩) (hgb _ lP0 HNG.out.2.2.1)).trans zP1;have aY0 : wA.cell? ⟨wr.heap.size,0,none⟩ = some (.int .i64 pl) := (World.cell?_of_block (a := ⟨wr.heap.size,0,none⟩) (hgb _ lY0 HNG.out.2.1)).trans zY0;have aY1 : wA.cell? ⟨wr.heap.size,1,none⟩ = some (.int .i64 sv) := (World.cell?_of_block (a := ⟨wr.heap.size,1,none⟩) (hgb _ lY0 HNG.out.2.1)).trans zY1;have aL0 : wA.cell? ⟨lg,q,none⟩ = some (.slice la ln lcp) := (World.cell?_of_block (a := ⟨lg,q,none⟩) (hgb _ lL0 HNG.out.2.2.2)).trans zL0;have aX2 : wA.cell? ⟨x6,2,none⟩ = some (.int .i64 (T0 + tt)) := (World.cell?_of_block (a := ⟨x6,2,none⟩) (hgb _ lX2 HNG.out.1)).trans zX2;have aX3 : wA.cell? ⟨x6,3,none⟩ = some (.int .i64 (D0 + td)) := (World.cell?_of_block (a := ⟨x6,3,none⟩) (hgb _ lX2 HNG.out.1)).trans zX3;have aX1 : wA.cell? ⟨x6,1,none⟩ = some (.slice (some ⟨g,0,none⟩) q gc) := (World.cell?_of_block (a := ⟨x6,1,none⟩) (hgb _ lX2 HNG.out.1)).trans zX1;have HBA := hide ((hgb x6 lX2 HNG.out.1).trans HBZ.out);have aF1 := frozen_of_row wA x6 1 _ _ HBA.out;have aW2 : ∀ v,(wA.setCell ⟨x6,1,none⟩ v).cell? ⟨x6,2,none⟩ = some (.int .i64 (T0 + tt)) := (fun v => cell_of_row _ x6 2 _ _ _ (heap_setCell_same wA x6 1 _ _ _ HBA.out));have aW3 : ∀ v,(wA.setCell ⟨x6,1,none⟩ v).cell? ⟨x6,3,none⟩ = some (.int .i64 (D0 + td)) := (fun v => cell_of_row _ x6 3 _ _ _ (heap_setCell_same wA x6 1 _ _ _ HBA.out));have HRA := hide r1;have HG3 : Hid (g3 ≠ x6) := (by rcases r3 with e | e;rw [e];exact hgx;show _ ≠ _;omega);have LA : Hid (Below w3.heap.size w3 wA) := LZ.out.trans r4;clear r1 r3 r4 hgb)
          refine hK.out _ _ ?_ (fun hHeld7 => ?_)
          · (try dsimp only);go_keep
          clear hK K
          try simp only [Act.put,List.setIfInBounds_toArray]
          clear hHeld6
          refine Mn.t 25 (oi := ⟨some 107,.fieldAddr 71 (.tmp 6) 1,0,"tour.go:143",#[⟨0,.phase⟩,⟨1,.phase⟩,⟨2,.phase⟩,⟨3,.phase⟩,⟨4,.phase⟩,⟨5,.phase⟩,⟨6,.phase⟩,⟨7,.phase⟩,⟨8,.phase⟩,⟨9,.phase⟩,⟨10,.phase⟩,⟨11,.phase⟩,⟨12,.phase⟩,⟨13,.phase⟩,⟨14,.phase⟩,⟨15,.phase⟩,⟨16,.phase⟩,⟨17,.phase⟩,⟨18,.phase⟩,⟨19,.phase⟩,⟨20,.phase⟩,⟨21,.phase⟩,⟨22,.phase⟩,⟨23,.phase⟩,⟨24,.phase⟩],none⟩) ?_
          try simp only [Act.put,List.setIfInBounds_toArray]
          refine wpAnyH_ready (rs := [26]) (by kernel_rfl) (by simp) ?_
          refine AllReadyH.cons (o := ⟨none,.store 69 (.tmp 107) (.tmp 106),0,"tour.go:143",#[⟨25,.data⟩,⟨24,.data⟩,⟨24,.chain⟩,⟨0,.phase⟩,⟨1,.phase⟩,⟨2,.phase⟩,⟨3,.phase⟩,⟨4,.phase⟩,⟨5,.phase⟩,⟨6,.phase⟩,⟨7,.phase⟩,⟨8,.phase⟩,⟨9,.phase⟩,⟨10,.phase⟩,⟨11,.phase⟩,⟨12,.phase⟩,⟨13,.phase⟩,⟨14,.phase⟩,⟨15,.phase⟩,⟨16,.phase⟩,⟨17,.phase⟩,⟨18,.phase⟩,⟨19,.phase⟩,⟨20,.phase⟩,⟨21,.phase⟩,⟨22,.phase⟩,⟨23,.phase⟩,⟨24,.phase⟩],none⟩) rfl (fun K hK => ?_) ?_
          ·go_simp
           refine hK.out _ _ ?_ (fun hHeld8 => ?_)
           · (try dsimp only);go_keep
           clear hK K
           try simp only [Act.put,List.setIfInBounds_toArray]
           clear hHeld7
           refine wpAnyH_done (by kernel_rfl) ?_ _
           clear hHeld8
           clear aP0 aP1 aY0 aY1 aL0 aX2 aX3 aX1 aW2 aW3 aF1
           go_wp2_with fail
           go_meet
           case rel => exact by rw [take_step HYY.out,range_step,HSTP.out];exact plns_next LA.out HX6a.out (by simp) HBA.out HRA.out HG3.out (fun y hy => by rcases List.mem_append.1 hy with h9 | h9;exact HYB.out y (List.mem_of_mem_take h9);rw [List.mem_singleton] at h9;rw [h9];exact HYB.out _ (List.mem_of_getElem? HYY.out))
          exact AllReadyH.nil
         exact AllReadyH.nil
        exact AllReadyH.nil
       exact AllReadyH.nil
     case rest =>
       have HQ2 := hcut
       clear hcut zX1 zX2 zX3 zY0 zY1 zP0 zP1 zL0 lZ3 lX2 lY0 lP0 lL0 np6 np6' nl6 nl6'
       go_wp2_with fail
       go_roundw
       case rel => exact ⟨q + 1,bs + sv,by go_num,rfl,by omega,HLS.out,by rw [HSM.out.1,HSM.out.2.1,HSM.out.2.2.1,HSM.out.2.2.2];exact HQ2.out⟩
       case measure => simp [intOf];omega
   ·have i1 : ¬ (q : Int) < (nS : Int) := by omega
    have hqe : q = nS := by omega
    subst hqe
    have hs1 := sumT_ok (S := S) HW.out.mt q (by omega)
    have hs2 := sumT_ok (S := S) HW.out.md q (by omega)
    obtain ⟨T0,hT0⟩ : ∃ z,sumN (travelM p.time S) q = z := ⟨_,rfl⟩
    obtain ⟨D0,hD0⟩ : ∃ z,sumN (travelM p.dist S) q = z := ⟨_,rfl⟩
    obtain ⟨W0,hW0⟩ : ∃ z,sumN (waitM p.time S fr) q = z := ⟨_,rfl⟩
    obtain ⟨S0,hS0⟩ : ∃ z,sumN (servM S) q = z := ⟨_,rfl⟩
    obtain ⟨g,gc,hbox,hgx,hrow⟩ := HPS.out.box
    rw [hT0,hD0,hW0,hS0] at hbox
    rw [hT0] at hs1
    rw [hD0] at hs2
    have HPE : Hid (planS p dd k v1 V S = ⟨k,(List.range q).map (stepM p dd fr V S),T0,D0,W0,S0,v1.fixed + T0 * v1.perT + D0 * v1.perD⟩) := by
     show _ = _
     unfold planS
     rw [HSN.out,HFR.out,hT0,hD0,hW0,hS0]
    have m1 := mul_bd hs1.1 hs1.2 hpt.1 hpt.2
    have m2 := mul_bd hs2.1 hs2.2 hpd.1 hpd.2
    have hw1 : IntKind.i64.wrap (T0 * v1.perT) = T0 * v1.perT := by rw [IntKind.wrap_i64];omega
    have hw2 : IntKind.i64.wrap (v1.fixed + T0 * v1.perT) = v1.fixed + T0 * v1.perT := by rw [IntKind.wrap_i64];omega
    have hw3 : IntKind.i64.wrap (D0 * v1.perD) = D0 * v1.perD := by rw [IntKind.wrap_i64];omega
    have hw4 : IntKind.i64.wrap (v1.fixed + T0 * v1.perT + D0 * v1.perD) = v1.fixed + T0 * v1.perT + D0 * v1.perD := by rw [IntKind.wrap_i64];omega
    have HBOX := hide hbox
    have HROW := hide hrow
    have HX6 := hide HPS.out.lt
    have HX6a := hide HPS.out.x6a
    have HLOW := hide HPS.out.low
    have x2 : wr.cell? ⟨x6,2,none⟩ = some (.int .i64 T0) := cell_of_row _ x6 2 _ _ _ HBOX.out
    have x3 : wr.cell? ⟨x6,3,none⟩ = some (.int .i64 D0) := cell_of_row _ x6 3 _ _ _ HBOX.out
    have lw0 : w.heap.size < wr.heap.size := Nat.lt_of_lt_of_le HLR.out EC.out.size
    have hfd5 : ∀ X,(Instr.field 86 (.agg (vehA v1 (.slice ca v1.cap.length cc) (.slice ba v1.brks.length bc))) 5).run Try.prog X = .ok (.int .i64 v1.fixed) X := fun X => by kernel_rfl
    have hfd6 : ∀ X,(Instr.field 86 (.agg (vehA v1 (.slice ca v1.cap.length cc) (.slice ba v1.brks.length bc))) 6).run Try.prog X = .ok (.int .i64 v1.perT) X := fun X => by kernel_rfl
    have hfd7 : ∀ X,(Instr.field 86 (.agg (vehA v1 (.slice ca v1.cap.length cc) (.slice ba v1.brks.length bc))) 7).run Try.prog X = .ok (.int .i64 v1.perD) X := fun X => by kernel_rfl
    obtain ⟨r0,r1,r2,r3,r4,r5,r6,r7,r8,r9⟩ := Mn.c10 (fun j => ((bcell EC.out).1 _ j HLR.out).trans (HCR.out j))
    clear hbox hrow HPS hT0 hD0 hW0 hS0 hs1 hs2 m1 m2 i1 hsh hfx hpt hpd
    go_wp2_with fail
    first | (go_region_held3 (fun w' => w'.cell? ⟨w.heap.size,0,none⟩ = some (.int .i64 p.dims) ∧ w'.cell? ⟨w.heap.size,1,none⟩ = some (.int .i64 p.time.n) ∧ w'.cell? ⟨w.heap.size,2,none⟩ = some (.slice ta p.time.cells.length tc) ∧ w'.cell? ⟨w.heap.size,3,none⟩ = some (.int .i64 p.dist.n) ∧ w'.cell? ⟨w.heap.size,4,none⟩ = some (.slice da p.dist.cells.length dc) ∧ w'.cell? ⟨w.heap.size,5,none⟩ = some (.slice va' p.vs.length vc') ∧ w'.cell? ⟨w.heap.size,6,none⟩ = some (.slice ja p.js.length jc) ∧ w'.cell? ⟨w.heap.size,7,none⟩ = some (.slice sa p.ss.length sc) ∧ w'.cell? ⟨w.heap.size,8,none⟩ = some (.int .i64 k) ∧ w'.cell? ⟨w.heap.size,9,none⟩ = some (.slice va m vc) ∧ w'.cell? ⟨x6,2,none⟩ = some (.int .i64 T0) ∧ w'.cell? ⟨x6,3,none⟩ = some (.int .i64 D0)) (go_keep) (first | (go_at_call 74;clear E6;refine (H74.out _ (below_on EW.out E7.out)).mono ?_;rintro e w8 ⟨rfl,k8⟩;have E8 := hide (below_on E7.out k8);have kc0 : w8.cell? ⟨w.heap.size,0,none⟩ = some (.int .i64 p.dims) := ((bcell E8.out).1 _ 0 lw0).trans r0;have kc1 : w8.cell? ⟨w.heap.size,1,none⟩ = some (.int .i64 p.time.n) := ((bcell E8.out).1 _ 1 lw0).trans r1;have kc2 : w8.cell? ⟨w.heap.size,2,none⟩ = some (.slice ta p.time.cells.length tc) := ((bcell E8.out).1 _ 2 lw0).trans r2;have kc3 : w8.cell? ⟨w.heap.size,3,none⟩ = some (.int .i64 p.dist.n) := ((bcell E8.out).1 _ 3 lw0).trans r3;have kc4 : w8.cell? ⟨w.heap.size,4,none⟩ = some (.slice da p.dist.cells.length dc) := ((bcell E8.out).1 _ 4 lw0).trans r4;have kc5 : w8.cell? ⟨w.heap.size,5,none⟩ = some (.slice va' p.vs.length vc') := ((bcell E8.out).1 _ 5 lw0).trans r5;have kc6 : w8.cell? ⟨w.heap.size,6,none⟩ = some (.slice ja p.js.length jc) := ((bcell E8.out).1 _ 6 lw0).trans r6;have kc7 : w8.cell? ⟨w.heap.size,7,none⟩ = some (.slice sa p.ss.length sc) := ((bcell E8.out).1 _ 7 lw0).trans r7;have kc8 : w8.cell? ⟨w.heap.size,8,none⟩ = some (.int .i64 k) := ((bcell E8.out).1 _ 8 lw0).trans r8;have kc9 : w8.cell? ⟨w.heap.size,9,none⟩ = some (.slice va m vc) := ((bcell E8.out).1 _ 9 lw0).trans r9;have kcx2 : w8.cell? ⟨x6,2,none⟩ = some (.int .i64 T0) := ((bcell E8.out).1 _ 2 HX6.out).trans x2;have kcx3 : w8.cell? ⟨x6,3,none⟩ = some (.int .i64 D0) := ((bcell E8.out).1 _ 3 HX6.out).trans x3;have HB8 := hide ((E8.out.block x6 HX6.out).trans HBOX.out);have nf6 := frozen_of_row w8 x6 6 _ _ HB8.out;have nx6 : w8.cell? ⟨x6,6,none⟩ = some (.int .i64 0) := cell_of_row _ x6 6 _ _ _ HB8.out;have nz : ¬ w.heap.size = x6 := (by have := HX6a.out;omega);have nz' : ¬ x6 = w.heap.size := (by omega);have nW2 : ∀ v,(w8.setCell ⟨x6,6,none⟩ v).cell? ⟨x6,2,none⟩ = some (.int .i64 T0) := (fun v => cell_of_row _ x6 2 _ _ _ (heap_setCell_same w8 x6 6 _ _ _ HB8.out));have nW3 : ∀ v,(w8.setCell ⟨x6,6,none⟩ v).cell? ⟨x6,3,none⟩ = some (.int .i64 D0) := (fun v => cell_of_row _ x6 3 _ _ _ (heap_setCell_same w8 x6 6 _ _ _ HB8.out));clear k8) | (go_at_call 74;clear E5;refine (H74.out _ (below_on EW.out E6.out)).mono ?_;rintro e w7 ⟨rfl,k7⟩;have E7 := hide (below_on E6.out k7);have kb0 : w7.cell? ⟨w.heap.size,0,none⟩ = some (.int .i64 p.dims) := ((bcell E7.out).1 _ 0 lw0).trans r0;have kb1 : w7.cell? ⟨w.heap.size,1,none⟩ = some (.int .i64 p.time.n) := ((bcell E7.out).1 _ 1 lw0).trans r1;have kb2 : w7.cell? ⟨w.heap.size,2,none⟩ = some (.slice ta p.time.cells.length tc) := ((bcell E7.out).1 _ 2 lw0).trans r2;have kb3 : w7.cell? ⟨w.heap.size,3,none⟩ = some (.int .i64 p.dist.n) := ((bcell E7.out).1 _ 3 lw0).trans r3;have kb4 : w7.cell? ⟨w.heap.size,4,none⟩ = some (.slice da p.dist.cells.length dc) := ((bcell E7.out).1 _ 4 lw0).trans r4;have kb5 : w7.cell? ⟨w.heap.size,5,none⟩ = some (.slice va' p.vs.length vc') := ((bcell E7.out).1 _ 5 lw0).trans r5;have kb6 : w7.cell? ⟨w.heap.size,6,none⟩ = some (.slice ja p.js.length jc) := ((bcell E7.out).1 _ 6 lw0).trans r6;have kb7 : w7.cell? ⟨w.heap.size,7,none⟩ = some (.slice sa p.ss.length sc) := ((bcell E7.out).1 _ 7 lw0).trans r7;have kb8 : w7.cell? ⟨w.heap.size,8,none⟩ = some (.int .i64 k) := ((bcell E7.out).1 _ 8 lw0).trans r8;have kb9 : w7.cell? ⟨w.heap.size,9,none⟩ = some (.slice va m vc) := ((bcell E7.out).1 _ 9 lw0).trans r9;have kbx2 : w7.cell? ⟨x6,2,none⟩ = some (.int .i64 T0) := ((bcell E7.out).1 _ 2 HX6.out).trans x2;have kbx3 : w7.cell? ⟨x6,3,none⟩ = some (.int .i64 D0) := ((bcell E7.out).1 _ 3 HX6.out).trans x3;clear k7) | (go_at_call 74;refine (H74.out _ (below_on EW.out (Below.refl _ _).drew)).mono ?_;rintro e w6 ⟨rfl,k6⟩;have E6 := hide (below_on ((Below.refl _ _).drew) k6);have E5 := E6;have ka0 : w6.cell? ⟨w.heap.size,0,none⟩ = some (.int .i64 p.dims) := ((bcell E6.out).1 _ 0 lw0).trans r0;have ka1 : w6.cell? ⟨w.heap.size,1,none⟩ = some (.int .i64 p.time.n) := ((bcell E6.out).1 _ 1 lw0).trans r1;have ka2 : w6.cell? ⟨w.heap.size,2,none⟩ = some (.slice ta p.time.cells.length tc) := ((bcell E6.out).1 _ 2 lw0).trans r2;have ka3 : w6.cell? ⟨w.heap.size,3,none⟩ = some (.int .i64 p.dist.n) := ((bcell E6.out).1 _ 3 lw0).trans r3;have ka4 : w6.cell? ⟨w.heap.size,4,none⟩ = some (.slice da p.dist.cells.length dc) := ((bcell E6.out).1 _ 4 lw0).trans r4;have ka5 : w6.cell? ⟨w.heap.size,5,none⟩ = some (.slice va' p.vs.length vc') := ((bcell E6.out).1 _ 5 lw0).trans r5;have ka6 : w6.cell? ⟨w.heap.size,6,none⟩ = some (.slice ja p.js.length jc) := ((bcell E6.out).1 _ 6 lw0).trans r6;have ka7 : w6.cell? ⟨w.heap.size,7,none⟩ = some (.slice sa p.ss.length sc) := ((bcell E6.out).1 _ 7 lw0).trans r7;have ka8 : w6.cell? ⟨w.heap.size,8,none⟩ = some (.int .i64 k) := ((bcell E6.out).1 _ 8 lw0).trans r8;have ka9 : w6.cell? ⟨w.heap.size,9,none⟩ = some (.slice va m vc) := ((bcell E6.out).1 _ 9 lw0).trans r9;have kax2 : w6.cell? ⟨x6,2,none⟩ = some (.int .i64 T0) := ((bcell E6.out).1 _ 2 HX6.out).trans x2;have kax3 : w6.cell? ⟨x6,3,none⟩ = some (.int .i64 D0) := ((bcell E6.out).1 _ 3 HX6.out).trans x3;clear k6) | fail)) | fail
    rename_i hHeld
    clear hHeld
    obtain ⟨U,hU⟩ : ∃ U,U = w8.setCell ⟨x6,6,none⟩ (.int .i64 (v1.fixed + T0 * v1.perT + D0 * v1.perD)) := ⟨_,rfl⟩
    rw [← hU]
    have HBU : Hid (U.heap[x6]? = some (.cells (planC k (.slice (some ⟨g,0,none⟩) q gc) T0 D0 W0 S0 (v1.fixed + T0 * v1.perT + D0 * v1.perD)) 71 (0,0))) := by rw [hU];exact heap_setCell_same w8 x6 6 _ _ _ HB8.out
    have GU : Hid (wr.grownBy U (some x6)) := by rw [hU];exact grw_set (below_grw E8.out) _ _
    have HYB : Hid (∀ y ∈ ys,∀ g,y.ownBlock = some g → R.heap.size ≤ g ∧ g < w3.heap.size) := fun y hy g hg => ⟨by
     obtain ⟨i,hi⟩ := List.getElem?_of_mem hy
     have hl := (List.getElem?_eq_some_iff.1 hi).1
     rw [HLD.out.len] at hl
     exact (World.ownsRow.lt (HLD.out.sat i _ y (List.getElem?_eq_getElem hl) hi).1 g hg).1,RowS.inH HLD.out y hy g hg⟩
    have HYL : Hid (ys.length = q) := by show _ = _;rw [HLD.out.len];exact HLN.out
    have HTK : Hid (ys.take q = ys) := by show _ = _;rw [List.take_of_length_le (by rw [HYL.out];exact Nat.le_refl _)]
    have HRU : Hid (StpR U R.heap.size w3.heap.size (.slice (some ⟨g,0,none⟩) q gc) ((List.range q).map (stepM p dd fr V S)) ys) := by have h9 := row_set HROW.out GU.out (fun g' h9 => by rw [← own_blk h9];exact hgx) (fun y hy g' h9 => by have h1 := (HYB.out y (List.mem_of_mem_take hy) g' h9).2;have h2 := HX6a.out;omega);rw [HTK.out] at h9;exact h9
    have HLU : Hid (Below w.heap.size w U) := EW.out.trans (grw_low GU.out (by have := HX6a.out;have := HLR.out;have := E3.out.size;omega) EW.out.size)
    have HRU1 : Hid (U.heap[w.heap.size + 1]? = some (.cells #[.int .i64 0,.slice none 0 0,.int .i64 0,.int .i64 0,.int .i64 0,.int .i64 0,.int .i64 0] 71)) := (GU.out.block _ (by have := HLR1.out;have := EC.out.size;omega) (fun e => by injection e with e;have := HX6a.out;have := HLR1.out;have := E3.out.size;omega)).trans ((EC.out.block _ HLR1.out).trans HRR.out)
    have HGA : Hid (w3.heap.size ≤ g) := (World.ownsRow.lt HROW.out.own g rfl).1
    have u0 : U.cell? ⟨x6,0,none⟩ = some (.int .i64 k) := cell_of_row _ x6 0 _ _ _ HBU.out
    have u1 : U.cell? ⟨x6,1,none⟩ = some (.slice (some ⟨g,0,none⟩) q gc) := cell_of_row _ x6 1 _ _ _ HBU.out
    have u2 : U.cell? ⟨x6,2,none⟩ = some (.int .i64 T0) := cell_of_row _ x6 2 _ _ _ HBU.out
    have u3 : U.cell? ⟨x6,3,none⟩ = some (.int .i64 D0) := cell_of_row _ x6 3 _ _ _ HBU.out
    have u4 : U.cell? ⟨x6,4,none⟩ = some (.int .i64 W0) := cell_of_row _ x6 4 _ _ _ HBU.out
    have u5 : U.cell? ⟨x6,5,none⟩ = some (.int .i64 S0) := cell_of_row _ x6 5 _ _ _ HBU.out
    have u6 : U.cell? ⟨x6,6,none⟩ = some (.int .i64 (v1.fixed + T0 * v1.perT + D0 * v1.perD)) := cell_of_row _ x6 6 _ _ _ HBU.out
    have q0 := cell_of_row _ (w.heap.size + 1) 0 _ _ _ HRU1.out
    have qf0 := frozen_of_row U (w.heap.size + 1) 0 _ _ HRU1.out
    have q1 := cell_of_row _ (w.heap.size + 1) 1 _ _ _ HRU1.out
    have qf1 := frozen_of_row U (w.heap.size + 1) 1 _ _ HRU1.out
    have q2 := cell_of_row _ (w.heap.size + 1) 2 _ _ _ HRU1.out
    have qf2 := frozen_of_row U (w.heap.size + 1) 2 _ _ HRU1.out
    have q3 := cell_of_row _ (w.heap.size + 1) 3 _ _ _ HRU1.out
    have qf3 := frozen_of_row U (w.heap.size + 1) 3 _ _ HRU1.out
    have q4 := cell_of_row _ (w.heap.size + 1) 4 _ _ _ HRU1.out
    have qf4 := frozen_of_row U (w.heap.size + 1) 4 _ _ HRU1.out
    have q5 := cell_of_row _ (w.heap.size + 1) 5 _ _ _ HRU1.out
    have qf5 := frozen_of_row U (w.heap.size + 1) 5 _ _ HRU1.out
    have q6 := cell_of_row _ (w.heap.size + 1) 6 _ _ _ HRU1.out
    have qf6 := frozen_of_row U (w.heap.size + 1) 6 _ _ HRU1.out
    simp only [List.getElem?_toArray,List.getElem?_cons_succ,List.getElem?_cons_zero] at q0 q1 q2 q3 q4 q5 q6
    have nq : ¬ x6 = w.heap.size + 1 := by have := HX6a.out;have := HLR1.out;have := E3.out.size;omega
    have nq' : ¬ w.heap.size + 1 = x6 := fun e => nq e.symm
    clear hU hw1 hw2 hw3 hw4 hfd5 hfd6 hfd7 x2 x3
    clear r0 r1 r2 r3 r4 r5 r6 r7 r8 r9 ka0 ka1 ka2 ka3 ka4 ka5 ka6 ka7 ka8 ka9 kb0 kb1 kb2 kb3 kb4 kb5 kb6 kb7 kb8 kb9 kc0 kc1 kc2 kc3 kc4 kc5 kc6 kc7 kc8 kc9 kax2 kax3 kbx2 kbx3 kcx2 kcx3 nf6 nx6 nz nz' nW2 nW3
    have fin : ∀ w9,U.grownBy w9 (some (w.heap.size + 1)) → PlanV w9 w.heap.size (.agg (planC k (.slice (some ⟨g,0,none⟩) q gc) T0 D0 W0 S0 (v1.fixed + T0 * v1.perT + D0 * v1.perD))) ⟨k,(List.range q).map (stepM p dd fr V S),T0,D0,W0,S0,v1.fixed + T0 * v1.perT + D0 * v1.perD⟩ ∧ Below w.heap.size w w9 := fun w9 hf => ⟨⟨_,_,_,ys,rfl,(row_set HRU.out hf (fun g' h9 => by rw [← own_blk h9];have := HGA.out;have := HLR1.out;have := E3.out.size;omega) (fun y hy g' h9 => by have h1 := (HYB.out y hy g' h9).1;have h2 := HLR1.out;omega)).mono (by have := HLR.out;omega) (by have := HLR.out;have := E3.out.size;omega),HSE.out,by simp⟩,HLU.out.trans (grw_low hf (Nat.le_succ _) HLU.out.size)⟩
    go_wp2_with fail
    refine bodyPost_ret (v := .agg (planC k (.slice (some ⟨g,0,none⟩) q gc) T0 D0 W0 S0 (v1.fixed + T0 * v1.perT + D0 * v1.perD))) ?_ rfl ⟨_,rfl,?_,(fin _ ?_).2⟩
    ·simp [results,Try.results69,go_sem,planC,q0,q1,q2,q3,q4,q5,q6]
    ·rw [HPE.out]
     refine (fin _ ?_).1
     repeat (first | (with_reducible exact grw_refl _ _) | (with_reducible refine grw_set ?_ _ _))
    ·repeat (first | (with_reducible exact grw_refl _ _) | (with_reducible refine grw_set ?_ _ _))
end Go.Proofs.Ytgjpkpmikbpcnaa
