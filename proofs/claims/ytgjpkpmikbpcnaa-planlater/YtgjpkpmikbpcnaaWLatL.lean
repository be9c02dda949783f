/-
  The law PlanLater: a shift that begins later comes nowhere earlier, with as much driving.
-/
import Derived.Deep.RegionHeld3
import Derived.BigRegion
import Derived.Deep.CutRange
import Derived.Test.YtgjpkpmikbpcnaaWLatC
import Derived.Test.YtgjpkpmikbpcnaaXLinBG
import Derived.Test.YtgjpkpmikbpcnaaXRLd0
import Derived.Test.YtgjpkpmikbpcnaaXPtsG
import Derived.Test.YtgjpkpmikbpcnaaXLdsG
import Derived.Test.YtgjpkpmikbpcnaaXCpVG
import Derived.Test.YtgjpkpmikbpcnaaWSet0
import Derived.Test.YtgjpkpmikbpcnaaXCpX
import Derived.Test.YtgjpkpmikbpcnaaXRChk
import Derived.Test.YtgjpkpmikbpcnaaXLReadsG
import Derived.Test.YtgjpkpmikbpcnaaXPlBG
import Derived.Test.YtgjpkpmikbpcnaaXMin
namespace Go.Proofs.Ytgjpkpmikbpcnaa
open Go.RowKit
theorem hent37 (args : Array Value) (w : World) : (callFunc 37 args).run Try.prog w = .ok (.enter 37 args) w := Go.Proofs.enters_of Try.func37 (by kernel_rfl) rfl args w
theorem hent40 (args : Array Value) (w : World) : (callFunc 40 args).run Try.prog w = .ok (.enter 40 args) w := Go.Proofs.enters_of Try.func40 (by kernel_rfl) rfl args w
set_option maxRecDepth 100000 in
set_option maxHeartbeats 25600000 in
theorem laterL_any {w : World} {x : PrbS} {p : Prb} {m vc : Nat} {va : Option Addr} {V : List Vst} (h : PrbV w x p) (hV : VsV w (.slice va m vc) V) (hm : V.length = m) (hz : va = none → vc = 0) (vi by_ : Int) : Calls Try.prog 13 #[.agg (prbE p x),.int .i64 vi,.slice va m vc,.int .i64 by_] w fun e w' => e = .returned (.bool true) ∧ Below w.heap.size w w' := by
 have HP := hide h
 have HV := hide hV
 have HM := hide hm
 have HZ := hide hz
 have hmb : m * 16 ≤ 140737488351232 := by obtain ⟨_,_,e,hb,_⟩ := hV;rw [← hm];exact hb
 clear hV hm hz
 obtain ⟨ta,tc,da,dc,va',vc',ja,jc,sa,sc,rfl⟩ := h.open
 clear h
 obtain ⟨bb,hbb⟩ : ∃ b,lawM p = b := ⟨_,rfl⟩
 have HL := hide hbb
 clear hbb
 obtain ⟨nv,hnv⟩ : ∃ z,p.vs.length = z := ⟨_,rfl⟩
 have HNV := hide hnv
 have HTE : Hid (prbE p ⟨.slice ta p.time.cells.length tc,.slice da p.dist.cells.length dc,.slice va' p.vs.length vc',.slice ja p.js.length jc,.slice sa p.ss.length sc⟩ = #[.int .i64 p.dims,.int .i64 p.time.n,.slice ta p.time.cells.length tc,.int .i64 p.dist.n,.slice da p.dist.cells.length dc,.slice va' nv vc',.slice ja p.js.length jc,.slice sa p.ss.length sc]) := by show _ = _;rw [← hnv];rfl
 clear hnv
 rw [HTE.out]
 have H16 : Hid (∀ W2,Below w.heap.size w W2 → Calls Try.prog 16 #[.agg #[.int .i64 p.dims,.int .i64 p.time.n,.slice ta p.time.cells.length tc,.int .i64 p.dist.n,.slice da p.dist.cells.length dc,.slice va' nv vc',.slice ja p.js.length jc,.slice sa p.ss.length sc]] W2 fun e w' => e = .returned (.bool bb) ∧ Below W2.heap.size W2 w') := fun W2 hf => by have h9 := lawful12_any (HP.out.on hf);rw [HTE.out,HL.out] at h9;exact h9
 obtain ⟨W,hW⟩ : ∃ W,W = w.alloc (.cells #[.int .i64 p.dims,.int .i64 p.time.n,.slice ta p.time.cells.length tc,.int .i64 p.dist.n,.slice da p.dist.cells.length dc,.slice va' nv vc',.slice ja p.js.length jc,.slice sa p.ss.length sc] 29) := ⟨_,rfl⟩
 have HBW : Hid (Below w.heap.size w W) := by rw [hW];exact (Below.refl _ _).alloc (Nat.le_refl _) _
 have HLW : Hid (w.heap.size < W.heap.size) := by show _ < _;rw [hW];simp
 have HC : Hid (∀ j,W.cell? ⟨w.heap.size,j,none⟩ = (#[.int .i64 p.dims,.int .i64 p.time.n,.slice ta p.time.cells.length tc,.int .i64 p.dist.n,.slice da p.dist.cells.length dc,.slice va' nv vc',.slice ja p.js.length jc,.slice sa p.ss.length sc] : Array Value)[j]?) := fun j => by rw [hW];exact cell_of_row _ _ _ _ _ _ (heap_alloc_new w _)
 cases bb with
 | false =>
  go_enter Try.func13,Try.ntmps13
  go_wp2_with (first | (go_at_call 16;refine (H16.out _ (below_on HBW.out E1.out)).mono ?_;rintro e w2 ⟨rfl,k2⟩;have E2 := hide (below_on E1.out k2);obtain ⟨pb0,pb1,pb2,pb3,pb4,pb5,pb6,pb7⟩ := Mn.c8 (fun j => ((bcell E2.out).1 _ j HLW.out).trans (HC.out j));clear k2 pa0 pa1 pa2 pa3 pa4 pa5 pa6 pa7) | (go_at_call 35;rw [← hW];refine (awake13_any _).mono ?_;rintro e w1 ⟨rfl,k1⟩;have E1 := hide k1;obtain ⟨pa0,pa1,pa2,pa3,pa4,pa5,pa6,pa7⟩ := Mn.c8 (fun j => ((bcell k1).1 _ j HLW.out).trans (HC.out j));clear k1) | fail)
  go_ret
  exact ⟨rfl,below_on HBW.out E2.out⟩
 | true =>
 by_cases hm1 : 30 < m
 ·have y1 : (m : Int) > 30 := by omega
  have y2 : (30 : Int) < (m : Int) := by omega
  go_enter Try.func13,Try.ntmps13
  go_wp2_with (first | (go_at_call 16;refine (H16.out _ (below_on HBW.out E1.out)).mono ?_;rintro e w2 ⟨rfl,k2⟩;have E2 := hide (below_on E1.out k2);obtain ⟨pb0,pb1,pb2,pb3,pb4,pb5,pb6,pb7⟩ := Mn.c8 (fun j => ((bcell E2.out).1 _ j HLW.out).trans (HC.out j));clear k2 pa0 pa1 pa2 pa3 pa4 pa5 pa6 pa7) | (go_at_call 35;rw [← hW];refine (awake13_any _).mono ?_;rintro e w1 ⟨rfl,k1⟩;have E1 := hide k1;obtain ⟨pa0,pa1,pa2,pa3,pa4,pa5,pa6,pa7⟩ := Mn.c8 (fun j => ((bcell k1).1 _ j HLW.out).trans (HC.out j));clear k1) | fail)
  go_ret
  exact ⟨rfl,below_on HBW.out E2.out⟩
 ·have y1 : ¬ (m : Int) > 30 := by omega
  have y2 : ¬ (30 : Int) < (m : Int) := by omega
  have hm3 : m ≤ 30 := by omega
  clear hm1
  by_cases hv0 : vi < 0
  ·go_enter Try.func13,Try.ntmps13
   go_wp2_with (first | (go_at_call 16;refine (H16.out _ (below_on HBW.out E1.out)).mono ?_;rintro e w2 ⟨rfl,k2⟩;have E2 := hide (below_on E1.out k2);obtain ⟨pb0,pb1,pb2,pb3,pb4,pb5,pb6,pb7⟩ := Mn.c8 (fun j => ((bcell E2.out).1 _ j HLW.out).trans (HC.out j));clear k2 pa0 pa1 pa2 pa3 pa4 pa5 pa6 pa7) | (go_at_call 35;rw [← hW];refine (awake13_any _).mono ?_;rintro e w1 ⟨rfl,k1⟩;have E1 := hide k1;obtain ⟨pa0,pa1,pa2,pa3,pa4,pa5,pa6,pa7⟩ := Mn.c8 (fun j => ((bcell k1).1 _ j HLW.out).trans (HC.out j));clear k1) | fail)
   go_ret
   exact ⟨rfl,below_on HBW.out E2.out⟩
  ·by_cases hv1 : (nv : Int) ≤ vi
   ·have hv2 : ¬ vi < (nv : Int) := by omega
    go_enter Try.func13,Try.ntmps13
    go_wp2_with (first | (go_at_call 16;refine (H16.out _ (below_on HBW.out E1.out)).mono ?_;rintro e w2 ⟨rfl,k2⟩;have E2 := hide (below_on E1.out k2);obtain ⟨pb0,pb1,pb2,pb3,pb4,pb5,pb6,pb7⟩ := Mn.c8 (fun j => ((bcell E2.out).1 _ j HLW.out).trans (HC.out j));clear k2 pa0 pa1 pa2 pa3 pa4 pa5 pa6 pa7) | (go_at_call 35;rw [← hW];refine (awake13_any _).mono ?_;rintro e w1 ⟨rfl,k1⟩;have E1 := hide k1;obtain ⟨pa0,pa1,pa2,pa3,pa4,pa5,pa6,pa7⟩ := Mn.c8 (fun j => ((bcell k1).1 _ j HLW.out).trans (HC.out j));clear k1) | fail)
    go_ret
    exact ⟨rfl,below_on HBW.out E2.out⟩
   ·obtain ⟨k,rfl⟩ : ∃ k : Nat,vi = k := ⟨vi.toNat,by omega⟩
    have hk : k < nv := by omega
    have HK : Hid (k < p.vs.length) := by show _ < _;rw [HNV.out];exact hk
    obtain ⟨ca,cc,ba,bc,hcar⟩ := HP.out.car HK.out
    obtain ⟨_,⟨vb,voff,c9,he,hvb,hcs⟩,_,_⟩ := hcar
    simp only at he
    injection he with he1 _ he3
    subst he1 he3
    have hbd := SlV.bound HP.out.v
    rw [HNV.out] at hbd
    obtain ⟨lb,hlb⟩ : ∃ z,(p.vs.getD k vz).brks.length = z := ⟨_,rfl⟩
    rw [hlb] at hcs
    have c10v : w.cell? ⟨vb,voff + k * 11 + 10,none⟩ = some (.slice ba lb bc) := hcs 10 (by decide)
    have HLB := hide hlb
    have HHB : Hid (vb < w.heap.size) := hvb
    clear hcs hlb hvb
    have i1 : (0 : Int) ≤ (k : Int) := by omega
    have i2 : (k : Int) < (nv : Int) := by omega
    have i3 : ¬ (nv : Int) ≤ (k : Int) := by omega
    have i4 : ¬ (k : Int) < 0 := by omega
    by_cases hlb0 : 0 < lb
    ·have y3 : (lb : Int) > 0 := by omega
     have y3' : (0 : Int) < (lb : Int) := by omega
     go_enter Try.func13,Try.ntmps13
     go_wp2_with (first | (go_at_call 16;refine (H16.out _ (below_on HBW.out E1.out)).mono ?_;rintro e w2 ⟨rfl,k2⟩;have E2 := hide (below_on E1.out k2);obtain ⟨pb0,pb1,pb2,pb3,pb4,pb5,pb6,pb7⟩ := Mn.c8 (fun j => ((bcell E2.out).1 _ j HLW.out).trans (HC.out j));have qb10 : w2.cell? ⟨vb,voff + k * 11 + 10,none⟩ = some (.slice ba lb bc) := ((bcell (below_on HBW.out E2.out)).1 _ _ HHB.out).trans c10v;clear k2 pa0 pa1 pa2 pa3 pa4 pa5 pa6 pa7) | (go_at_call 35;rw [← hW];refine (awake13_any _).mono ?_;rintro e w1 ⟨rfl,k1⟩;have E1 := hide k1;obtain ⟨pa0,pa1,pa2,pa3,pa4,pa5,pa6,pa7⟩ := Mn.c8 (fun j => ((bcell k1).1 _ j HLW.out).trans (HC.out j));clear k1) | fail)
     go_ret
     exact ⟨rfl,below_on HBW.out E2.out⟩
    ·have y3 : ¬ (lb : Int) > 0 := by omega
     have y3' : ¬ (0 : Int) < (lb : Int) := by omega
     have HB0 : Hid ((p.vs.getD k vz).brks.length = 0) := by show _ = _;rw [HLB.out];omega
     have hvo := veh_ok (law_veh HL.out HK.out)
     obtain ⟨fr,hfr⟩ : ∃ z,(p.vs.getD k vz).shift.1 = z := ⟨_,rfl⟩
     have hfb := hvo.shift
     rw [hfr] at hfb
     have HFR := hide hfr
     clear hvo hfr
     obtain ⟨r,hr,hr1⟩ := umod_hundred by_
     have H17 : Hid (∀ W2,Below w.heap.size w W2 → Calls Try.prog 17 #[.agg #[.int .i64 p.dims,.int .i64 p.time.n,.slice ta p.time.cells.length tc,.int .i64 p.dist.n,.slice da p.dist.cells.length dc,.slice (some ⟨vb,voff,none⟩) nv vc',.slice ja p.js.length jc,.slice sa p.ss.length sc]] W2 fun e w' => ∃ t3 c3t d3 c3d gv c3v j3 c3j s3 c3s gj gs,e = .returned (.agg #[.int .i64 p.dims,.int .i64 p.time.n,.slice t3 p.time.cells.length c3t,.int .i64 p.dist.n,.slice d3 p.dist.cells.length c3d,.slice (some ⟨gv,0,none⟩) nv c3v,.slice j3 p.js.length c3j,.slice s3 p.ss.length c3s]) ∧ (CpF w' (W2.heap.size + 2) gv gj gs p ⟨.slice t3 p.time.cells.length c3t,.slice d3 p.dist.cells.length c3d,.slice (some ⟨gv,0,none⟩) p.vs.length c3v,.slice j3 p.js.length c3j,.slice s3 p.ss.length c3s⟩ ∧ W2.heap.size + 2 ≤ gv ∧ gv < w'.heap.size ∧ ∀ j,w'.frozen? ⟨gv,j,none⟩ = false) ∧ Below W2.heap.size W2 w') := fun W2 hf => by
      have h9 := copy_any (HP.out.on hf) (by rw [HNV.out];omega)
      rw [HTE.out] at h9
      refine h9.mono ?_
      rintro e w' ⟨t3,c3t,d3,c3d,gv,c3v,j3,c3j,s3,c3s,gj,gs,rfl,hq,k9⟩
      exact ⟨t3,c3t,d3,c3d,gv,c3v,j3,c3j,s3,c3s,gj,gs,by rw [← HNV.out];rfl,hq,k9⟩
     have hwr : IntKind.i64.wrap (r : Int) = (r : Int) := by rw [IntKind.wrap_i64];omega
     have hwy : IntKind.i64.wrap (fr + (r : Int)) = fr + (r : Int) := by rw [IntKind.wrap_i64];omega
     go_enter Try.func13,Try.ntmps13
     go_wp2_with (first | (go_at_call 17;refine (H17.out _ (below_on HBW.out E2.out)).mono ?_;rintro e w3 ⟨t3,c3t,d3,c3d,gv,c3v,j3,c3j,s3,c3s,gj,gs,rfl,⟨hF3,hg1,hg2,hg3⟩,k3⟩;have HF3 := hide hF3;have E3 := hide (below_on E2.out k3);have cg4 : w3.cell? ⟨gv,k * 11 + 4,none⟩ = some (.int .i64 fr) := (by rw [← HFR.out];exact cpf_cell hF3 HK.out rfl);have fg4 := hg3 (k * 11 + 4);have HG1 : Hid (w2.heap.size + 2 ≤ gv) := hg1;have hgl : gv < w3.heap.size := hg2;have ng1 : ¬ gv = w3.heap.size := (by omega);have ng2 : ¬ w3.heap.size = gv := (by omega);clear k3 hF3 hg1 hg2 hg3 qb10 pb0 pb1 pb2 pb3 pb4 pb5 pb6 pb7) | (go_at_call 16;refine (H16.out _ (below_on HBW.out E1.out)).mono ?_;rintro e w2 ⟨rfl,k2⟩;have E2 := hide (below_on E1.out k2);obtain ⟨pb0,pb1,pb2,pb3,pb4,pb5,pb6,pb7⟩ := Mn.c8 (fun j => ((bcell E2.out).1 _ j HLW.out).trans (HC.out j));have qb10 : w2.cell? ⟨vb,voff + k * 11 + 10,none⟩ = some (.slice ba lb bc) := ((bcell (below_on HBW.out E2.out)).1 _ _ HHB.out).trans c10v;clear k2 pa0 pa1 pa2 pa3 pa4 pa5 pa6 pa7) | (go_at_call 35;rw [← hW];refine (awake13_any _).mono ?_;rintro e w1 ⟨rfl,k1⟩;have E1 := hide k1;obtain ⟨pa0,pa1,pa2,pa3,pa4,pa5,pa6,pa7⟩ := Mn.c8 (fun j => ((bcell k1).1 _ j HLW.out).trans (HC.out j));clear k1) | fail)
     obtain ⟨Z,hZ⟩ : ∃ Z,Z = (w3.setCell ⟨gv,k * 11 + 4,none⟩ (.int .i64 (fr + (r : Int)))).alloc (.cells #[.int .i64 p.dims,.int .i64 p.time.n,.slice t3 p.time.cells.length c3t,.int .i64 p.dist.n,.slice d3 p.dist.cells.length c3d,.slice (some ⟨gv,0,none⟩) nv c3v,.slice j3 p.js.length c3j,.slice s3 p.ss.length c3s] 29) := ⟨_,rfl⟩
     rw [← hZ]
     obtain ⟨y,hy⟩ : ∃ y,fr + (r : Int) = y := ⟨_,rfl⟩
     have HPQ : Hid (PrbV Z ⟨.slice t3 p.time.cells.length c3t,.slice d3 p.dist.cells.length c3d,.slice (some ⟨gv,0,none⟩) p.vs.length c3v,.slice j3 p.js.length c3j,.slice s3 p.ss.length c3s⟩ (laterP p k y)) := by show PrbV _ _ _;rw [hZ,hy];exact (later_close HF3.out HK.out rfl).on ((Below.refl _ _).alloc (Nat.le_refl _) _)
     have HQE : Hid (prbE (laterP p k y) ⟨.slice t3 p.time.cells.length c3t,.slice d3 p.dist.cells.length c3d,.slice (some ⟨gv,0,none⟩) p.vs.length c3v,.slice j3 p.js.length c3j,.slice s3 p.ss.length c3s⟩ = #[.int .i64 p.dims,.int .i64 p.time.n,.slice t3 p.time.cells.length c3t,.int .i64 p.dist.n,.slice d3 p.dist.cells.length c3d,.slice (some ⟨gv,0,none⟩) nv c3v,.slice j3 p.js.length c3j,.slice s3 p.ss.length c3s]) := by show _ = _;rw [← HNV.out];rfl
     have HYF : Hid ((p.vs.getD k vz).shift.1 ≤ y) := by show _ ≤ _;rw [HFR.out];omega
     have HQC : Hid (∀ j,Z.cell? ⟨w3.heap.size,j,none⟩ = (#[.int .i64 p.dims,.int .i64 p.time.n,.slice t3 p.time.cells.length c3t,.int .i64 p.dist.n,.slice d3 p.dist.cells.length c3d,.slice (some ⟨gv,0,none⟩) nv c3v,.slice j3 p.js.length c3j,.slice s3 p.ss.length c3s] : Array Value)[j]?) := fun j => by
      rw [hZ]
      have h1 := new_block (w3.setCell ⟨gv,k * 11 + 4,none⟩ (.int .i64 (fr + (r : Int)))) (.cells #[.int .i64 p.dims,.int .i64 p.time.n,.slice t3 p.time.cells.length c3t,.int .i64 p.dist.n,.slice d3 p.dist.cells.length c3d,.slice (some ⟨gv,0,none⟩) nv c3v,.slice j3 p.js.length c3j,.slice s3 p.ss.length c3s] 29)
      rw [show (w3.setCell ⟨gv,k * 11 + 4,none⟩ (.int .i64 (fr + (r : Int)))).heap.size = w3.heap.size from by simp [World.setCell]] at h1
      exact cell_of_row _ _ _ _ _ _ h1
     have EZ : Hid (Below W.heap.size W Z) := by
      show Below _ _ _
      rw [hZ]
      refine (Below.setCell E3.out ?_ _).alloc ?_ _
      rotate_left
      ·rw [show (w3.setCell ⟨gv,k * 11 + 4,none⟩ (.int .i64 (fr + (r : Int)))).heap.size = w3.heap.size from by simp [World.setCell]];exact E3.out.size
      have h1 := HG1.out
      have h2 := E2.out.size
      show W.heap.size ≤ gv
      omega
     have HQL : Hid (w3.heap.size < Z.heap.size) := by show _ < _;rw [hZ];simp [World.setCell]
     clear hZ cg4 fg4 ng1 ng2 hgl hr hr1 hwr hwy hy hfb hbd c10v
     obtain ⟨bq,hbq⟩ : ∃ b,lawM (laterP p k y) = b := ⟨_,rfl⟩
     have HLQ := hide hbq
     clear hbq
     have H16q : Hid (∀ W2,Below Z.heap.size Z W2 → Calls Try.prog 16 #[.agg #[.int .i64 p.dims,.int .i64 p.time.n,.slice t3 p.time.cells.length c3t,.int .i64 p.dist.n,.slice d3 p.dist.cells.length c3d,.slice (some ⟨gv,0,none⟩) nv c3v,.slice j3 p.js.length c3j,.slice s3 p.ss.length c3s]] W2 fun e w' => e = .returned (.bool bq) ∧ Below W2.heap.size W2 w') := fun W2 hf => by have h9 := lawful12_any (HPQ.out.on hf);rw [HQE.out,HLQ.out] at h9;exact h9
     refine (H16q.out _ (Below.refl _ _)).mono ?_
     rintro e w5 ⟨rfl,k5⟩
     have K5 := hide k5
     have E5 := hide (below_on EZ.out K5.out)
     clear k5 H16q
     obtain ⟨pe0,pe1,pe2,pe3,pe4,pe5,pe6,pe7⟩ := Mn.c8 (fun j => ((bcell E5.out).1 _ j HLW.out).trans (HC.out j))
     cases bq with
     | false =>
      go_wp2_with fail
      go_ret
      exact ⟨rfl,below_on HBW.out E5.out⟩
     | true =>
      obtain ⟨er,her⟩ : ∃ z,fitE p (k : Int) V = z := ⟨_,rfl⟩
      obtain ⟨pr,hpr⟩ : ∃ z,fitP p (k : Int) V = z := ⟨_,rfl⟩
      obtain ⟨eq,heq⟩ : ∃ z,fitE (laterP p k y) (k : Int) V = z := ⟨_,rfl⟩
      obtain ⟨pq,hpq⟩ : ∃ z,fitP (laterP p k y) (k : Int) V = z := ⟨_,rfl⟩
      have Her := hide her
      have Hpr := hide hpr
      have Heq := hide heq
      have Hpq := hide hpq
      clear her hpr heq hpq
      have H37 : Hid (∀ W2,Below w.heap.size w W2 → Calls Try.prog 37 #[.slice va m vc] W2 fun e w' => ∃ g c,e = .returned (.slice (some ⟨g,0,none⟩) m c) ∧ (VRow w' W2.heap.size (.slice (some ⟨g,0,none⟩) m c) V ∧ m ≤ c) ∧ Below W2.heap.size W2 w') := fun W2 hf => by have h9 := copiedV_any (PrV.on HV.out hf) HM.out (by omega) HZ.out;exact h9
      have H40 : Hid (∀ W2 x' g c,PrbV W2 x' p → VsV W2 (.slice (some ⟨g,0,none⟩) m c) V → m ≤ c → Calls Try.prog 40 #[.agg (prbE p x'),.int .i64 (k : Int),.slice (some ⟨g,0,none⟩) m c] W2 fun e w' => ∃ pa pn pc,e = .returned (.tuple #[.agg #[.int .i64 pr.veh,.slice pa pn pc,.int .i64 pr.time,.int .i64 pr.dist,.int .i64 pr.wait,.int .i64 pr.serv,.int .i64 pr.cost],.int .i64 er]) ∧ PlanV w' W2.heap.size (.agg #[.int .i64 pr.veh,.slice pa pn pc,.int .i64 pr.time,.int .i64 pr.dist,.int .i64 pr.wait,.int .i64 pr.serv,.int .i64 pr.cost]) pr ∧ Below W2.heap.size W2 w') := fun W2 x' g c hp hv hc => by
       have h9 := fit_any (vi := (k : Int)) hp HL.out hv HM.out (by omega) hc
       rw [Her.out,Hpr.out] at h9
       refine h9.mono ?_
       rintro e w' ⟨u,rfl,hu,k9⟩
       obtain ⟨pa,pn,pc,ys,rfl,_,_,_⟩ := id hu
       exact ⟨pa,pn,pc,rfl,hu,k9⟩
      have H40q : Hid (∀ W2 x' g c,PrbV W2 x' (laterP p k y) → VsV W2 (.slice (some ⟨g,0,none⟩) m c) V → m ≤ c → Calls Try.prog 40 #[.agg (prbE (laterP p k y) x'),.int .i64 (k : Int),.slice (some ⟨g,0,none⟩) m c] W2 fun e w' => ∃ pa pn pc,e = .returned (.tuple #[.agg #[.int .i64 pq.veh,.slice pa pn pc,.int .i64 pq.time,.int .i64 pq.dist,.int .i64 pq.wait,.int .i64 pq.serv,.int .i64 pq.cost],.int .i64 eq]) ∧ PlanV w' W2.heap.size (.agg #[.int .i64 pq.veh,.slice pa pn pc,.int .i64 pq.time,.int .i64 pq.dist,.int .i64 pq.wait,.int .i64 pq.serv,.int .i64 pq.cost]) pq ∧ Below W2.heap.size W2 w') := fun W2 x' g c hp hv hc => by
       have h9 := fit_any (vi := (k : Int)) hp HLQ.out hv HM.out (by omega) hc
       rw [Heq.out,Hpq.out] at h9
       refine h9.mono ?_
       rintro e w' ⟨u,rfl,hu,k9⟩
       obtain ⟨pa,pn,pc,ys,rfl,_,_,_⟩ := id hu
       exact ⟨pa,pn,pc,rfl,hu,k9⟩
      go_wp2_with (first | (go_at_call 40;have h40 := H40.out _ _ _ _ HP7.out HV7.out HC7.out;rw [show prbE p ⟨.slice t6 p.time.cells.length c6t,.slice d6 p.dist.cells.length c6d,.slice (some ⟨gv6,0,none⟩) p.vs.length c6v,.slice j6 p.js.length c6j,.slice s6 p.ss.length c6s⟩ = #[.int .i64 p.dims,.int .i64 p.time.n,.slice t6 p.time.cells.length c6t,.int .i64 p.dist.n,.slice d6 p.dist.cells.length c6d,.slice (some ⟨gv6,0,none⟩) nv c6v,.slice j6 p.js.length c6j,.slice s6 p.ss.length c6s] from by rw [← HNV.out];rfl] at h40;refine h40.mono ?_;rintro e w8 ⟨pa,pn,pc,rfl,hp8,k8⟩;have HPL8 := hide hp8;have K8 := hide (below_on K7.out k8);clear k8 hp8 h40) | (go_at_call 37;refine (H37.out _ (below_on HBW.out E6.out)).mono ?_;rintro e w7 ⟨g7,c7,rfl,⟨R7,hc7⟩,k7⟩;have HV7 := hide (R7.vs (by rw [HM.out];omega));have HC7 := hide hc7;have HP7 := hide (HP6.out.on k7);have K7 := hide (below_on K6.out k7);clear k7 R7 hc7) | (go_at_call 17;refine (H17.out _ (below_on HBW.out E5.out)).mono ?_;rintro e w6 ⟨t6,c6t,d6,c6d,gv6,c6v,j6,c6j,s6,c6s,gj6,gs6,rfl,⟨hF6,_,_,_⟩,k6⟩;have HP6 := hide hF6.prb;have K6 := hide (below_on K5.out k6);have E6 := hide (below_on EZ.out K6.out);clear k6 hF6 pe0 pe1 pe2 pe3 pe4 pe5 pe6 pe7) | fail)
      obtain ⟨z9,hz9⟩ : ∃ z,z = w8.alloc (.cells #[.int .i64 pr.veh,.slice pa pn pc,.int .i64 pr.time,.int .i64 pr.dist,.int .i64 pr.wait,.int .i64 pr.serv,.int .i64 pr.cost] 71) := ⟨_,rfl⟩
      rw [← hz9]
      have HX10 : Hid (z9.heap[w8.heap.size]? = some (.cells #[.int .i64 pr.veh,.slice pa pn pc,.int .i64 pr.time,.int .i64 pr.dist,.int .i64 pr.wait,.int .i64 pr.serv,.int .i64 pr.cost] 71 (0,0))) := by show _ = _;rw [hz9];exact new_block _ _
      have K9 : Hid (Below Z.heap.size Z z9) := by show Below _ _ _;rw [hz9];exact below_on K8.out ((Below.refl _ _).alloc (Nat.le_refl _) _)
      have HPL9 : Hid (PlanV z9 w7.heap.size (.agg #[.int .i64 pr.veh,.slice pa pn pc,.int .i64 pr.time,.int .i64 pr.dist,.int .i64 pr.wait,.int .i64 pr.serv,.int .i64 pr.cost]) pr) := by show PlanV _ _ _ _;rw [hz9];exact HPL8.out.on ((Below.refl _ _).alloc (Nat.le_refl _) _)
      have L89 : Hid (w8.heap.size < z9.heap.size) := lt_of_block HX10.out
      have LQ9 : Hid (w3.heap.size < w8.heap.size) := Nat.lt_of_lt_of_le HQL.out K8.out.size
      clear hz9 HPL8
      obtain ⟨qz0,qz1,qz2,qz3,qz4,qz5,qz6,qz7⟩ := Mn.c8 (fun j => ((bcell K9.out).1 _ j HQL.out).trans (HQC.out j))
      have lq9 : w3.heap.size < z9.heap.size := by have h1 := LQ9.out;have h2 := L89.out;omega
      go_cut [12,13] from 75 to 82 (fun v12 v13 wx => ∃ (x12 : Nat) (pa2 : Option Addr) (pn2 pc2 : Nat),v12 = .pointer (some ⟨x12,0,none⟩) ∧ v13 = .int .i64 eq ∧ z9.heap.size ≤ x12 ∧ Hid (wx.heap[x12]? = some (.cells #[.int .i64 pq.veh,.slice pa2 pn2 pc2,.int .i64 pq.time,.int .i64 pq.dist,.int .i64 pq.wait,.int .i64 pq.serv,.int .i64 pq.cost] 71 (0,0))) ∧ Hid (PlanV wx z9.heap.size (.agg #[.int .i64 pq.veh,.slice pa2 pn2 pc2,.int .i64 pq.time,.int .i64 pq.dist,.int .i64 pq.wait,.int .i64 pq.serv,.int .i64 pq.cost]) pq) ∧ Hid (Below z9.heap.size z9 wx))
      case first =>
       refine wp_region_held_drew (S := (fun w' => w'.cell? ⟨w3.heap.size,0,none⟩ = some (.int .i64 p.dims) ∧ w'.cell? ⟨w3.heap.size,1,none⟩ = some (.int .i64 p.time.n) ∧ w'.cell? ⟨w3.heap.size,2,none⟩ = some (.slice t3 p.time.cells.length c3t) ∧ w'.cell? ⟨w3.heap.size,3,none⟩ = some (.int .i64 p.dist.n) ∧ w'.cell? ⟨w3.heap.size,4,none⟩ = some (.slice d3 p.dist.cells.length c3d) ∧ w'.cell? ⟨w3.heap.size,5,none⟩ = some (.slice (some ⟨gv,0,none⟩) nv c3v) ∧ w'.cell? ⟨w3.heap.size,6,none⟩ = some (.slice j3 p.js.length c3j) ∧ w'.cell? ⟨w3.heap.size,7,none⟩ = some (.slice s3 p.ss.length c3s))) (by kernel_rfl) ?_ (fun hHeld0 => ?_)
       · (try dsimp only);go_keep
       refine Mn.t 0 (oi := ⟨some 76,.load 29 (.tmp 9),29,"law.go:201",#[],none⟩) ?_
       try simp only [Act.put,List.setIfInBounds_toArray]
       refine Mn.t 1 (oi := ⟨some 77,.move (.tmp 1),3,"law.go:201",#[],none⟩) ?_
       try simp only [Act.put,List.setIfInBounds_toArray]
       refine Mn.t 2 (oi := ⟨some 78,.move (.tmp 2),55,"law.go:201",#[],none⟩) ?_
       try simp only [Act.put,List.setIfInBounds_toArray]
       refine wpAnyH_ready (rs := [3,8]) (by kernel_rfl) (by simp) ?_
       refine AllReadyH.cons (o := ⟨some 79,.call { callee := .value (.func 37),args := #[.tmp 78],argTypes := #[55] },55,"law.go:201",#[⟨2,.data⟩],none⟩) rfl (fun K hK => ?_) ?_
       ·(refine held_call (by rfl) 37 _ _ (by rfl) hent37 [.slice va m vc] (by rfl) ?_;refine (H37.out _ (below_on (below_on HBW.out EZ.out) (below_on K9.out ((Below.refl _ _).drew)))).mono ?_;rintro e w10 ⟨g10,c10,rfl,⟨R10,hc10⟩,k10⟩;refine ⟨_,rfl,?_⟩;have HV10 := hide (R10.vs (by rw [HM.out];omega));have HC10 := hide hc10;have M10 := hide (below_on ((Below.refl _ _).drew) k10);have sa0 : w10.cell? ⟨w3.heap.size,0,none⟩ = some (.int .i64 p.dims) := ((bcell M10.out).1 _ 0 lq9).trans qz0;have sa1 : w10.cell? ⟨w3.heap.size,1,none⟩ = some (.int .i64 p.time.n) := ((bcell M10.out).1 _ 1 lq9).trans qz1;have sa2 : w10.cell? ⟨w3.heap.size,2,none⟩ = some (.slice t3 p.time.cells.length c3t) := ((bcell M10.out).1 _ 2 lq9).trans qz2;have sa3 : w10.cell? ⟨w3.heap.size,3,none⟩ = some (.int .i64 p.dist.n) := ((bcell M10.out).1 _ 3 lq9).trans qz3;have sa4 : w10.cell? ⟨w3.heap.size,4,none⟩ = some (.slice d3 p.dist.cells.length c3d) := ((bcell M10.out).1 _ 4 lq9).trans qz4;have sa5 : w10.cell? ⟨w3.heap.size,5,none⟩ = some (.slice (some ⟨gv,0,none⟩) nv c3v) := ((bcell M10.out).1 _ 5 lq9).trans qz5;have sa6 : w10.cell? ⟨w3.heap.size,6,none⟩ = some (.slice j3 p.js.length c3j) := ((bcell M10.out).1 _ 6 lq9).trans qz6;have sa7 : w10.cell? ⟨w3.heap.size,7,none⟩ = some (.slice s3 p.ss.length c3s) := ((bcell M10.out).1 _ 7 lq9).trans qz7;have n10 : z9.heap.size ≤ w10.heap.size := M10.out.size;clear k10 R10 hc10)
        refine hK.out _ _ ?_ (fun hHeld1 => ?_)
        · (try dsimp only);go_keep
        clear hK K
        try simp only [Act.put,List.setIfInBounds_toArray]
        clear hHeld0
        refine wpAnyH_ready (rs := [4,8]) (by kernel_rfl) (by simp) ?_
        refine AllReadyH.cons (o := ⟨some 80,.call { callee := .value (.func 40),args := #[.tmp 76,.tmp 77,.tmp 79],argTypes := #[29,3,55] },72,"law.go:201",#[⟨0,.data⟩,⟨1,.data⟩,⟨3,.data⟩,⟨3,.chain⟩],none⟩) rfl (fun K hK => ?_) ?_
        ·(refine held_call (by rfl) 40 _ _ (by rfl) hent40 [.agg #[.int .i64 p.dims,.int .i64 p.time.n,.slice t3 p.time.cells.length c3t,.int .i64 p.dist.n,.slice d3 p.dist.cells.length c3d,.slice (some ⟨gv,0,none⟩) nv c3v,.slice j3 p.js.length c3j,.slice s3 p.ss.length c3s],.int .i64 (k : Int),.slice (some ⟨g10,0,none⟩) m c10] (by rfl) ?_;have h40 := H40q.out w10 ⟨.slice t3 p.time.cells.length c3t,.slice d3 p.dist.cells.length c3d,.slice (some ⟨gv,0,none⟩) p.vs.length c3v,.slice j3 p.js.length c3j,.slice s3 p.ss.length c3s⟩ g10 c10 (HPQ.out.on (below_on K9.out (below_on M10.out (Below.refl _ _)))) (PrV.on HV10.out (Below.refl _ _)) HC10.out;rw [HQE.out] at h40;refine h40.mono ?_;rintro e w11 ⟨pa2,pn2,pc2,rfl,hp11,k11⟩;refine ⟨_,rfl,?_⟩;have HPL11 := hide hp11;have M11' := hide (below_on (Below.refl _ _) k11);have M11 := hide (below_on M10.out M11'.out);have n11 : w10.heap.size ≤ w11.heap.size := M11'.out.size;have sb0 : w11.cell? ⟨w3.heap.size,0,none⟩ = some (.int .i64 p.dims) := ((bcell M11.out).1 _ 0 lq9).trans qz0;have sb1 : w11.cell? ⟨w3.heap.size,1,none⟩ = some (.int .i64 p.time.n) := ((bcell M11.out).1 _ 1 lq9).trans qz1;have sb2 : w11.cell? ⟨w3.heap.size,2,none⟩ = some (.slice t3 p.time.cells.length c3t) := ((bcell M11.out).1 _ 2 lq9).trans qz2;have sb3 : w11.cell? ⟨w3.heap.size,3,none⟩ = some (.int .i64 p.dist.n) := ((bcell M11.out).1 _ 3 lq9).trans qz3;have sb4 : w11.cell? ⟨w3.heap.size,4,none⟩ = some (.slice d3 p.dist.cells.length c3d) := ((bcell M11.out).1 _ 4 lq9).trans qz4;have sb5 : w11.cell? ⟨w3.heap.size,5,none⟩ = some (.slice (some ⟨gv,0,none⟩) nv c3v) := ((bcell M11.out).1 _ 5 lq9).trans qz5;have sb6 : w11.cell? ⟨w3.heap.size,6,none⟩ = some (.slice j3 p.js.length c3j) := ((bcell M11.out).1 _ 6 lq9).trans qz6;have sb7 : w11.cell? ⟨w3.heap.size,7,none⟩ = some (.slice s3 p.ss.length c3s) := ((bcell M11.out).1 _ 7 lq9).trans qz7;have m80 : ¬ w3.heap.size = w11.heap.size := (by omega);clear k11 hp11 h40)
         refine hK.out _ _ ?_ (fun hHeld2 => ?_)
         · (try dsimp only);go_keep
         clear hK K
         try simp only [Act.put,List.setIfInBounds_toArray]
         clear hHeld1
         refine Mn.t 5 (oi := ⟨some 75,.move (.tmp 80),72,"law.go:201",#[⟨4,.data⟩],none⟩) ?_
         try simp only [Act.put,List.setIfInBounds_toArray]
         refine Mn.t 6 (oi := ⟨some 81,.extract (.tmp 75) 0,71,"law.go:201",#[⟨5,.data⟩],none⟩) ?_
         try simp only [Act.put,List.setIfInBounds_toArray]
         refine Mn.t 7 (oi := ⟨some 82,.extract (.tmp 75) 1,62,"law.go:201",#[⟨5,.data⟩,⟨9,.gcOnly .lateStores⟩],none⟩) ?_
         try simp only [Act.put,List.setIfInBounds_toArray]
         refine wpAnyH_ready (rs := [8]) (by kernel_rfl) (by simp) ?_
         refine AllReadyH.cons (o := ⟨some 12,.alloc 71,0,"law.go:201",#[],none⟩) rfl (fun K hK => ?_) ?_
         ·go_simp
          refine hK.out _ _ ?_ (fun hHeld3 => ?_)
          · (try dsimp only);go_keep
          clear hK K
          try simp only [Act.put,List.setIfInBounds_toArray]
          clear hHeld2
          refine wpAnyH_ready (rs := [9]) (by kernel_rfl) (by simp) ?_
          refine AllReadyH.cons (o := ⟨none,.store 71 (.tmp 12) (.tmp 81),0,"law.go:201",#[⟨8,.data⟩,⟨6,.data⟩,⟨4,.chain⟩,⟨0,.phase⟩,⟨1,.phase⟩,⟨2,.phase⟩,⟨3,.phase⟩,⟨4,.phase⟩,⟨5,.phase⟩,⟨6,.phase⟩,⟨7,.textOnly .lateStores⟩,⟨8,.phase⟩],none⟩) rfl (fun K hK => ?_) ?_
          ·go_simp
           refine hK.out _ _ ?_ (fun hHeld4 => ?_)
           · (try dsimp only);(first | (go_keep;done) | (refine ⟨?_,?_,?_,?_,?_,?_,?_,?_⟩ <;> (refine cell_same (w := w11) ?_ (by assumption);(repeat rw [heap_setCell_other _ _ _ _ (by simp;omega)]))))
           clear hK K
           try simp only [Act.put,List.setIfInBounds_toArray]
           clear hHeld3
           refine Mn.t 10 (oi := ⟨some 13,.assign (.tmp 82),62,"law.go:201",#[⟨7,.data⟩,⟨9,.chain⟩,⟨0,.phase⟩,⟨1,.phase⟩,⟨2,.phase⟩,⟨3,.phase⟩,⟨4,.phase⟩,⟨5,.phase⟩,⟨6,.phase⟩,⟨7,.phase⟩,⟨8,.phase⟩,⟨9,.phase⟩],none⟩) ?_
           try simp only [Act.put,List.setIfInBounds_toArray]
           refine wpAnyH_done (by kernel_rfl) ?_ _
           clear hHeld4
           go_wp2_with fail
           go_meet
           case rel => exact ⟨w11.heap.size,pa2,pn2,pc2,rfl,rfl,by omega,new_block w11 _,PlanV.mono (HPL11.out.on ((Below.refl _ _).alloc (Nat.le_refl _) _)) (by (try simp);(try omega)),below_on M11.out ((Below.refl _ _).alloc (Nat.le_refl _) _)⟩
          exact AllReadyH.nil
         exact AllReadyH.nil
        refine AllReadyH.cons (o := ⟨some 12,.alloc 71,0,"law.go:201",#[],none⟩) rfl (fun K hK => ?_) ?_
        ·go_simp
         refine hK.out _ _ ?_ (fun hHeld5 => ?_)
         · (try dsimp only);go_keep
         clear hK K
         try simp only [Act.put,List.setIfInBounds_toArray]
         clear hHeld1
         refine wpAnyH_ready (rs := [4]) (by kernel_rfl) (by simp) ?_
         refine AllReadyH.cons (o := ⟨some 80,.call { callee := .value (.func 40),args := #[.tmp 76,.tmp 77,.tmp 79],argTypes := #[29,3,55] },72,"law.go:201",#[⟨0,.data⟩,⟨1,.data⟩,⟨3,.data⟩,⟨3,.chain⟩],none⟩) rfl (fun K hK => ?_) ?_
         ·(refine held_call (by rfl) 40 _ _ (by rfl) hent40 [.agg #[.int .i64 p.dims,.int .i64 p.time.n,.slice t3 p.time.cells.length c3t,.int .i64 p.dist.n,.slice d3 p.dist.cells.length c3d,.slice (some ⟨gv,0,none⟩) nv c3v,.slice j3 p.js.length c3j,.slice s3 p.ss.length c3s],.int .i64 (k : Int),.slice (some ⟨g10,0,none⟩) m c10] (by rfl) ?_;have h40 := H40q.out (w10.alloc (.cells #[.int .i64 0,.slice none 0 0,.int .i64 0,.int .i64 0,.int .i64 0,.int .i64 0,.int .i64 0] 71)) ⟨.slice t3 p.time.cells.length c3t,.slice d3 p.dist.cells.length c3d,.slice (some ⟨gv,0,none⟩) p.vs.length c3v,.slice j3 p.js.length c3j,.slice s3 p.ss.length c3s⟩ g10 c10 (HPQ.out.on (below_on K9.out (below_on M10.out ((Below.refl _ _).alloc (Nat.le_refl _) _)))) (PrV.on HV10.out ((Below.refl _ _).alloc (Nat.le_refl _) _)) HC10.out;rw [HQE.out] at h40;refine h40.mono ?_;rintro e w11 ⟨pa2,pn2,pc2,rfl,hp11,k11⟩;refine ⟨_,rfl,?_⟩;have HPL11 := hide hp11;have M11' := hide (below_on ((Below.refl _ _).alloc (Nat.le_refl _) _) k11);have M11 := hide (below_on M10.out M11'.out);have n11 : w10.heap.size ≤ w11.heap.size := M11'.out.size;have sb0 : w11.cell? ⟨w3.heap.size,0,none⟩ = some (.int .i64 p.dims) := ((bcell M11.out).1 _ 0 lq9).trans qz0;have sb1 : w11.cell? ⟨w3.heap.size,1,none⟩ = some (.int .i64 p.time.n) := ((bcell M11.out).1 _ 1 lq9).trans qz1;have sb2 : w11.cell? ⟨w3.heap.size,2,none⟩ = some (.slice t3 p.time.cells.length c3t) := ((bcell M11.out).1 _ 2 lq9).trans qz2;have sb3 : w11.cell? ⟨w3.heap.size,3,none⟩ = some (.int .i64 p.dist.n) := ((bcell M11.out).1 _ 3 lq9).trans qz3;have sb4 : w11.cell? ⟨w3.heap.size,4,none⟩ = some (.slice d3 p.dist.cells.length c3d) := ((bcell M11.out).1 _ 4 lq9).trans qz4;have sb5 : w11.cell? ⟨w3.heap.size,5,none⟩ = some (.slice (some ⟨gv,0,none⟩) nv c3v) := ((bcell M11.out).1 _ 5 lq9).trans qz5;have sb6 : w11.cell? ⟨w3.heap.size,6,none⟩ = some (.slice j3 p.js.length c3j) := ((bcell M11.out).1 _ 6 lq9).trans qz6;have sb7 : w11.cell? ⟨w3.heap.size,7,none⟩ = some (.slice s3 p.ss.length c3s) := ((bcell M11.out).1 _ 7 lq9).trans qz7;have HX8 : Hid (w11.heap[w10.heap.size]? = some (.cells #[.int .i64 0,.slice none 0 0,.int .i64 0,.int .i64 0,.int .i64 0,.int .i64 0,.int .i64 0] 71)) := (k11.block _ (by simp)).trans (heap_alloc_new w10 _);have n81 : w10.heap.size < w11.heap.size := (by have := k11.size;simp at this;omega);have m80 : ¬ w3.heap.size = w10.heap.size := (by omega);obtain ⟨gc0,gc1,gc2,gc3,gc4,gc5,gc6,gf0,gf1,gf2,gf3,gf4,gf5,gf6⟩ := Mn.x7 (HX8.out);clear k11 hp11 h40)
          refine hK.out _ _ ?_ (fun hHeld6 => ?_)
          · (try dsimp only);go_keep
          clear hK K
          try simp only [Act.put,List.setIfInBounds_toArray]
          clear hHeld5
          refine Mn.t 5 (oi := ⟨some 75,.move (.tmp 80),72,"law.go:201",#[⟨4,.data⟩],none⟩) ?_
          try simp only [Act.put,List.setIfInBounds_toArray]
          refine Mn.t 6 (oi := ⟨some 81,.extract (.tmp 75) 0,71,"law.go:201",#[⟨5,.data⟩],none⟩) ?_
          try simp only [Act.put,List.setIfInBounds_toArray]
          refine Mn.t 7 (oi := ⟨some 82,.extract (.tmp 75) 1,62,"law.go:201",#[⟨5,.data⟩,⟨9,.gcOnly .lateStores⟩],none⟩) ?_
          try simp only [Act.put,List.setIfInBounds_toArray]
          refine wpAnyH_ready (rs := [9]) (by kernel_rfl) (by simp) ?_
          refine AllReadyH.cons (o := ⟨none,.store 71 (.tmp 12) (.tmp 81),0,"law.go:201",#[⟨8,.data⟩,⟨6,.data⟩,⟨4,.chain⟩,⟨0,.phase⟩,⟨1,.phase⟩,⟨2,.phase⟩,⟨3,.phase⟩,⟨4,.phase⟩,⟨5,.phase⟩,⟨6,.phase⟩,⟨7,.textOnly .lateStores⟩,⟨8,.phase⟩],none⟩) rfl (fun K hK => ?_) ?_
          ·go_simp
           refine hK.out _ _ ?_ (fun hHeld7 => ?_)
           · (try dsimp only);(first | (go_keep;done) | (refine ⟨?_,?_,?_,?_,?_,?_,?_,?_⟩ <;> (refine cell_same (w := w11) ?_ (by assumption);(repeat rw [heap_setCell_other _ _ _ _ (by simp;omega)]))))
           clear hK K
           try simp only [Act.put,List.setIfInBounds_toArray]
           clear hHeld6
           refine Mn.t 10 (oi := ⟨some 13,.assign (.tmp 82),62,"law.go:201",#[⟨7,.data⟩,⟨9,.chain⟩,⟨0,.phase⟩,⟨1,.phase⟩,⟨2,.phase⟩,⟨3,.phase⟩,⟨4,.phase⟩,⟨5,.phase⟩,⟨6,.phase⟩,⟨7,.phase⟩,⟨8,.phase⟩,⟨9,.phase⟩],none⟩) ?_
           try simp only [Act.put,List.setIfInBounds_toArray]
           refine wpAnyH_done (by kernel_rfl) ?_ _
           clear hHeld7
           go_wp2_with fail
           go_meet
           case rel =>
            obtain ⟨wz,hwz,hz1,hz2⟩ := put7 (.int .i64 pq.veh) (.slice pa2 pn2 pc2) (.int .i64 pq.time) (.int .i64 pq.dist) (.int .i64 pq.wait) (.int .i64 pq.serv) (.int .i64 pq.cost) HX8.out
            rw [← hwz]
            refine ⟨w10.heap.size,pa2,pn2,pc2,rfl,rfl,by omega,hz1,?_,M11.out.trans (grw_low hz2 (by omega) M11.out.size)⟩
            exact PlanV.mono (HPL11.out.set (r := w10.heap.size) hz2 (by (try simp);(try omega))) (by (try simp);(try omega))
          exact AllReadyH.nil
         exact AllReadyH.nil
        exact AllReadyH.nil
       refine AllReadyH.cons (o := ⟨some 12,.alloc 71,0,"law.go:201",#[],none⟩) rfl (fun K hK => ?_) ?_
       ·go_simp
        refine hK.out _ _ ?_ (fun hHeld8 => ?_)
        · (try dsimp only);go_keep
        clear hK K
        try simp only [Act.put,List.setIfInBounds_toArray]
        clear hHeld0
        refine wpAnyH_ready (rs := [3]) (by kernel_rfl) (by simp) ?_
        refine AllReadyH.cons (o := ⟨some 79,.call { callee := .value (.func 37),args := #[.tmp 78],argTypes := #[55] },55,"law.go:201",#[⟨2,.data⟩],none⟩) rfl (fun K hK => ?_) ?_
        ·(refine held_call (by rfl) 37 _ _ (by rfl) hent37 [.slice va m vc] (by rfl) ?_;refine (H37.out _ (below_on (below_on HBW.out EZ.out) (below_on K9.out (below_on ((Below.refl _ _).drew) ((Below.refl _ _).alloc (Nat.le_refl _) _))))).mono ?_;rintro e w10 ⟨g10,c10,rfl,⟨R10,hc10⟩,k10⟩;refine ⟨_,rfl,?_⟩;have HV10 := hide (R10.vs (by rw [HM.out];omega));have HC10 := hide hc10;have M10 := hide (below_on (below_on ((Below.refl _ _).drew) ((Below.refl _ _).alloc (Nat.le_refl _) _)) k10);have sa0 : w10.cell? ⟨w3.heap.size,0,none⟩ = some (.int .i64 p.dims) := ((bcell M10.out).1 _ 0 lq9).trans qz0;have sa1 : w10.cell? ⟨w3.heap.size,1,none⟩ = some (.int .i64 p.time.n) := ((bcell M10.out).1 _ 1 lq9).trans qz1;have sa2 : w10.cell? ⟨w3.heap.size,2,none⟩ = some (.slice t3 p.time.cells.length c3t) := ((bcell M10.out).1 _ 2 lq9).trans qz2;have sa3 : w10.cell? ⟨w3.heap.size,3,none⟩ = some (.int .i64 p.dist.n) := ((bcell M10.out).1 _ 3 lq9).trans qz3;have sa4 : w10.cell? ⟨w3.heap.size,4,none⟩ = some (.slice d3 p.dist.cells.length c3d) := ((bcell M10.out).1 _ 4 lq9).trans qz4;have sa5 : w10.cell? ⟨w3.heap.size,5,none⟩ = some (.slice (some ⟨gv,0,none⟩) nv c3v) := ((bcell M10.out).1 _ 5 lq9).trans qz5;have sa6 : w10.cell? ⟨w3.heap.size,6,none⟩ = some (.slice j3 p.js.length c3j) := ((bcell M10.out).1 _ 6 lq9).trans qz6;have sa7 : w10.cell? ⟨w3.heap.size,7,none⟩ = some (.slice s3 p.ss.length c3s) := ((bcell M10.out).1 _ 7 lq9).trans qz7;have n10 : z9.heap.size ≤ w10.heap.size := M10.out.size;have HX7 : Hid (w10.heap[z9.heap.size]? = some (.cells #[.int .i64 0,.slice none 0 0,.int .i64 0,.int .i64 0,.int .i64 0,.int .i64 0,.int .i64 0] 71)) := (k10.block _ (by simp)).trans (heap_alloc_new z9.drew _);have n71 : z9.heap.size < w10.heap.size := (by have := k10.size;simp at this;omega);clear k10 R10 hc10)
         refine hK.out _ _ ?_ (fun hHeld9 => ?_)
         · (try dsimp only);go_keep
         clear hK K
         try simp only [Act.put,List.setIfInBounds_toArray]
         clear hHeld8
         refine wpAnyH_ready (rs := [4]) (by kernel_rfl) (by simp) ?_
         refine AllReadyH.cons (o := ⟨some 80,.call { callee := .value (.func 40),args := #[.tmp 76,.tmp 77,.tmp 79],argTypes := #[29,3,55] },72,"law.go:201",#[⟨0,.data⟩,⟨1,.data⟩,⟨3,.data⟩,⟨3,.chain⟩],none⟩) rfl (fun K hK => ?_) ?_
         ·(refine held_call (by rfl) 40 _ _ (by rfl) hent40 [.agg #[.int .i64 p.dims,.int .i64 p.time.n,.slice t3 p.time.cells.length c3t,.int .i64 p.dist.n,.slice d3 p.dist.cells.length c3d,.slice (some ⟨gv,0,none⟩) nv c3v,.slice j3 p.js.length c3j,.slice s3 p.ss.length c3s],.int .i64 (k : Int),.slice (some ⟨g10,0,none⟩) m c10] (by rfl) ?_;have h40 := H40q.out w10 ⟨.slice t3 p.time.cells.length c3t,.slice d3 p.dist.cells.length c3d,.slice (some ⟨gv,0,none⟩) p.vs.length c3v,.slice j3 p.js.length c3j,.slice s3 p.ss.length c3s⟩ g10 c10 (HPQ.out.on (below_on K9.out (below_on M10.out (Below.refl _ _)))) (PrV.on HV10.out (Below.refl _ _)) HC10.out;rw [HQE.out] at h40;refine h40.mono ?_;rintro e w11 ⟨pa2,pn2,pc2,rfl,hp11,k11⟩;refine ⟨_,rfl,?_⟩;have HPL11 := hide hp11;have M11' := hide (below_on (Below.refl _ _) k11);have M11 := hide (below_on M10.out M11'.out);have n11 : w10.heap.size ≤ w11.heap.size := M11'.out.size;have sb0 : w11.cell? ⟨w3.heap.size,0,none⟩ = some (.int .i64 p.dims) := ((bcell M11.out).1 _ 0 lq9).trans qz0;have sb1 : w11.cell? ⟨w3.heap.size,1,none⟩ = some (.int .i64 p.time.n) := ((bcell M11.out).1 _ 1 lq9).trans qz1;have sb2 : w11.cell? ⟨w3.heap.size,2,none⟩ = some (.slice t3 p.time.cells.length c3t) := ((bcell M11.out).1 _ 2 lq9).trans qz2;have sb3 : w11.cell? ⟨w3.heap.size,3,none⟩ = some (.int .i64 p.dist.n) := ((bcell M11.out).1 _ 3 lq9).trans qz3;have sb4 : w11.cell? ⟨w3.heap.size,4,none⟩ = some (.slice d3 p.dist.cells.length c3d) := ((bcell M11.out).1 _ 4 lq9).trans qz4;have sb5 : w11.cell? ⟨w3.heap.size,5,none⟩ = some (.slice (some ⟨gv,0,none⟩) nv c3v) := ((bcell M11.out).1 _ 5 lq9).trans qz5;have sb6 : w11.cell? ⟨w3.heap.size,6,none⟩ = some (.slice j3 p.js.length c3j) := ((bcell M11.out).1 _ 6 lq9).trans qz6;have sb7 : w11.cell? ⟨w3.heap.size,7,none⟩ = some (.slice s3 p.ss.length c3s) := ((bcell M11.out).1 _ 7 lq9).trans qz7;have HX8 : Hid (w11.heap[z9.heap.size]? = some (.cells #[.int .i64 0,.slice none 0 0,.int .i64 0,.int .i64 0,.int .i64 0,.int .i64 0,.int .i64 0] 71)) := (M11'.out.block _ n71).trans HX7.out;have m80 : ¬ w3.heap.size = z9.heap.size := (by omega);obtain ⟨gc0,gc1,gc2,gc3,gc4,gc5,gc6,gf0,gf1,gf2,gf3,gf4,gf5,gf6⟩ := Mn.x7 (HX8.out);clear k11 hp11 h40)
          refine hK.out _ _ ?_ (fun hHeld10 => ?_)
          · (try dsimp only);go_keep
          clear hK K
          try simp only [Act.put,List.setIfInBounds_toArray]
          clear hHeld9
          refine Mn.t 5 (oi := ⟨some 75,.move (.tmp 80),72,"law.go:201",#[⟨4,.data⟩],none⟩) ?_
          try simp only [Act.put,List.setIfInBounds_toArray]
          refine Mn.t 6 (oi := ⟨some 81,.extract (.tmp 75) 0,71,"law.go:201",#[⟨5,.data⟩],none⟩) ?_
          try simp only [Act.put,List.setIfInBounds_toArray]
          refine Mn.t 7 (oi := ⟨some 82,.extract (.tmp 75) 1,62,"law.go:201",#[⟨5,.data⟩,⟨9,.gcOnly .lateStores⟩],none⟩) ?_
          try simp only [Act.put,List.setIfInBounds_toArray]
          refine wpAnyH_ready (rs := [9]) (by kernel_rfl) (by simp) ?_
          refine AllReadyH.cons (o := ⟨none,.store 71 (.tmp 12) (.tmp 81),0,"law.go:201",#[⟨8,.data⟩,⟨6,.data⟩,⟨4,.chain⟩,⟨0,.phase⟩,⟨1,.phase⟩,⟨2,.phase⟩,⟨3,.phase⟩,⟨4,.phase⟩,⟨5,.phase⟩,⟨6,.phase⟩,⟨7,.textOnly .lateStores⟩,⟨8,.phase⟩],none⟩) rfl (fun K hK => ?_) ?_
          ·go_simp
           refine hK.out _ _ ?_ (fun hHeld11 => ?_)
           · (try dsimp only);(first | (go_keep;done) | (refine ⟨?_,?_,?_,?_,?_,?_,?_,?_⟩ <;> (refine cell_same (w := w11) ?_ (by assumption);(repeat rw [heap_setCell_other _ _ _ _ (by simp;omega)]))))
           clear hK K
           try simp only [Act.put,List.setIfInBounds_toArray]
           clear hHeld10
           refine Mn.t 10 (oi := ⟨some 13,.assign (.tmp 82),62,"law.go:201",#[⟨7,.data⟩,⟨9,.chain⟩,⟨0,.phase⟩,⟨1,.phase⟩,⟨2,.phase⟩,⟨3,.phase⟩,⟨4,.phase⟩,⟨5,.phase⟩,⟨6,.phase⟩,⟨7,.phase⟩,⟨8,.phase⟩,⟨9,.phase⟩],none⟩) ?_
           try simp only [Act.put,List.setIfInBounds_toArray]
           refine wpAnyH_done (by kernel_rfl) ?_ _
           clear hHeld11
           go_wp2_with fail
           go_meet
           case rel =>
            obtain ⟨wz,hwz,hz1,hz2⟩ := put7 (.int .i64 pq.veh) (.slice pa2 pn2 pc2) (.int .i64 pq.time) (.int .i64 pq.dist) (.int .i64 pq.wait) (.int .i64 pq.serv) (.int .i64 pq.cost) HX8.out
            rw [← hwz]
            refine ⟨z9.heap.size,pa2,pn2,pc2,rfl,rfl,by omega,hz1,?_,M11.out.trans (grw_low hz2 (by omega) M11.out.size)⟩
            exact PlanV.mono (HPL11.out.set (r := z9.heap.size) hz2 (by (try simp);(try omega))) (by (try simp);(try omega))
          exact AllReadyH.nil
         exact AllReadyH.nil
        exact AllReadyH.nil
       exact AllReadyH.nil
      case rest =>
       obtain ⟨x12,pa2,pn2,pc2,rfl,rfl,hx12,HX12,HPL12,M12⟩ := hcut
       clear qz0 qz1 qz2 qz3 qz4 qz5 qz6 qz7 lq9
       rename World => z
       have EE : Hid (Below w.heap.size w z) := below_on (below_on HBW.out EZ.out) (below_on K9.out M12.out)
       by_cases heq0 : eq = 0
       · subst heq0
         have y7 : ((0 : Int) != 0) = false := rfl
         obtain ⟨f1,f2,f3,f4,f5⟩ := lat_fit HL.out HLQ.out HK.out HB0.out HYF.out Heq.out
         rw [Her.out] at f1
         rw [Hpr.out,Hpq.out] at f2
         rw [Hpr.out] at f3
         rw [Hpq.out] at f4
         subst f1
         rw [Hpr.out,Hpq.out] at f5
         have HF5 := hide f5
         have HF2 := hide f2
         obtain ⟨a1,n1,c1,ys1,e1,R1,_,l1⟩ := HPL9.out
         obtain ⟨a2,n2,c2,ys2,e2,R2,_,l2⟩ := HPL12.out
         unfold planC at e1 e2
         injection e1 with e1
         injection e2 with e2
         simp only [Array.mk.injEq,List.cons.injEq,Value.slice.injEq,true_and,and_true] at e1 e2
         obtain ⟨rfl,rfl,rfl⟩ := e1
         obtain ⟨rfl,rfl,rfl⟩ := e2
         rw [f3,HM.out] at l1
         rw [f4,HM.out] at l2
         subst l1 l2
         have HR1 := hide (RowS.on R1 (loc_steps _) M12.out)
         have HR2 := hide R2
         have HX10z := hide ((M12.out.block _ L89.out).trans HX10.out)
         clear R1 R2 f2 f3 f4 f5
         have za1 : z.cell? ⟨w8.heap.size,1,none⟩ = some (.slice pa (m + 2) pc) := cell_of_row _ _ _ _ _ _ HX10z.out
         have za6 : z.cell? ⟨w8.heap.size,6,none⟩ = some (.int .i64 pr.cost) := cell_of_row _ _ _ _ _ _ HX10z.out
         have zb1 : z.cell? ⟨x12,1,none⟩ = some (.slice pa2 (m + 2) pc2) := cell_of_row _ _ _ _ _ _ HX12.out
         have zb6 : z.cell? ⟨x12,6,none⟩ = some (.int .i64 pq.cost) := cell_of_row _ _ _ _ _ _ HX12.out
         rw [HF2.out] at za6
         have y8 : (pq.cost != pq.cost) = false := by simp
         have y9 : (((m + 2 : Nat) : Int) != ((m + 2 : Nat) : Int)) = false := by simp
         obtain ⟨M2,hM2⟩ : ∃ z,m + 2 = z := ⟨_,rfl⟩
         rw [hM2] at za1 zb1 y9 HR1 HR2
         have HM2 := hide hM2
         have hM3 : M2 ≤ 32 := by omega
         clear hM2
         go_wp2_with fail
         go_loopw [106] (fun vi wr => ∃ q : Nat,vi = .int .i64 q ∧ q ≤ M2 ∧ Hid (Below z.heap.size z wr)) (fun vi _ => M2 - (intOf vi).toNat)
         case atStart => exact ⟨0,rfl,Nat.zero_le _,Below.refl _ _⟩
         case round =>
           obtain ⟨q,rfl,hq,HBR⟩ := hrel
           by_cases hqm : q < M2
           · have j1 : (q : Int) < (M2 : Int) := by omega
             have j2 : (0 : Int) ≤ (q : Int) := by omega
             have j3 : ¬ (M2 : Int) ≤ (q : Int) := by omega
             obtain ⟨s1,s2,hs1,hs2,hle,hti⟩ := HF5.out q (by rw [HM.out,HM2.out];exact hqm)
             obtain ⟨g1,y1,yc1,rfl,hg1,hc1,_⟩ := stp_get HR1.out hs1
             obtain ⟨g2,y2,yc2,rfl,hg2,hc2,_⟩ := stp_get HR2.out hs2
             have d1 : wr.cell? ⟨g1,q * 9 + 3,none⟩ = some (.int .i64 s1.arr) := ((bcell HBR.out).1 _ _ hg1).trans (hc1 3 (by decide))
             have d2 : wr.cell? ⟨g1,q * 9 + 7,none⟩ = some (.int .i64 s1.time) := ((bcell HBR.out).1 _ _ hg1).trans (hc1 7 (by decide))
             have d3 : wr.cell? ⟨g2,q * 9 + 3,none⟩ = some (.int .i64 s2.arr) := ((bcell HBR.out).1 _ _ hg2).trans (hc2 3 (by decide))
             have d4 : wr.cell? ⟨g2,q * 9 + 7,none⟩ = some (.int .i64 s2.time) := ((bcell HBR.out).1 _ _ hg2).trans (hc2 7 (by decide))
             rw [hti] at d2
             have lx8 : w8.heap.size < z.heap.size := lt_of_block HX10z.out
             have lx12 : x12 < z.heap.size := lt_of_block HX12.out
             have d5 : wr.cell? ⟨w8.heap.size,1,none⟩ = some (.slice (some ⟨g1,0,none⟩) M2 pc) := ((bcell HBR.out).1 _ _ lx8).trans za1
             have d6 : wr.cell? ⟨x12,1,none⟩ = some (.slice (some ⟨g2,0,none⟩) M2 pc2) := ((bcell HBR.out).1 _ _ lx12).trans zb1
             have y10 : ¬ s1.arr > s2.arr := by omega
             have y10' : ¬ s2.arr < s1.arr := by omega
             have y10b : decide (s2.arr < s1.arr) = false := decide_eq_false y10'
             have y11 : (s2.time != s2.time) = false := by simp
             clear hs1 hs2 hc1 hc2 hti
             go_wp2_with fail
             first | (go_region_held3 (fun w' => w'.cell? ⟨w8.heap.size,1,none⟩ = some (.slice (some ⟨g1,0,none⟩) M2 pc) ∧ w'.cell? ⟨x12,1,none⟩ = some (.slice (some ⟨g2,0,none⟩) M2 pc2) ∧ w'.cell? ⟨g1,q * 9 + 3,none⟩ = some (.int .i64 s1.arr) ∧ w'.cell? ⟨g1,q * 9 + 7,none⟩ = some (.int .i64 s2.time) ∧ w'.cell? ⟨g2,q * 9 + 3,none⟩ = some (.int .i64 s2.arr) ∧ w'.cell? ⟨g2,q * 9 + 7,none⟩ = some (.int .i64 s2.time)) (go_keep) (fail)) | fail
             rename_i hHeld
             clear hHeld
             go_wp2_with fail
             go_roundw
             case rel => exact ⟨q + 1,by go_num,by omega,below_on HBR.out (Below.refl _ _).drew⟩
             case measure => simp [intOf];omega
           · have j1 : ¬ (q : Int) < (M2 : Int) := by omega
             go_wp2_with fail
             go_ret
             exact ⟨rfl,below_on EE.out HBR.out⟩
       · have y7 : (eq != 0) = true := by simpa using heq0
         go_wp2_with fail
         go_ret
         exact ⟨rfl,EE.out⟩
end Go.Proofs.Ytgjpkpmikbpcnaa
