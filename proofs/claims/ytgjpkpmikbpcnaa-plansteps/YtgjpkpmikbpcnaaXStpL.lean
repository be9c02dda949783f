/-
  The law PlanSteps: the program's Of and the document's say the same of any list of visits.
-/
import Derived.Test.YtgjpkpmikbpcnaaXRofO
import Derived.Test.YtgjpkpmikbpcnaaXLoaLG
import Derived.Test.YtgjpkpmikbpcnaaXCpVG
import Derived.Test.YtgjpkpmikbpcnaaXLinBG
import Derived.Test.YtgjpkpmikbpcnaaXMin
namespace Go.Proofs.Ytgjpkpmikbpcnaa
open Go.RowKit
set_option maxRecDepth 100000 in
set_option maxHeartbeats 6400000 in
theorem stepsL_any {w : World} {x : PrbS} {p : Prb} {m vc : Nat} {va : Option Addr} {V : List Vst} (h : PrbV w x p) (hV : VsV w (.slice va m vc) V) (hm : V.length = m) (hz : va = none → vc = 0) (vi : Int) : Calls Try.prog 7 #[.agg (prbE p x),.int .i64 vi,.slice va m vc] w fun e w' => e = .returned (.bool true) ∧ Below w.heap.size w w' := by
 have HP := hide h
 have HV := hide hV
 have HM := hide hm
 have HZ := hide hz
 have hmb : m * 16 ≤ 140737488351232 := by obtain ⟨_,_,e,hb,_⟩ := hV;rw [← hm];exact hb
 clear hV hm hz
 obtain ⟨ta,tc,da,dc,va',vc',ja,jc,sa,sc,rfl⟩ := h.open
 clear h
 obtain ⟨bb,hbb⟩ : ∃ b,lawM p = b := ⟨_,rfl⟩
 have HL := hide hbb
 clear hbb
 have HTE : Hid (prbE p ⟨.slice ta p.time.cells.length tc,.slice da p.dist.cells.length dc,.slice va' p.vs.length vc',.slice ja p.js.length jc,.slice sa p.ss.length sc⟩ = #[.int .i64 p.dims,.int .i64 p.time.n,.slice ta p.time.cells.length tc,.int .i64 p.dist.n,.slice da p.dist.cells.length dc,.slice va' p.vs.length vc',.slice ja p.js.length jc,.slice sa p.ss.length sc]) := rfl
 rw [HTE.out]
 have H16 : Hid (∀ W2,Below w.heap.size w W2 → Calls Try.prog 16 #[.agg #[.int .i64 p.dims,.int .i64 p.time.n,.slice ta p.time.cells.length tc,.int .i64 p.dist.n,.slice da p.dist.cells.length dc,.slice va' p.vs.length vc',.slice ja p.js.length jc,.slice sa p.ss.length sc]] W2 fun e w' => e = .returned (.bool bb) ∧ Below W2.heap.size W2 w') := fun W2 hf => by have h9 := lawful12_any (HP.out.on hf);rw [HL.out] at h9;exact h9
 have H17 : Hid (∀ W2,Below w.heap.size w W2 → Calls Try.prog 17 #[.agg #[.int .i64 p.dims,.int .i64 p.time.n,.slice ta p.time.cells.length tc,.int .i64 p.dist.n,.slice da p.dist.cells.length dc,.slice va' p.vs.length vc',.slice ja p.js.length jc,.slice sa p.ss.length sc]] W2 fun e w' => ∃ x',e = .returned (.agg (prbE p x')) ∧ CpQ w' (W2.heap.size + 2) p x' ∧ Below W2.heap.size W2 w') := fun W2 hf => by have h9 := copied_any (HP.out.on hf);exact h9
 obtain ⟨W,hW⟩ : ∃ W,W = w.alloc (.cells #[.int .i64 p.dims,.int .i64 p.time.n,.slice ta p.time.cells.length tc,.int .i64 p.dist.n,.slice da p.dist.cells.length dc,.slice va' p.vs.length vc',.slice ja p.js.length jc,.slice sa p.ss.length sc] 29) := ⟨_,rfl⟩
 have HBW : Hid (Below w.heap.size w W) := by rw [hW];exact (Below.refl _ _).alloc (Nat.le_refl _) _
 have HLW : Hid (w.heap.size < W.heap.size) := by show _ < _;rw [hW];simp
 have HC : Hid (∀ j,W.cell? ⟨w.heap.size,j,none⟩ = (#[.int .i64 p.dims,.int .i64 p.time.n,.slice ta p.time.cells.length tc,.int .i64 p.dist.n,.slice da p.dist.cells.length dc,.slice va' p.vs.length vc',.slice ja p.js.length jc,.slice sa p.ss.length sc] : Array Value)[j]?) := fun j => by rw [hW];exact cell_of_row _ _ _ _ _ _ (heap_alloc_new w _)
 cases bb with
 | false =>
  go_enter Try.func7,Try.ntmps7
  go_wp2_with (first | (go_at_call 16;refine (H16.out _ (below_on HBW.out E1.out)).mono ?_;rintro e w2 ⟨rfl,k2⟩;have E2 := hide (below_on E1.out k2);obtain ⟨pb0,pb1,pb2,pb3,pb4,pb5,pb6,pb7⟩ := Mn.c8 (fun j => ((bcell E2.out).1 _ j HLW.out).trans (HC.out j));clear k2 pa0 pa1 pa2 pa3 pa4 pa5 pa6 pa7) | (go_at_call 35;rw [← hW];refine (awake13_any _).mono ?_;rintro e w1 ⟨rfl,k1⟩;have E1 := hide k1;obtain ⟨pa0,pa1,pa2,pa3,pa4,pa5,pa6,pa7⟩ := Mn.c8 (fun j => ((bcell k1).1 _ j HLW.out).trans (HC.out j));clear k1) | fail)
  go_ret
  exact ⟨rfl,below_on HBW.out E2.out⟩
 | true =>
 by_cases hm1 : 100 < m
 ·have y1 : (m : Int) > 100 := by omega
  have y2 : (100 : Int) < (m : Int) := by omega
  go_enter Try.func7,Try.ntmps7
  go_wp2_with (first | (go_at_call 16;refine (H16.out _ (below_on HBW.out E1.out)).mono ?_;rintro e w2 ⟨rfl,k2⟩;have E2 := hide (below_on E1.out k2);obtain ⟨pb0,pb1,pb2,pb3,pb4,pb5,pb6,pb7⟩ := Mn.c8 (fun j => ((bcell E2.out).1 _ j HLW.out).trans (HC.out j));clear k2 pa0 pa1 pa2 pa3 pa4 pa5 pa6 pa7) | (go_at_call 35;rw [← hW];refine (awake13_any _).mono ?_;rintro e w1 ⟨rfl,k1⟩;have E1 := hide k1;obtain ⟨pa0,pa1,pa2,pa3,pa4,pa5,pa6,pa7⟩ := Mn.c8 (fun j => ((bcell k1).1 _ j HLW.out).trans (HC.out j));clear k1) | fail)
  go_ret
  exact ⟨rfl,below_on HBW.out E2.out⟩
 ·have y1 : ¬ (m : Int) > 100 := by omega
  have y2 : ¬ (100 : Int) < (m : Int) := by omega
  have hm3 : m ≤ 100 := by omega
  clear hm1
  obtain ⟨er,her⟩ : ∃ z,ofE p vi V = z := ⟨_,rfl⟩
  obtain ⟨pr,hpr⟩ : ∃ z,ofP p vi V = z := ⟨_,rfl⟩
  have HSML := hide (plan_small (vi := vi) (V := V) HL.out (by rw [HM.out];omega))
  rw [hpr] at HSML
  have Her := hide her
  have Hpr := hide hpr
  clear her hpr
  have H37 : Hid (∀ W2,Below w.heap.size w W2 → Calls Try.prog 37 #[.slice va m vc] W2 fun e w' => ∃ g c,e = .returned (.slice (some ⟨g,0,none⟩) m c) ∧ (VRow w' W2.heap.size (.slice (some ⟨g,0,none⟩) m c) V ∧ m ≤ c) ∧ Below W2.heap.size W2 w') := fun W2 hf => by have h9 := copiedV_any (PrV.on HV.out hf) HM.out (by omega) HZ.out;exact h9
  have H36 : Hid (∀ W2 x' a n c U E1 P1,PrbV W2 x' p → VsV W2 (.slice a n c) U → (a = none → c = 0) → U.length = n → n ≤ 100 → ofE p vi U = E1 → ofP p vi U = P1 → Calls Try.prog 36 #[.agg (prbE p x'),.int .i64 vi,.slice a n c] W2 fun e w' => ∃ pa pn pc,e = .returned (.tuple #[.agg #[.int .i64 P1.veh,.slice pa pn pc,.int .i64 P1.time,.int .i64 P1.dist,.int .i64 P1.wait,.int .i64 P1.serv,.int .i64 P1.cost],.int .i64 E1]) ∧ PlanV w' W2.heap.size (.agg #[.int .i64 P1.veh,.slice pa pn pc,.int .i64 P1.time,.int .i64 P1.dist,.int .i64 P1.wait,.int .i64 P1.serv,.int .i64 P1.cost]) P1 ∧ Below W2.heap.size W2 w') := fun W2 x' a n c U E1 P1 hp hv hz hn hn2 he hP => by
   have h9 := pof_any (vi := vi) hp HL.out hv hn hn2 hz
   rw [he,hP] at h9
   refine h9.mono ?_
   rintro e w' ⟨u,rfl,hu,k9⟩
   obtain ⟨pa,pn,pc,ys,rfl,_,_,_⟩ := id hu
   exact ⟨pa,pn,pc,rfl,hu,k9⟩
  have H38 : Hid (∀ W2 a n c U E1 P1,Below w.heap.size w W2 → VsV W2 (.slice a n c) U → U.length = n → n ≤ 100 → ofE p vi U = E1 → ofP p vi U = P1 → Calls Try.prog 38 #[.agg #[.int .i64 p.dims,.int .i64 p.time.n,.slice ta p.time.cells.length tc,.int .i64 p.dist.n,.slice da p.dist.cells.length dc,.slice va' p.vs.length vc',.slice ja p.js.length jc,.slice sa p.ss.length sc],.int .i64 vi,.slice a n c] W2 fun e w' => ∃ pa pn pc,e = .returned (.tuple #[.agg #[.int .i64 P1.veh,.slice pa pn pc,.int .i64 P1.time,.int .i64 P1.dist,.int .i64 P1.wait,.int .i64 P1.serv,.int .i64 P1.cost],.int .i64 E1]) ∧ PlanW w' W2.heap.size (.agg #[.int .i64 P1.veh,.slice pa pn pc,.int .i64 P1.time,.int .i64 P1.dist,.int .i64 P1.wait,.int .i64 P1.serv,.int .i64 P1.cost]) P1 ∧ Below W2.heap.size W2 w') := fun W2 a n c U E1 P1 hf hv hn hn2 he hP => by
   have h9 := rof_any' (vi := vi) (HP.out.on hf) HL.out hv hn hn2
   rw [he,hP] at h9
   refine h9.mono ?_
   rintro e w' ⟨u,rfl,hu,k9⟩
   obtain ⟨pa,pn,pc,ys,rfl,_,_⟩ := id hu
   exact ⟨pa,pn,pc,rfl,hu,k9⟩
  have H39 : Hid (∀ W2 b1 b2 a n c a2 n2 c2,PlanW W2 b1 (.agg #[.int .i64 pr.veh,.slice a n c,.int .i64 pr.time,.int .i64 pr.dist,.int .i64 pr.wait,.int .i64 pr.serv,.int .i64 pr.cost]) pr → PlanW W2 b2 (.agg #[.int .i64 pr.veh,.slice a2 n2 c2,.int .i64 pr.time,.int .i64 pr.dist,.int .i64 pr.wait,.int .i64 pr.serv,.int .i64 pr.cost]) pr → Calls Try.prog 39 #[.agg #[.int .i64 pr.veh,.slice a n c,.int .i64 pr.time,.int .i64 pr.dist,.int .i64 pr.wait,.int .i64 pr.serv,.int .i64 pr.cost],.agg #[.int .i64 pr.veh,.slice a2 n2 c2,.int .i64 pr.time,.int .i64 pr.dist,.int .i64 pr.wait,.int .i64 pr.serv,.int .i64 pr.cost]] W2 fun e w' => e = .returned (.bool true) ∧ Below W2.heap.size W2 w') := fun W2 b1 b2 a n c a2 n2 c2 h1 h2 => same39_w h1 h2 HSML.out.1 HSML.out.2
  have y5 : (er == er) = true := by simp
  go_enter Try.func7,Try.ntmps7
  go_wp2_with (first | (go_at_call 39;refine (H39.out _ _ _ _ _ _ _ _ _ (HPL5.out.w.on (below_on K6.out ((Below.refl _ _).alloc (Nat.le_refl _) _))) (HPL6.out.on ((Below.refl _ _).alloc (Nat.le_refl _) _))).mono ?_;rintro e w7 ⟨rfl,k7⟩;have E7 := hide (below_on (below_on E6.out ((Below.refl _ _).alloc (Nat.le_refl _) _)) k7);clear k7) | (go_at_call 38;refine (H38.out _ _ _ _ V er pr (below_on HBW.out (below_on E5.out ((Below.refl _ _).alloc (Nat.le_refl _) _))) (PrV.on HV.out (below_on HBW.out (below_on E5.out ((Below.refl _ _).alloc (Nat.le_refl _) _)))) HM.out (by omega) Her.out Hpr.out).mono ?_;rintro e w6 ⟨pa2,pn2,pc2,rfl,hp6,k6⟩;have HPL6 := hide hp6;have K6 := hide (below_on ((Below.refl _ _).alloc (Nat.le_refl _) _) k6);have E6 := hide (below_on E5.out K6.out);have HX7 := hide ((k6.block w5.heap.size (by simp)).trans (new_block w5 _));have q0 : w6.cell? ⟨w5.heap.size,0,none⟩ = some (.int .i64 pr.veh) := cell_of_row _ _ _ _ _ _ HX7.out;have q1 : w6.cell? ⟨w5.heap.size,1,none⟩ = some (.slice pa pn pc) := cell_of_row _ _ _ _ _ _ HX7.out;have q2 : w6.cell? ⟨w5.heap.size,2,none⟩ = some (.int .i64 pr.time) := cell_of_row _ _ _ _ _ _ HX7.out;have q3 : w6.cell? ⟨w5.heap.size,3,none⟩ = some (.int .i64 pr.dist) := cell_of_row _ _ _ _ _ _ HX7.out;have q4 : w6.cell? ⟨w5.heap.size,4,none⟩ = some (.int .i64 pr.wait) := cell_of_row _ _ _ _ _ _ HX7.out;have q5 : w6.cell? ⟨w5.heap.size,5,none⟩ = some (.int .i64 pr.serv) := cell_of_row _ _ _ _ _ _ HX7.out;have q6 : w6.cell? ⟨w5.heap.size,6,none⟩ = some (.int .i64 pr.cost) := cell_of_row _ _ _ _ _ _ HX7.out;have l56 : w5.heap.size < w6.heap.size := lt_of_block HX7.out;have n56 : ¬ w5.heap.size = w6.heap.size := (by omega);clear k6 hp6 pe0 pe1 pe2 pe3 pe4 pe5 pe6 pe7) | (go_at_call 36;refine (H36.out _ _ _ _ _ V er pr HP4.out HV4.out (fun e => by cases e) HM.out (by omega) Her.out Hpr.out).mono ?_;rintro e w5 ⟨pa,pn,pc,rfl,hp5,k5⟩;have HPL5 := hide hp5;have E5 := hide (below_on E4.out k5);obtain ⟨pe0,pe1,pe2,pe3,pe4,pe5,pe6,pe7⟩ := Mn.c8 (fun j => ((bcell E5.out).1 _ j HLW.out).trans (HC.out j));have lw5 : w.heap.size < w5.heap.size := Nat.lt_of_lt_of_le HLW.out E5.out.size;have nw5 : ¬ w.heap.size = w5.heap.size := (by omega);clear k5 hp5 pd0 pd1 pd2 pd3 pd4 pd5 pd6 pd7) | (go_at_call 37;refine (H37.out _ (below_on HBW.out E3.out)).mono ?_;rintro e w4 ⟨g4,c4,rfl,⟨R4,hc4⟩,k4⟩;have HV4 := hide (R4.vs (by rw [HM.out];omega));have HC4 := hide hc4;have HP4 := hide (HQ3.out.on k4);have E4 := hide (below_on E3.out k4);obtain ⟨pd0,pd1,pd2,pd3,pd4,pd5,pd6,pd7⟩ := Mn.c8 (fun j => ((bcell E4.out).1 _ j HLW.out).trans (HC.out j));clear k4 R4 hc4 pc0 pc1 pc2 pc3 pc4 pc5 pc6 pc7) | (go_at_call 17;refine (H17.out _ (below_on HBW.out E2.out)).mono ?_;rintro e w3 ⟨x3,rfl,P3,k3⟩;have HQ3 := hide P3.prb;have E3 := hide (below_on E2.out k3);obtain ⟨pc0,pc1,pc2,pc3,pc4,pc5,pc6,pc7⟩ := Mn.c8 (fun j => ((bcell E3.out).1 _ j HLW.out).trans (HC.out j));clear k3 P3 pb0 pb1 pb2 pb3 pb4 pb5 pb6 pb7) | (go_at_call 16;refine (H16.out _ (below_on HBW.out E1.out)).mono ?_;rintro e w2 ⟨rfl,k2⟩;have E2 := hide (below_on E1.out k2);obtain ⟨pb0,pb1,pb2,pb3,pb4,pb5,pb6,pb7⟩ := Mn.c8 (fun j => ((bcell E2.out).1 _ j HLW.out).trans (HC.out j));clear k2 pa0 pa1 pa2 pa3 pa4 pa5 pa6 pa7) | (go_at_call 35;rw [← hW];refine (awake13_any _).mono ?_;rintro e w1 ⟨rfl,k1⟩;have E1 := hide k1;obtain ⟨pa0,pa1,pa2,pa3,pa4,pa5,pa6,pa7⟩ := Mn.c8 (fun j => ((bcell k1).1 _ j HLW.out).trans (HC.out j));clear k1) | fail)
  go_ret
  exact ⟨rfl,below_on HBW.out E7.out⟩
end Go.Proofs.Ytgjpkpmikbpcnaa
