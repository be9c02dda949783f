/-
  The law PlanAlike: a second vehicle that is the same drives the same plan.
-/
import Derived.Deep.CutRange
import Derived.Deep.AppendLies
import Derived.Test.YtgjpkpmikbpcnaaAAlkC
import Derived.Test.YtgjpkpmikbpcnaaALoaLG
import Derived.Test.YtgjpkpmikbpcnaaXCpVG
import Derived.Test.YtgjpkpmikbpcnaaXLinBG
import Derived.Test.YtgjpkpmikbpcnaaAOfD0G
import Derived.Test.YtgjpkpmikbpcnaaXPtsG
import Derived.Test.YtgjpkpmikbpcnaaXMin
namespace Go.Proofs.Ytgjpkpmikbpcnaa
open Go.RowKit
theorem hent17 (args : Array Value) (w : World) : (callFunc 17 args).run Try.prog w = .ok (.enter 17 args) w := Go.Proofs.enters_of Try.func17 (by kernel_rfl) rfl args w
theorem hent37 (args : Array Value) (w : World) : (callFunc 37 args).run Try.prog w = .ok (.enter 37 args) w := Go.Proofs.enters_of Try.func37 (by kernel_rfl) rfl args w
theorem hent40 (args : Array Value) (w : World) : (callFunc 40 args).run Try.prog w = .ok (.enter 40 args) w := Go.Proofs.enters_of Try.func40 (by kernel_rfl) rfl args w
set_option maxRecDepth 100000 in
set_option maxHeartbeats 25600000 in
theorem alikeL_any {w : World} {x : PrbS} {p : Prb} {m vc : Nat} {va : Option Addr} {V : List Vst} (h : PrbV w x p) (hV : VsV w (.slice va m vc) V) (hm : V.length = m) (hz : va = none → vc = 0) (vi : Int) : Calls Try.prog 14 #[.agg (prbE p x),.int .i64 vi,.slice va m vc] w fun e w' => e = .returned (.bool true) ∧ Below w.heap.size w w' := by
 have HP := hide h
 have HV := hide hV
 have HM := hide hm
 have HZ := hide hz
 have hmb : m * 16 ≤ 140737488351232 := by obtain ⟨_,_,e,hb,_⟩ := hV;rw [← hm];exact hb
 clear hV hm hz
 obtain ⟨ta,tc,da,dc,va',vc',ja,jc,sa,sc,rfl⟩ := h.open
 clear h
 obtain ⟨bb,hbb⟩ : ∃ b,lawM p = b := ⟨_,rfl⟩
 have HL := hide hbb
 clear hbb
 obtain ⟨nv,hnv⟩ : ∃ z,p.vs.length = z := ⟨_,rfl⟩
 have HNV := hide hnv
 have HTE : Hid (prbE p ⟨.slice ta p.time.cells.length tc,.slice da p.dist.cells.length dc,.slice va' p.vs.length vc',.slice ja p.js.length jc,.slice sa p.ss.length sc⟩ = #[.int .i64 p.dims,.int .i64 p.time.n,.slice ta p.time.cells.length tc,.int .i64 p.dist.n,.slice da p.dist.cells.length dc,.slice va' nv vc',.slice ja p.js.length jc,.slice sa p.ss.length sc]) := by show _ = _;rw [← hnv];rfl
 clear hnv
 rw [HTE.out]
 have H16 : Hid (∀ W2,Below w.heap.size w W2 → Calls Try.prog 16 #[.agg #[.int .i64 p.dims,.int .i64 p.time.n,.slice ta p.time.cells.length tc,.int .i64 p.dist.n,.slice da p.dist.cells.length dc,.slice va' nv vc',.slice ja p.js.length jc,.slice sa p.ss.length sc]] W2 fun e w' => e = .returned (.bool bb) ∧ Below W2.heap.size W2 w') := fun W2 hf => by have h9 := lawful12_any (HP.out.on hf);rw [HTE.out,HL.out] at h9;exact h9
 obtain ⟨W,hW⟩ : ∃ W,W = w.alloc (.cells #[.int .i64 p.dims,.int .i64 p.time.n,.slice ta p.time.cells.length tc,.int .i64 p.dist.n,.slice da p.dist.cells.length dc,.slice va' nv vc',.slice ja p.js.length jc,.slice sa p.ss.length sc] 29) := ⟨_,rfl⟩
 have HBW : Hid (Below w.heap.size w W) := by rw [hW];exact (Below.refl _ _).alloc (Nat.le_refl _) _
 have HLW : Hid (w.heap.size < W.heap.size) := by show _ < _;rw [hW];simp
 have HC : Hid (∀ j,W.cell? ⟨w.heap.size,j,none⟩ = (#[.int .i64 p.dims,.int .i64 p.time.n,.slice ta p.time.cells.length tc,.int .i64 p.dist.n,.slice da p.dist.cells.length dc,.slice va' nv vc',.slice ja p.js.length jc,.slice sa p.ss.length sc] : Array Value)[j]?) := fun j => by rw [hW];exact cell_of_row _ _ _ _ _ _ (heap_alloc_new w _)
 cases bb with
 | false =>
  go_enter Try.func14,Try.ntmps14
  go_wp2_with (first | (go_at_call 16;refine (H16.out _ (below_on HBW.out E1.out)).mono ?_;rintro e w2 ⟨rfl,k2⟩;have E2 := hide (below_on E1.out k2);obtain ⟨pb0,pb1,pb2,pb3,pb4,pb5,pb6,pb7⟩ := Mn.c8 (fun j => ((bcell E2.out).1 _ j HLW.out).trans (HC.out j));clear k2 pa0 pa1 pa2 pa3 pa4 pa5 pa6 pa7) | (go_at_call 35;rw [← hW];refine (awake13_any _).mono ?_;rintro e w1 ⟨rfl,k1⟩;have E1 := hide k1;obtain ⟨pa0,pa1,pa2,pa3,pa4,pa5,pa6,pa7⟩ := Mn.c8 (fun j => ((bcell k1).1 _ j HLW.out).trans (HC.out j));clear k1) | fail)
  go_ret
  exact ⟨rfl,below_on HBW.out E2.out⟩
 | true =>
 by_cases hm1 : 30 < m
 ·have y1 : (m : Int) > 30 := by omega
  have y2 : (30 : Int) < (m : Int) := by omega
  go_enter Try.func14,Try.ntmps14
  go_wp2_with (first | (go_at_call 16;refine (H16.out _ (below_on HBW.out E1.out)).mono ?_;rintro e w2 ⟨rfl,k2⟩;have E2 := hide (below_on E1.out k2);obtain ⟨pb0,pb1,pb2,pb3,pb4,pb5,pb6,pb7⟩ := Mn.c8 (fun j => ((bcell E2.out).1 _ j HLW.out).trans (HC.out j));clear k2 pa0 pa1 pa2 pa3 pa4 pa5 pa6 pa7) | (go_at_call 35;rw [← hW];refine (awake13_any _).mono ?_;rintro e w1 ⟨rfl,k1⟩;have E1 := hide k1;obtain ⟨pa0,pa1,pa2,pa3,pa4,pa5,pa6,pa7⟩ := Mn.c8 (fun j => ((bcell k1).1 _ j HLW.out).trans (HC.out j));clear k1) | fail)
  go_ret
  exact ⟨rfl,below_on HBW.out E2.out⟩
 ·have y1 : ¬ (m : Int) > 30 := by omega
  have y2 : ¬ (30 : Int) < (m : Int) := by omega
  have hm3 : m ≤ 30 := by omega
  clear hm1
  by_cases hv0 : vi < 0
  ·go_enter Try.func14,Try.ntmps14
   go_wp2_with (first | (go_at_call 16;refine (H16.out _ (below_on HBW.out E1.out)).mono ?_;rintro e w2 ⟨rfl,k2⟩;have E2 := hide (below_on E1.out k2);obtain ⟨pb0,pb1,pb2,pb3,pb4,pb5,pb6,pb7⟩ := Mn.c8 (fun j => ((bcell E2.out).1 _ j HLW.out).trans (HC.out j));clear k2 pa0 pa1 pa2 pa3 pa4 pa5 pa6 pa7) | (go_at_call 35;rw [← hW];refine (awake13_any _).mono ?_;rintro e w1 ⟨rfl,k1⟩;have E1 := hide k1;obtain ⟨pa0,pa1,pa2,pa3,pa4,pa5,pa6,pa7⟩ := Mn.c8 (fun j => ((bcell k1).1 _ j HLW.out).trans (HC.out j));clear k1) | fail)
   go_ret
   exact ⟨rfl,below_on HBW.out E2.out⟩
  ·by_cases hv1 : (nv : Int) ≤ vi
   ·have hv2 : ¬ vi < (nv : Int) := by omega
    go_enter Try.func14,Try.ntmps14
    go_wp2_with (first | (go_at_call 16;refine (H16.out _ (below_on HBW.out E1.out)).mono ?_;rintro e w2 ⟨rfl,k2⟩;have E2 := hide (below_on E1.out k2);obtain ⟨pb0,pb1,pb2,pb3,pb4,pb5,pb6,pb7⟩ := Mn.c8 (fun j => ((bcell E2.out).1 _ j HLW.out).trans (HC.out j));clear k2 pa0 pa1 pa2 pa3 pa4 pa5 pa6 pa7) | (go_at_call 35;rw [← hW];refine (awake13_any _).mono ?_;rintro e w1 ⟨rfl,k1⟩;have E1 := hide k1;obtain ⟨pa0,pa1,pa2,pa3,pa4,pa5,pa6,pa7⟩ := Mn.c8 (fun j => ((bcell k1).1 _ j HLW.out).trans (HC.out j));clear k1) | fail)
    go_ret
    exact ⟨rfl,below_on HBW.out E2.out⟩
   ·obtain ⟨k,rfl⟩ : ∃ k : Nat,vi = k := ⟨vi.toNat,by omega⟩
    have hk : k < nv := by omega
    have HK : Hid (k < p.vs.length) := by show _ < _;rw [HNV.out];exact hk
    have i1 : (0 : Int) ≤ (k : Int) := by omega
    have i2 : (k : Int) < (nv : Int) := by omega
    have i3 : ¬ (nv : Int) ≤ (k : Int) := by omega
    have i4 : ¬ (k : Int) < 0 := by omega
    by_cases hn3 : 3 < nv
    ·have y3 : (nv : Int) > 3 := by omega
     have y3' : (3 : Int) < (nv : Int) := by omega
     go_enter Try.func14,Try.ntmps14
     go_wp2_with (first | (go_at_call 16;refine (H16.out _ (below_on HBW.out E1.out)).mono ?_;rintro e w2 ⟨rfl,k2⟩;have E2 := hide (below_on E1.out k2);obtain ⟨pb0,pb1,pb2,pb3,pb4,pb5,pb6,pb7⟩ := Mn.c8 (fun j => ((bcell E2.out).1 _ j HLW.out).trans (HC.out j));clear k2 pa0 pa1 pa2 pa3 pa4 pa5 pa6 pa7) | (go_at_call 35;rw [← hW];refine (awake13_any _).mono ?_;rintro e w1 ⟨rfl,k1⟩;have E1 := hide k1;obtain ⟨pa0,pa1,pa2,pa3,pa4,pa5,pa6,pa7⟩ := Mn.c8 (fun j => ((bcell k1).1 _ j HLW.out).trans (HC.out j));clear k1) | fail)
     go_ret
     exact ⟨rfl,below_on HBW.out E2.out⟩
    ·have y3 : ¬ (nv : Int) > 3 := by omega
     have y3' : ¬ (3 : Int) < (nv : Int) := by omega
     have hn3b : nv ≤ 3 := by omega
     clear hn3
     obtain ⟨vh,hvh⟩ : ∃ v,p.vs.getD k vz = v := ⟨_,rfl⟩
     obtain ⟨lc,hlc⟩ : ∃ z,vh.cap.length = z := ⟨_,rfl⟩
     obtain ⟨lb,hlb⟩ : ∃ z,vh.brks.length = z := ⟨_,rfl⟩
     have HVH := hide hvh
     have HLC := hide hlc
     have HLB := hide hlb
     clear hvh hlc hlb
     have H17 : Hid (∀ W2,Below w.heap.size w W2 → Calls Try.prog 17 #[.agg #[.int .i64 p.dims,.int .i64 p.time.n,.slice ta p.time.cells.length tc,.int .i64 p.dist.n,.slice da p.dist.cells.length dc,.slice va' nv vc',.slice ja p.js.length jc,.slice sa p.ss.length sc]] W2 fun e w' => ∃ t3 c3t d3 c3d gv c3v j3 c3j s3 c3s gj gs,e = .returned (.agg #[.int .i64 p.dims,.int .i64 p.time.n,.slice t3 p.time.cells.length c3t,.int .i64 p.dist.n,.slice d3 p.dist.cells.length c3d,.slice (some ⟨gv,0,none⟩) nv c3v,.slice j3 p.js.length c3j,.slice s3 p.ss.length c3s]) ∧ (CpF w' (W2.heap.size + 2) gv gj gs p ⟨.slice t3 p.time.cells.length c3t,.slice d3 p.dist.cells.length c3d,.slice (some ⟨gv,0,none⟩) p.vs.length c3v,.slice j3 p.js.length c3j,.slice s3 p.ss.length c3s⟩ ∧ W2.heap.size + 2 ≤ gv ∧ gv < w'.heap.size ∧ ∀ j,w'.frozen? ⟨gv,j,none⟩ = false) ∧ Below W2.heap.size W2 w') := fun W2 hf => by
      have h9 := copy_any (HP.out.on hf) (by rw [HNV.out];omega)
      rw [HTE.out] at h9
      refine h9.mono ?_
      rintro e w' ⟨t3,c3t,d3,c3d,gv,c3v,j3,c3j,s3,c3s,gj,gs,rfl,hq,k9⟩
      exact ⟨t3,c3t,d3,c3d,gv,c3v,j3,c3j,s3,c3s,gj,gs,by rw [← HNV.out];rfl,hq,k9⟩
     have H17b : Hid (∀ W2,Below w.heap.size w W2 → Calls Try.prog 17 #[.agg #[.int .i64 p.dims,.int .i64 p.time.n,.slice ta p.time.cells.length tc,.int .i64 p.dist.n,.slice da p.dist.cells.length dc,.slice va' nv vc',.slice ja p.js.length jc,.slice sa p.ss.length sc]] W2 fun e w' => ∃ t4 c4t d4 c4d vb vo c4v j4 c4j s4 c4s ca cc ba bc,e = .returned (.agg #[.int .i64 p.dims,.int .i64 p.time.n,.slice t4 p.time.cells.length c4t,.int .i64 p.dist.n,.slice d4 p.dist.cells.length c4d,.slice (some ⟨vb,vo,none⟩) nv c4v,.slice j4 p.js.length c4j,.slice s4 p.ss.length c4s]) ∧ ((∀ j,j < 11 → w'.cell? ⟨vb,vo + k * 11 + j,none⟩ = (vehE vh (.slice ca lc cc) (.slice ba lb bc))[j]?) ∧ ∃ G,OVeh w' w' (W2.heap.size + 2) G G vh.brks.length (vehE vh (.slice ca lc cc) (.slice ba lb bc)) vh) ∧ Below W2.heap.size W2 w') := fun W2 hf => by
      have h9 := copy_veh (HP.out.on hf) HK.out HVH.out HLC.out HLB.out HNV.out
      rw [HTE.out] at h9
      exact h9
     go_enter Try.func14,Try.ntmps14
     go_wp2_with (first | (go_at_call 17;refine (H17.out _ (below_on HBW.out E2.out)).mono ?_;rintro e w3 ⟨t3,c3t,d3,c3d,gv,c3v,j3,c3j,s3,c3s,gj,gs,rfl,⟨hF3,hg1,hg2,hg3⟩,k3⟩;have HF3 := hide hF3;have E3 := hide (below_on E2.out k3);have S23 := hide k3.size;have HG1 : Hid (w2.heap.size + 2 ≤ gv) := hg1;have HG2 : Hid (gv < w3.heap.size) := hg2;clear k3 hF3 hg1 hg2 hg3 pb0 pb1 pb2 pb3 pb4 pb5 pb6 pb7) | (go_at_call 16;refine (H16.out _ (below_on HBW.out E1.out)).mono ?_;rintro e w2 ⟨rfl,k2⟩;have E2 := hide (below_on E1.out k2);obtain ⟨pb0,pb1,pb2,pb3,pb4,pb5,pb6,pb7⟩ := Mn.c8 (fun j => ((bcell E2.out).1 _ j HLW.out).trans (HC.out j));clear k2 pa0 pa1 pa2 pa3 pa4 pa5 pa6 pa7) | (go_at_call 35;rw [← hW];refine (awake13_any _).mono ?_;rintro e w1 ⟨rfl,k1⟩;have E1 := hide k1;obtain ⟨pa0,pa1,pa2,pa3,pa4,pa5,pa6,pa7⟩ := Mn.c8 (fun j => ((bcell k1).1 _ j HLW.out).trans (HC.out j));clear k1) | fail)
     obtain ⟨W1,hW1⟩ : ∃ z,w3.alloc (.cells #[.int .i64 p.dims,.int .i64 p.time.n,.slice t3 p.time.cells.length c3t,.int .i64 p.dist.n,.slice d3 p.dist.cells.length c3d,.slice (some ⟨gv,0,none⟩) nv c3v,.slice j3 p.js.length c3j,.slice s3 p.ss.length c3s] 29) = z := ⟨_,rfl⟩
     rw [hW1]
     have HQ1 : Hid (W1.heap[w3.heap.size]? = some (.cells #[.int .i64 p.dims,.int .i64 p.time.n,.slice t3 p.time.cells.length c3t,.int .i64 p.dist.n,.slice d3 p.dist.cells.length c3d,.slice (some ⟨gv,0,none⟩) nv c3v,.slice j3 p.js.length c3j,.slice s3 p.ss.length c3s] 29 (0,0))) := by show _ = _;rw [← hW1];exact new_block _ _
     have KW1 : Hid (Below W.heap.size W W1) := by show Below _ _ _;rw [← hW1];exact below_on E3.out ((Below.refl _ _).alloc (Nat.le_refl _) _)
     have K31 : Hid (Below w3.heap.size w3 W1) := by show Below _ _ _;rw [← hW1];exact (Below.refl _ _).alloc (Nat.le_refl _) _
     clear hW1
     have HS : Hid (∀ w',Below W.heap.size W w' → w'.cell? ⟨w.heap.size,0,none⟩ = some (.int .i64 p.dims) ∧ w'.cell? ⟨w.heap.size,1,none⟩ = some (.int .i64 p.time.n) ∧ w'.cell? ⟨w.heap.size,2,none⟩ = some (.slice ta p.time.cells.length tc) ∧ w'.cell? ⟨w.heap.size,3,none⟩ = some (.int .i64 p.dist.n) ∧ w'.cell? ⟨w.heap.size,4,none⟩ = some (.slice da p.dist.cells.length dc) ∧ w'.cell? ⟨w.heap.size,5,none⟩ = some (.slice va' nv vc') ∧ w'.cell? ⟨w.heap.size,6,none⟩ = some (.slice ja p.js.length jc) ∧ w'.cell? ⟨w.heap.size,7,none⟩ = some (.slice sa p.ss.length sc)) := fun w' hb => ⟨((bcell hb).1 _ 0 HLW.out).trans (HC.out 0),((bcell hb).1 _ 1 HLW.out).trans (HC.out 1),((bcell hb).1 _ 2 HLW.out).trans (HC.out 2),((bcell hb).1 _ 3 HLW.out).trans (HC.out 3),((bcell hb).1 _ 4 HLW.out).trans (HC.out 4),((bcell hb).1 _ 5 HLW.out).trans (HC.out 5),((bcell hb).1 _ 6 HLW.out).trans (HC.out 6),((bcell hb).1 _ 7 HLW.out).trans (HC.out 7)⟩
     have HGW : Hid (W.heap.size ≤ gv) := by show _ ≤ _;have h1 := HG1.out;have h2 := E2.out.size;omega
     have HGQ : Hid (w3.heap.size ≠ gv) := by show _ ≠ _;have h1 := HG2.out;omega
     have HW3 : Hid (W.heap.size ≤ w3.heap.size) := E3.out.size
     obtain ⟨R,r1,r2,r3,r4,r5⟩ := HF3.out.v
     rw [HNV.out] at r1
     have HR1 := hide r1
     have HR2 := hide r2
     have HR5 := hide r5
     clear r1 r2 r3 r4 r5
     obtain ⟨i0,hi0,hz0,hz1,hz2⟩ := info_parts info79
     have HI0 := hide hi0
     have HZ0 := hide hz0
     have HZ1 := hide hz1
     have HZ2 := hide hz2
     clear hi0 hz0 hz1 hz2
     have HPQR : Hid (prbE (alikeP p k) ⟨.slice t3 p.time.cells.length c3t,.slice d3 p.dist.cells.length c3d,.slice none 0 0,.slice j3 p.js.length c3j,.slice s3 p.ss.length c3s⟩ = prbE (alikeP p k) ⟨.slice t3 p.time.cells.length c3t,.slice d3 p.dist.cells.length c3d,.slice none 0 0,.slice j3 p.js.length c3j,.slice s3 p.ss.length c3s⟩) := rfl
     go_cut [7] from 41 to 51 (fun v7 wx => v7 = .pointer (some ⟨w3.heap.size,0,none⟩) ∧ ∃ g9 cap9,Hid (PrbV wx ⟨.slice t3 p.time.cells.length c3t,.slice d3 p.dist.cells.length c3d,.slice (some ⟨g9,0,none⟩) (nv + 1) cap9,.slice j3 p.js.length c3j,.slice s3 p.ss.length c3s⟩ (alikeP p k)) ∧ Hid (wx.heap[w3.heap.size]? = some (.cells #[.int .i64 p.dims,.int .i64 p.time.n,.slice t3 p.time.cells.length c3t,.int .i64 p.dist.n,.slice d3 p.dist.cells.length c3d,.slice (some ⟨g9,0,none⟩) (nv + 1) cap9,.slice j3 p.js.length c3j,.slice s3 p.ss.length c3s] 29 (0,0))) ∧ Hid (Below W.heap.size W wx))
     case first =>
      refine wp_region_held_drew (S := (fun w' => w'.cell? ⟨w.heap.size,0,none⟩ = some (.int .i64 p.dims) ∧ w'.cell? ⟨w.heap.size,1,none⟩ = some (.int .i64 p.time.n) ∧ w'.cell? ⟨w.heap.size,2,none⟩ = some (.slice ta p.time.cells.length tc) ∧ w'.cell? ⟨w.heap.size,3,none⟩ = some (.int .i64 p.dist.n) ∧ w'.cell? ⟨w.heap.size,4,none⟩ = some (.slice da p.dist.cells.length dc) ∧ w'.cell? ⟨w.heap.size,5,none⟩ = some (.slice va' nv vc') ∧ w'.cell? ⟨w.heap.size,6,none⟩ = some (.slice ja p.js.length jc) ∧ w'.cell? ⟨w.heap.size,7,none⟩ = some (.slice sa p.ss.length sc))) (by kernel_rfl) ?_ (fun hHeld0 => ?_)
      ·(try dsimp only);first | exact HS.out _ KW1.out.drew | exact HS.out _ (Below.refl _ _) | exact HS.out _ ((Below.refl _ _).drew) | (go_keep;done)
      obtain ⟨u0,hu0⟩ : ∃ u,W1.drew = u := ⟨_,rfl⟩
      rw [hu0]
      rw [hu0] at hHeld0
      have K0 : Hid (Below W1.heap.size W1 u0) := by show Below _ _ _;rw [← hu0];exact ((Below.refl _ _).drew)
      clear hu0
      have HQ0 := hide ((K0.out.block _ (lt_of_block HQ1.out)).trans HQ1.out)
      have T30 := hide (below_on K31.out K0.out)
      have TZ := T30
      have K0 := hide (below_on KW1.out K0.out)
      refine Mn.t 0 (oi := ⟨some 41,.fieldAddr 29 (.tmp 7) 3,0,"law.go:225",#[],none⟩) ?_
      try simp only [Act.put,List.setIfInBounds_toArray]
      refine Mn.t 2 (oi := ⟨some 43,.load 29 (.tmp 3),29,"law.go:225",#[],none⟩) ?_
      try simp only [Act.put,List.setIfInBounds_toArray]
      refine Mn.t 5 (oi := ⟨some 46,.move (.tmp 1),3,"law.go:225",#[],none⟩) ?_
      try simp only [Act.put,List.setIfInBounds_toArray]
      refine wpAnyH_ready (rs := [1,3]) (by kernel_rfl) (by simp) ?_
      refine AllReadyH.cons (o := ⟨some 42,.load 25 (.tmp 41),25,"law.go:225",#[⟨0,.data⟩],none⟩) rfl (fun K hK => ?_) ?_
      ·(have cqx : u0.cell? ⟨w3.heap.size,5,none⟩ = some (.slice (some ⟨gv,0,none⟩) nv c3v) := cell_of_row _ _ _ _ _ _ HQ0.out;go_simp;clear cqx)
       refine hK.out _ _ ?_ (fun hHeld1 => ?_)
       ·(try dsimp only);exact HS.out _ K0.out
       clear hK K
       try simp only [Act.put,List.setIfInBounds_toArray]
       clear hHeld0
       refine wpAnyH_ready (rs := [3]) (by kernel_rfl) (by simp) ?_
       refine AllReadyH.cons (o := ⟨some 44,.call { callee := .value (.func 17),args := #[.tmp 43],argTypes := #[29] },29,"law.go:225",#[⟨2,.data⟩],none⟩) rfl (fun K hK => ?_) ?_
       ·refine held_call (by rfl) 17 _ _ (by rfl) hent17 [.agg #[.int .i64 p.dims,.int .i64 p.time.n,.slice ta p.time.cells.length tc,.int .i64 p.dist.n,.slice da p.dist.cells.length dc,.slice va' nv vc',.slice ja p.js.length jc,.slice sa p.ss.length sc]] (by rfl) ?_;refine (H17b.out _ (below_on HBW.out K0.out)).mono ?_;rintro e u1 ⟨t4,c4t,d4,c4d,vb,vo,c4v,j4,c4j,s4,c4s,ca,cc,ba,bc,rfl,⟨hcs,G4,q9⟩,k9⟩;refine ⟨_,rfl,?_⟩;have E1 := hide k9;have K1 := hide (below_on K0.out k9);clear k9
        have HQ1 := hide ((E1.out.block _ (lt_of_block HQ0.out)).trans HQ0.out)
        have T31 := hide (below_on T30.out E1.out)
        clear HQ0 T30
        have HVV1 := hide (q9)
        clear q9
        have ce0 : u1.cell? ⟨vb,vo + k * 11,none⟩ = some (.int .i64 vh.start) := hcs 0 (by decide)
        have ce1 : u1.cell? ⟨vb,vo + k * 11 + 1,none⟩ = some (.int .i64 vh.stop) := hcs 1 (by decide)
        have ce2 : u1.cell? ⟨vb,vo + k * 11 + 2,none⟩ = some (.slice ca lc cc) := hcs 2 (by decide)
        have ce3 : u1.cell? ⟨vb,vo + k * 11 + 3,none⟩ = some (.int .u64 vh.skills) := hcs 3 (by decide)
        have ce4 : u1.cell? ⟨vb,vo + k * 11 + 4,none⟩ = some (.int .i64 vh.shift.1) := hcs 4 (by decide)
        have ce5 : u1.cell? ⟨vb,vo + k * 11 + 5,none⟩ = some (.int .i64 vh.shift.2) := hcs 5 (by decide)
        have ce6 : u1.cell? ⟨vb,vo + k * 11 + 6,none⟩ = some (.int .i64 vh.fixed) := hcs 6 (by decide)
        have ce7 : u1.cell? ⟨vb,vo + k * 11 + 7,none⟩ = some (.int .i64 vh.perT) := hcs 7 (by decide)
        have ce8 : u1.cell? ⟨vb,vo + k * 11 + 8,none⟩ = some (.int .i64 vh.perD) := hcs 8 (by decide)
        have ce9 : u1.cell? ⟨vb,vo + k * 11 + 9,none⟩ = some (.int .i64 vh.maxT) := hcs 9 (by decide)
        have ce10 : u1.cell? ⟨vb,vo + k * 11 + 10,none⟩ = some (.slice ba lb bc) := hcs 10 (by decide)
        clear hcs
        refine hK.out _ _ ?_ (fun hHeld2 => ?_)
        ·(try dsimp only);exact HS.out _ K1.out
        clear hK K
        try simp only [Act.put,List.setIfInBounds_toArray]
        clear hHeld1
        refine Mn.t 4 (oi := ⟨some 45,.field 29 (.tmp 44) 3,25,"law.go:225",#[⟨3,.data⟩],none⟩) ?_
        try simp only [Act.put,List.setIfInBounds_toArray]
        refine Mn.t 6 (oi := ⟨some 47,.indexAddr 25 (.tmp 45) (.tmp 46),0,"law.go:225",#[⟨4,.data⟩,⟨5,.data⟩],none⟩) ?_
        try simp only [Act.put,List.setIfInBounds_toArray]
        refine wpAnyH_ready (rs := [7]) (by kernel_rfl) (by simp) ?_
        refine AllReadyH.cons (o := ⟨some 48,.load 86 (.tmp 47),86,"law.go:225",#[⟨6,.data⟩],none⟩) rfl (fun K hK => ?_) ?_
        ·go_simp
         refine hK.out _ _ ?_ (fun hHeld3 => ?_)
         ·(try dsimp only);exact HS.out _ K1.out
         clear hK K
         try simp only [Act.put,List.setIfInBounds_toArray]
         clear hHeld2
         clear ce0 ce1 ce2 ce3 ce4 ce5 ce6 ce7 ce8 ce9 ce10
         refine wpAnyH_ready (rs := [8]) (by kernel_rfl) (by simp) ?_
         refine AllReadyH.cons (o := ⟨some 49,.buildSlice 25 1 #[(0,.tmp 48)],25,"law.go:225",#[⟨7,.data⟩],none⟩) rfl (fun K hK => ?_) ?_
         ·go_simp
          refine hK.out _ _ ?_ (fun hHeld4 => ?_)
          ·(try dsimp only);exact HS.out _ (below_on K1.out ((Below.refl _ _).alloc (Nat.le_refl _) _))
          clear hK K
          try simp only [Act.put,List.setIfInBounds_toArray]
          clear hHeld3
          have LT2 : Hid (u1.heap.size < (u1.alloc (.cells #[.int .i64 vh.start,.int .i64 vh.stop,.slice ca lc cc,.int .u64 vh.skills,.int .i64 vh.shift.1,.int .i64 vh.shift.2,.int .i64 vh.fixed,.int .i64 vh.perT,.int .i64 vh.perD,.int .i64 vh.maxT,.slice ba lb bc] 86)).heap.size) := (by show _ < _;simp)
          obtain ⟨u2,hu2⟩ : ∃ u,u1.alloc (.cells #[.int .i64 vh.start,.int .i64 vh.stop,.slice ca lc cc,.int .u64 vh.skills,.int .i64 vh.shift.1,.int .i64 vh.shift.2,.int .i64 vh.fixed,.int .i64 vh.perT,.int .i64 vh.perD,.int .i64 vh.maxT,.slice ba lb bc] 86) = u := ⟨_,rfl⟩
          rw [hu2]
          rw [hu2] at hHeld4 LT2
          have E2 : Hid (Below u1.heap.size u1 u2) := by show Below _ _ _;rw [← hu2];exact ((Below.refl _ _).alloc (Nat.le_refl _) _)
          have K2 := hide (below_on K1.out E2.out)
          have HQ2 := hide ((E2.out.block _ (lt_of_block HQ1.out)).trans HQ1.out)
          have T32 := hide (below_on T31.out E2.out)
          have HVV2 := hide (HVV1.out.kp (fun b hb _ hl => ⟨E2.out.block b hl,hb⟩))
          clear HQ1 T31 HVV1
          have HNB2 : Hid (u2.heap[u1.heap.size]? = some (.cells #[.int .i64 vh.start,.int .i64 vh.stop,.slice ca lc cc,.int .u64 vh.skills,.int .i64 vh.shift.1,.int .i64 vh.shift.2,.int .i64 vh.fixed,.int .i64 vh.perT,.int .i64 vh.perD,.int .i64 vh.maxT,.slice ba lb bc] 86)) := by show u2.heap[u1.heap.size]? = some (.cells #[.int .i64 vh.start,.int .i64 vh.stop,.slice ca lc cc,.int .u64 vh.skills,.int .i64 vh.shift.1,.int .i64 vh.shift.2,.int .i64 vh.fixed,.int .i64 vh.perT,.int .i64 vh.perD,.int .i64 vh.maxT,.slice ba lb bc] 86);rw [← hu2];exact new_block _ _
          clear hu2
          refine wpAnyH_ready (rs := [9]) (by kernel_rfl) (by simp) ?_
          refine AllReadyH.cons (o := ⟨some 50,.call { callee := .builtin .append,args := #[.tmp 42,.tmp 49],argTypes := #[25,25] },25,"law.go:225",#[⟨1,.data⟩,⟨8,.data⟩,⟨3,.chain⟩],none⟩) rfl (fun K hK => ?_) ?_
          ·(refine step_append_lies _ (by rfl) (.tmp 42) (.tmp 49) 25 (by rfl) (w2.heap.size + 2) 86 i0 _ 11 120 Try.underlying25 HI0.out HZ0.out HZ1.out HZ2.out (by rfl) (by decide) (.slice (some ⟨gv,0,none⟩) nv c3v) nv R.flatten (by rfl) (own_later HR1.out (Nat.le_refl _) T32.out) ⟨u1.heap.size,0,none⟩ 1 1 (vehE vh (.slice ca lc cc) (.slice ba lb bc)) (by rfl) (by rfl) (news_of (l := vehE vh (.slice ca lc cc) (.slice ba lb bc)) HNB2.out) (by simp [vehE,Value.oneCell']) (by decide) (by unfold maxLen;omega) (by omega) (by have h1 := S23.out;have h2 := T32.out.size;have h3 := HG1.out;have h4 := HG2.out;omega) u2.heap.size rfl ?_;intro g9 cap9 w9 hown9 hgrow9 hat9 hlt9;have K9 : Hid (Below W.heap.size W w9) := K2.out.grown hgrow9 K2.out.size (fun q hq => by cases hq;exact HGW.out))
           refine hK.out _ _ ?_ (fun hHeld5 => ?_)
           · (try dsimp only);exact HS.out _ K9.out
           clear hK K
           try simp only [Act.put,List.setIfInBounds_toArray]
           clear hHeld4
           have HQ9 : Hid (w9.heap[w3.heap.size]? = some (.cells #[.int .i64 p.dims,.int .i64 p.time.n,.slice t3 p.time.cells.length c3t,.int .i64 p.dist.n,.slice d3 p.dist.cells.length c3d,.slice (some ⟨gv,0,none⟩) nv c3v,.slice j3 p.js.length c3j,.slice s3 p.ss.length c3s] 29 (0,0))) := (hgrow9.block _ (lt_of_block HQ2.out) (fun e => HGQ.out (by injection e))).trans HQ2.out
           refine Mn.t 10 (oi := ⟨some 51,.fieldAddr 29 (.tmp 7) 3,0,"law.go:225",#[⟨0,.phase⟩,⟨1,.phase⟩,⟨2,.phase⟩,⟨3,.phase⟩,⟨4,.phase⟩,⟨5,.phase⟩,⟨6,.phase⟩,⟨7,.phase⟩,⟨8,.phase⟩,⟨9,.phase⟩],none⟩) ?_
           try simp only [Act.put,List.setIfInBounds_toArray]
           refine wpAnyH_ready (rs := [11]) (by kernel_rfl) (by simp) ?_
           refine AllReadyH.cons (o := ⟨none,.store 25 (.tmp 51) (.tmp 50),0,"law.go:225",#[⟨10,.data⟩,⟨9,.data⟩,⟨9,.chain⟩,⟨0,.phase⟩,⟨1,.phase⟩,⟨2,.phase⟩,⟨3,.phase⟩,⟨4,.phase⟩,⟨5,.phase⟩,⟨6,.phase⟩,⟨7,.phase⟩,⟨8,.phase⟩,⟨9,.phase⟩],none⟩) rfl (fun K hK => ?_) ?_
           · (have cqx : w9.cell? ⟨w3.heap.size,5,none⟩ = some (.slice (some ⟨gv,0,none⟩) nv c3v) := cell_of_row _ _ _ _ _ _ HQ9.out;have fqx : w9.frozen? ⟨w3.heap.size,5,none⟩ = false := frz_row HQ9.out;go_simp;clear cqx fqx)
             refine hK.out _ _ ?_ (fun hHeld6 => ?_)
             · (try dsimp only);exact HS.out _ (Below.setCell K9.out HW3.out _)
             clear hK K
             try simp only [Act.put,List.setIfInBounds_toArray]
             clear hHeld5
             refine wpAnyH_done (by kernel_rfl) ?_ _
             clear hHeld6
             go_wp2_with fail
             go_meet
             have hs9 := heap_setCell_same w9 w3.heap.size 5 _ 29 (.slice (some ⟨g9,0,none⟩) (nv + 1) cap9) HQ9.out
             simp only [List.setIfInBounds_toArray,List.set_cons_succ,List.set_cons_zero] at hs9
             case rel =>
              refine ⟨rfl,g9,cap9,?_,hs9,Below.setCell K9.out HW3.out _⟩
              have hk9 : ∀ b,b < w3.heap.size → b ≠ gv → (w9.setCell ⟨w3.heap.size,5,none⟩ (.slice (some ⟨g9,0,none⟩) (nv + 1) cap9)).heap[b]? = w3.heap[b]? := fun b hb hne => by
               rw [heap_setCell_other _ _ _ _ (by simp only;omega),hgrow9.block b (Nat.lt_of_lt_of_le hb T32.out.size) (fun e => hne (by injection e with e;first | done | exact e | exact e.symm)),T32.out.block b hb]
              have ho9 : (w9.setCell ⟨w3.heap.size,5,none⟩ (.slice (some ⟨g9,0,none⟩) (nv + 1) cap9)).ownsRow (w2.heap.size + 2) 86 11 (.slice (some ⟨g9,0,none⟩) (p.vs.length + 1) cap9) (p.vs.length + 1) (R.flatten ++ vehE vh (.slice ca lc cc) (.slice ba lb bc)) := by
               rw [HNV.out]
               refine own_of_block hown9 fun b hb => heap_setCell_other _ _ _ _ ?_
               cases hb
               simp only
               rcases hat9 with e | e
               ·injection e with e;(try simp only at e);have h1 : w3.heap.size ≠ gv := HGQ.out;omega
               ·have h1 := lt_of_block HQ2.out;omega
              have hn9 : VehV (w9.setCell ⟨w3.heap.size,5,none⟩ (.slice (some ⟨g9,0,none⟩) (nv + 1) cap9)) (vehE vh (.slice ca lc cc) (.slice ba lb bc)) vh := VehV.of_o (HVV2.out.kp (fun b hb hge hl => ⟨by rw [heap_setCell_other _ _ _ _ (by have h1 := TZ.out.size;simp only;omega),hgrow9.block b hl (fun e => by have h1 := TZ.out.size;have h2 : gv < w3.heap.size := HG2.out;injection e with e;(try simp only at e);omega)],hb⟩))
              have hq9 := alike_close (k := k) HF3.out HVH.out hk9 HR2.out HR5.out ho9 hn9 (by simp [vehE,Value.oneCell']) (by rw [HNV.out];omega)
              rw [HNV.out] at hq9
              exact hq9
           exact AllReadyH.nil
          exact AllReadyH.nil
         exact AllReadyH.nil
        exact AllReadyH.nil
       exact AllReadyH.nil
      refine AllReadyH.cons (o := ⟨some 44,.call { callee := .value (.func 17),args := #[.tmp 43],argTypes := #[29] },29,"law.go:225",#[⟨2,.data⟩],none⟩) rfl (fun K hK => ?_) ?_
      ·refine held_call (by rfl) 17 _ _ (by rfl) hent17 [.agg #[.int .i64 p.dims,.int .i64 p.time.n,.slice ta p.time.cells.length tc,.int .i64 p.dist.n,.slice da p.dist.cells.length dc,.slice va' nv vc',.slice ja p.js.length jc,.slice sa p.ss.length sc]] (by rfl) ?_;refine (H17b.out _ (below_on HBW.out K0.out)).mono ?_;rintro e u1 ⟨t4,c4t,d4,c4d,vb,vo,c4v,j4,c4j,s4,c4s,ca,cc,ba,bc,rfl,⟨hcs,G4,q9⟩,k9⟩;refine ⟨_,rfl,?_⟩;have E1 := hide k9;have K1 := hide (below_on K0.out k9);clear k9
       have HQ1 := hide ((E1.out.block _ (lt_of_block HQ0.out)).trans HQ0.out)
       have T31 := hide (below_on T30.out E1.out)
       clear HQ0 T30
       have HVV1 := hide (q9)
       clear q9
       have ce0 : u1.cell? ⟨vb,vo + k * 11,none⟩ = some (.int .i64 vh.start) := hcs 0 (by decide)
       have ce1 : u1.cell? ⟨vb,vo + k * 11 + 1,none⟩ = some (.int .i64 vh.stop) := hcs 1 (by decide)
       have ce2 : u1.cell? ⟨vb,vo + k * 11 + 2,none⟩ = some (.slice ca lc cc) := hcs 2 (by decide)
       have ce3 : u1.cell? ⟨vb,vo + k * 11 + 3,none⟩ = some (.int .u64 vh.skills) := hcs 3 (by decide)
       have ce4 : u1.cell? ⟨vb,vo + k * 11 + 4,none⟩ = some (.int .i64 vh.shift.1) := hcs 4 (by decide)
       have ce5 : u1.cell? ⟨vb,vo + k * 11 + 5,none⟩ = some (.int .i64 vh.shift.2) := hcs 5 (by decide)
       have ce6 : u1.cell? ⟨vb,vo + k * 11 + 6,none⟩ = some (.int .i64 vh.fixed) := hcs 6 (by decide)
       have ce7 : u1.cell? ⟨vb,vo + k * 11 + 7,none⟩ = some (.int .i64 vh.perT) := hcs 7 (by decide)
       have ce8 : u1.cell? ⟨vb,vo + k * 11 + 8,none⟩ = some (.int .i64 vh.perD) := hcs 8 (by decide)
       have ce9 : u1.cell? ⟨vb,vo + k * 11 + 9,none⟩ = some (.int .i64 vh.maxT) := hcs 9 (by decide)
       have ce10 : u1.cell? ⟨vb,vo + k * 11 + 10,none⟩ = some (.slice ba lb bc) := hcs 10 (by decide)
       clear hcs
       refine hK.out _ _ ?_ (fun hHeld7 => ?_)
       ·(try dsimp only);exact HS.out _ K1.out
       clear hK K
       try simp only [Act.put,List.setIfInBounds_toArray]
       clear hHeld0
       refine Mn.t 4 (oi := ⟨some 45,.field 29 (.tmp 44) 3,25,"law.go:225",#[⟨3,.data⟩],none⟩) ?_
       try simp only [Act.put,List.setIfInBounds_toArray]
       refine Mn.t 6 (oi := ⟨some 47,.indexAddr 25 (.tmp 45) (.tmp 46),0,"law.go:225",#[⟨4,.data⟩,⟨5,.data⟩],none⟩) ?_
       try simp only [Act.put,List.setIfInBounds_toArray]
       refine wpAnyH_ready (rs := [1,7]) (by kernel_rfl) (by simp) ?_
       refine AllReadyH.cons (o := ⟨some 42,.load 25 (.tmp 41),25,"law.go:225",#[⟨0,.data⟩],none⟩) rfl (fun K hK => ?_) ?_
       ·(have cqx : u1.cell? ⟨w3.heap.size,5,none⟩ = some (.slice (some ⟨gv,0,none⟩) nv c3v) := cell_of_row _ _ _ _ _ _ HQ1.out;go_simp;clear cqx)
        refine hK.out _ _ ?_ (fun hHeld8 => ?_)
        ·(try dsimp only);exact HS.out _ K1.out
        clear hK K
        try simp only [Act.put,List.setIfInBounds_toArray]
        clear hHeld7
        refine wpAnyH_ready (rs := [7]) (by kernel_rfl) (by simp) ?_
        refine AllReadyH.cons (o := ⟨some 48,.load 86 (.tmp 47),86,"law.go:225",#[⟨6,.data⟩],none⟩) rfl (fun K hK => ?_) ?_
        ·go_simp
         refine hK.out _ _ ?_ (fun hHeld9 => ?_)
         ·(try dsimp only);exact HS.out _ K1.out
         clear hK K
         try simp only [Act.put,List.setIfInBounds_toArray]
         clear hHeld8
         clear ce0 ce1 ce2 ce3 ce4 ce5 ce6 ce7 ce8 ce9 ce10
         refine wpAnyH_ready (rs := [8]) (by kernel_rfl) (by simp) ?_
         refine AllReadyH.cons (o := ⟨some 49,.buildSlice 25 1 #[(0,.tmp 48)],25,"law.go:225",#[⟨7,.data⟩],none⟩) rfl (fun K hK => ?_) ?_
         ·go_simp
          refine hK.out _ _ ?_ (fun hHeld10 => ?_)
          ·(try dsimp only);exact HS.out _ (below_on K1.out ((Below.refl _ _).alloc (Nat.le_refl _) _))
          clear hK K
          try simp only [Act.put,List.setIfInBounds_toArray]
          clear hHeld9
          have LT2 : Hid (u1.heap.size < (u1.alloc (.cells #[.int .i64 vh.start,.int .i64 vh.stop,.slice ca lc cc,.int .u64 vh.skills,.int .i64 vh.shift.1,.int .i64 vh.shift.2,.int .i64 vh.fixed,.int .i64 vh.perT,.int .i64 vh.perD,.int .i64 vh.maxT,.slice ba lb bc] 86)).heap.size) := (by show _ < _;simp)
          obtain ⟨u2,hu2⟩ : ∃ u,u1.alloc (.cells #[.int .i64 vh.start,.int .i64 vh.stop,.slice ca lc cc,.int .u64 vh.skills,.int .i64 vh.shift.1,.int .i64 vh.shift.2,.int .i64 vh.fixed,.int .i64 vh.perT,.int .i64 vh.perD,.int .i64 vh.maxT,.slice ba lb bc] 86) = u := ⟨_,rfl⟩
          rw [hu2]
          rw [hu2] at hHeld10 LT2
          have E2 : Hid (Below u1.heap.size u1 u2) := by show Below _ _ _;rw [← hu2];exact ((Below.refl _ _).alloc (Nat.le_refl _) _)
          have K2 := hide (below_on K1.out E2.out)
          have HQ2 := hide ((E2.out.block _ (lt_of_block HQ1.out)).trans HQ1.out)
          have T32 := hide (below_on T31.out E2.out)
          have HVV2 := hide (HVV1.out.kp (fun b hb _ hl => ⟨E2.out.block b hl,hb⟩))
          clear HQ1 T31 HVV1
          have HNB2 : Hid (u2.heap[u1.heap.size]? = some (.cells #[.int .i64 vh.start,.int .i64 vh.stop,.slice ca lc cc,.int .u64 vh.skills,.int .i64 vh.shift.1,.int .i64 vh.shift.2,.int .i64 vh.fixed,.int .i64 vh.perT,.int .i64 vh.perD,.int .i64 vh.maxT,.slice ba lb bc] 86)) := by show u2.heap[u1.heap.size]? = some (.cells #[.int .i64 vh.start,.int .i64 vh.stop,.slice ca lc cc,.int .u64 vh.skills,.int .i64 vh.shift.1,.int .i64 vh.shift.2,.int .i64 vh.fixed,.int .i64 vh.perT,.int .i64 vh.perD,.int .i64 vh.maxT,.slice ba lb bc] 86);rw [← hu2];exact new_block _ _
          clear hu2
          refine wpAnyH_ready (rs := [9]) (by kernel_rfl) (by simp) ?_
          refine AllReadyH.cons (o := ⟨some 50,.call { callee := .builtin .append,args := #[.tmp 42,.tmp 49],argTypes := #[25,25] },25,"law.go:225",#[⟨1,.data⟩,⟨8,.data⟩,⟨3,.chain⟩],none⟩) rfl (fun K hK => ?_) ?_
          ·(refine step_append_lies _ (by rfl) (.tmp 42) (.tmp 49) 25 (by rfl) (w2.heap.size + 2) 86 i0 _ 11 120 Try.underlying25 HI0.out HZ0.out HZ1.out HZ2.out (by rfl) (by decide) (.slice (some ⟨gv,0,none⟩) nv c3v) nv R.flatten (by rfl) (own_later HR1.out (Nat.le_refl _) T32.out) ⟨u1.heap.size,0,none⟩ 1 1 (vehE vh (.slice ca lc cc) (.slice ba lb bc)) (by rfl) (by rfl) (news_of (l := vehE vh (.slice ca lc cc) (.slice ba lb bc)) HNB2.out) (by simp [vehE,Value.oneCell']) (by decide) (by unfold maxLen;omega) (by omega) (by have h1 := S23.out;have h2 := T32.out.size;have h3 := HG1.out;have h4 := HG2.out;omega) u2.heap.size rfl ?_;intro g9 cap9 w9 hown9 hgrow9 hat9 hlt9;have K9 : Hid (Below W.heap.size W w9) := K2.out.grown hgrow9 K2.out.size (fun q hq => by cases hq;exact HGW.out))
           refine hK.out _ _ ?_ (fun hHeld11 => ?_)
           · (try dsimp only);exact HS.out _ K9.out
           clear hK K
           try simp only [Act.put,List.setIfInBounds_toArray]
           clear hHeld10
           have HQ9 : Hid (w9.heap[w3.heap.size]? = some (.cells #[.int .i64 p.dims,.int .i64 p.time.n,.slice t3 p.time.cells.length c3t,.int .i64 p.dist.n,.slice d3 p.dist.cells.length c3d,.slice (some ⟨gv,0,none⟩) nv c3v,.slice j3 p.js.length c3j,.slice s3 p.ss.length c3s] 29 (0,0))) := (hgrow9.block _ (lt_of_block HQ2.out) (fun e => HGQ.out (by injection e))).trans HQ2.out
           refine Mn.t 10 (oi := ⟨some 51,.fieldAddr 29 (.tmp 7) 3,0,"law.go:225",#[⟨0,.phase⟩,⟨1,.phase⟩,⟨2,.phase⟩,⟨3,.phase⟩,⟨4,.phase⟩,⟨5,.phase⟩,⟨6,.phase⟩,⟨7,.phase⟩,⟨8,.phase⟩,⟨9,.phase⟩],none⟩) ?_
           try simp only [Act.put,List.setIfInBounds_toArray]
           refine wpAnyH_ready (rs := [11]) (by kernel_rfl) (by simp) ?_
           refine AllReadyH.cons (o := ⟨none,.store 25 (.tmp 51) (.tmp 50),0,"law.go:225",#[⟨10,.data⟩,⟨9,.data⟩,⟨9,.chain⟩,⟨0,.phase⟩,⟨1,.phase⟩,⟨2,.phase⟩,⟨3,.phase⟩,⟨4,.phase⟩,⟨5,.phase⟩,⟨6,.phase⟩,⟨7,.phase⟩,⟨8,.phase⟩,⟨9,.phase⟩],none⟩) rfl (fun K hK => ?_) ?_
           · (have cqx : w9.cell? ⟨w3.heap.size,5,none⟩ = some (.slice (some ⟨gv,0,none⟩) nv c3v) := cell_of_row _ _ _ _ _ _ HQ9.out;have fqx : w9.frozen? ⟨w3.heap.size,5,none⟩ = false := frz_row HQ9.out;go_simp;clear cqx fqx)
             refine hK.out _ _ ?_ (fun hHeld12 => ?_)
             · (try dsimp only);exact HS.out _ (Below.setCell K9.out HW3.out _)
             clear hK K
             try simp only [Act.put,List.setIfInBounds_toArray]
             clear hHeld11
             refine wpAnyH_done (by kernel_rfl) ?_ _
             clear hHeld12
             go_wp2_with fail
             go_meet
             have hs9 := heap_setCell_same w9 w3.heap.size 5 _ 29 (.slice (some ⟨g9,0,none⟩) (nv + 1) cap9) HQ9.out
             simp only [List.setIfInBounds_toArray,List.set_cons_succ,List.set_cons_zero] at hs9
             case rel =>
              refine ⟨rfl,g9,cap9,?_,hs9,Below.setCell K9.out HW3.out _⟩
              have hk9 : ∀ b,b < w3.heap.size → b ≠ gv → (w9.setCell ⟨w3.heap.size,5,none⟩ (.slice (some ⟨g9,0,none⟩) (nv + 1) cap9)).heap[b]? = w3.heap[b]? := fun b hb hne => by
               rw [heap_setCell_other _ _ _ _ (by simp only;omega),hgrow9.block b (Nat.lt_of_lt_of_le hb T32.out.size) (fun e => hne (by injection e with e;first | done | exact e | exact e.symm)),T32.out.block b hb]
              have ho9 : (w9.setCell ⟨w3.heap.size,5,none⟩ (.slice (some ⟨g9,0,none⟩) (nv + 1) cap9)).ownsRow (w2.heap.size + 2) 86 11 (.slice (some ⟨g9,0,none⟩) (p.vs.length + 1) cap9) (p.vs.length + 1) (R.flatten ++ vehE vh (.slice ca lc cc) (.slice ba lb bc)) := by
               rw [HNV.out]
               refine own_of_block hown9 fun b hb => heap_setCell_other _ _ _ _ ?_
               cases hb
               simp only
               rcases hat9 with e | e
               ·injection e with e;(try simp only at e);have h1 : w3.heap.size ≠ gv := HGQ.out;omega
               ·have h1 := lt_of_block HQ2.out;omega
              have hn9 : VehV (w9.setCell ⟨w3.heap.size,5,none⟩ (.slice (some ⟨g9,0,none⟩) (nv + 1) cap9)) (vehE vh (.slice ca lc cc) (.slice ba lb bc)) vh := VehV.of_o (HVV2.out.kp (fun b hb hge hl => ⟨by rw [heap_setCell_other _ _ _ _ (by have h1 := TZ.out.size;simp only;omega),hgrow9.block b hl (fun e => by have h1 := TZ.out.size;have h2 : gv < w3.heap.size := HG2.out;injection e with e;(try simp only at e);omega)],hb⟩))
              have hq9 := alike_close (k := k) HF3.out HVH.out hk9 HR2.out HR5.out ho9 hn9 (by simp [vehE,Value.oneCell']) (by rw [HNV.out];omega)
              rw [HNV.out] at hq9
              exact hq9
           exact AllReadyH.nil
          exact AllReadyH.nil
         exact AllReadyH.nil
        exact AllReadyH.nil
       refine AllReadyH.cons (o := ⟨some 48,.load 86 (.tmp 47),86,"law.go:225",#[⟨6,.data⟩],none⟩) rfl (fun K hK => ?_) ?_
       ·go_simp
        refine hK.out _ _ ?_ (fun hHeld13 => ?_)
        ·(try dsimp only);exact HS.out _ K1.out
        clear hK K
        try simp only [Act.put,List.setIfInBounds_toArray]
        clear hHeld7
        clear ce0 ce1 ce2 ce3 ce4 ce5 ce6 ce7 ce8 ce9 ce10
        refine wpAnyH_ready (rs := [1,8]) (by kernel_rfl) (by simp) ?_
        refine AllReadyH.cons (o := ⟨some 42,.load 25 (.tmp 41),25,"law.go:225",#[⟨0,.data⟩],none⟩) rfl (fun K hK => ?_) ?_
        ·(have cqx : u1.cell? ⟨w3.heap.size,5,none⟩ = some (.slice (some ⟨gv,0,none⟩) nv c3v) := cell_of_row _ _ _ _ _ _ HQ1.out;go_simp;clear cqx)
         refine hK.out _ _ ?_ (fun hHeld14 => ?_)
         ·(try dsimp only);exact HS.out _ K1.out
         clear hK K
         try simp only [Act.put,List.setIfInBounds_toArray]
         clear hHeld13
         refine wpAnyH_ready (rs := [8]) (by kernel_rfl) (by simp) ?_
         refine AllReadyH.cons (o := ⟨some 49,.buildSlice 25 1 #[(0,.tmp 48)],25,"law.go:225",#[⟨7,.data⟩],none⟩) rfl (fun K hK => ?_) ?_
         ·go_simp
          refine hK.out _ _ ?_ (fun hHeld15 => ?_)
          ·(try dsimp only);exact HS.out _ (below_on K1.out ((Below.refl _ _).alloc (Nat.le_refl _) _))
          clear hK K
          try simp only [Act.put,List.setIfInBounds_toArray]
          clear hHeld14
          have LT2 : Hid (u1.heap.size < (u1.alloc (.cells #[.int .i64 vh.start,.int .i64 vh.stop,.slice ca lc cc,.int .u64 vh.skills,.int .i64 vh.shift.1,.int .i64 vh.shift.2,.int .i64 vh.fixed,.int .i64 vh.perT,.int .i64 vh.perD,.int .i64 vh.maxT,.slice ba lb bc] 86)).heap.size) := (by show _ < _;simp)
          obtain ⟨u2,hu2⟩ : ∃ u,u1.alloc (.cells #[.int .i64 vh.start,.int .i64 vh.stop,.slice ca lc cc,.int .u64 vh.skills,.int .i64 vh.shift.1,.int .i64 vh.shift.2,.int .i64 vh.fixed,.int .i64 vh.perT,.int .i64 vh.perD,.int .i64 vh.maxT,.slice ba lb bc] 86) = u := ⟨_,rfl⟩
          rw [hu2]
          rw [hu2] at hHeld15 LT2
          have E2 : Hid (Below u1.heap.size u1 u2) := by show Below _ _ _;rw [← hu2];exact ((Below.refl _ _).alloc (Nat.le_refl _) _)
          have K2 := hide (below_on K1.out E2.out)
          have HQ2 := hide ((E2.out.block _ (lt_of_block HQ1.out)).trans HQ1.out)
          have T32 := hide (below_on T31.out E2.out)
          have HVV2 := hide (HVV1.out.kp (fun b hb _ hl => ⟨E2.out.block b hl,hb⟩))
          clear HQ1 T31 HVV1
          have HNB2 : Hid (u2.heap[u1.heap.size]? = some (.cells #[.int .i64 vh.start,.int .i64 vh.stop,.slice ca lc cc,.int .u64 vh.skills,.int .i64 vh.shift.1,.int .i64 vh.shift.2,.int .i64 vh.fixed,.int .i64 vh.perT,.int .i64 vh.perD,.int .i64 vh.maxT,.slice ba lb bc] 86)) := by show u2.heap[u1.heap.size]? = some (.cells #[.int .i64 vh.start,.int .i64 vh.stop,.slice ca lc cc,.int .u64 vh.skills,.int .i64 vh.shift.1,.int .i64 vh.shift.2,.int .i64 vh.fixed,.int .i64 vh.perT,.int .i64 vh.perD,.int .i64 vh.maxT,.slice ba lb bc] 86);rw [← hu2];exact new_block _ _
          clear hu2
          refine wpAnyH_ready (rs := [9]) (by kernel_rfl) (by simp) ?_
          refine AllReadyH.cons (o := ⟨some 50,.call { callee := .builtin .append,args := #[.tmp 42,.tmp 49],argTypes := #[25,25] },25,"law.go:225",#[⟨1,.data⟩,⟨8,.data⟩,⟨3,.chain⟩],none⟩) rfl (fun K hK => ?_) ?_
          ·(refine step_append_lies _ (by rfl) (.tmp 42) (.tmp 49) 25 (by rfl) (w2.heap.size + 2) 86 i0 _ 11 120 Try.underlying25 HI0.out HZ0.out HZ1.out HZ2.out (by rfl) (by decide) (.slice (some ⟨gv,0,none⟩) nv c3v) nv R.flatten (by rfl) (own_later HR1.out (Nat.le_refl _) T32.out) ⟨u1.heap.size,0,none⟩ 1 1 (vehE vh (.slice ca lc cc) (.slice ba lb bc)) (by rfl) (by rfl) (news_of (l := vehE vh (.slice ca lc cc) (.slice ba lb bc)) HNB2.out) (by simp [vehE,Value.oneCell']) (by decide) (by unfold maxLen;omega) (by omega) (by have h1 := S23.out;have h2 := T32.out.size;have h3 := HG1.out;have h4 := HG2.out;omega) u2.heap.size rfl ?_;intro g9 cap9 w9 hown9 hgrow9 hat9 hlt9;have K9 : Hid (Below W.heap.size W w9) := K2.out.grown hgrow9 K2.out.size (fun q hq => by cases hq;exact HGW.out))
           refine hK.out _ _ ?_ (fun hHeld16 => ?_)
           · (try dsimp only);exact HS.out _ K9.out
           clear hK K
           try simp only [Act.put,List.setIfInBounds_toArray]
           clear hHeld15
           have HQ9 : Hid (w9.heap[w3.heap.size]? = some (.cells #[.int .i64 p.dims,.int .i64 p.time.n,.slice t3 p.time.cells.length c3t,.int .i64 p.dist.n,.slice d3 p.dist.cells.length c3d,.slice (some ⟨gv,0,none⟩) nv c3v,.slice j3 p.js.length c3j,.slice s3 p.ss.length c3s] 29 (0,0))) := (hgrow9.block _ (lt_of_block HQ2.out) (fun e => HGQ.out (by injection e))).trans HQ2.out
           refine Mn.t 10 (oi := ⟨some 51,.fieldAddr 29 (.tmp 7) 3,0,"law.go:225",#[⟨0,.phase⟩,⟨1,.phase⟩,⟨2,.phase⟩,⟨3,.phase⟩,⟨4,.phase⟩,⟨5,.phase⟩,⟨6,.phase⟩,⟨7,.phase⟩,⟨8,.phase⟩,⟨9,.phase⟩],none⟩) ?_
           try simp only [Act.put,List.setIfInBounds_toArray]
           refine wpAnyH_ready (rs := [11]) (by kernel_rfl) (by simp) ?_
           refine AllReadyH.cons (o := ⟨none,.store 25 (.tmp 51) (.tmp 50),0,"law.go:225",#[⟨10,.data⟩,⟨9,.data⟩,⟨9,.chain⟩,⟨0,.phase⟩,⟨1,.phase⟩,⟨2,.phase⟩,⟨3,.phase⟩,⟨4,.phase⟩,⟨5,.phase⟩,⟨6,.phase⟩,⟨7,.phase⟩,⟨8,.phase⟩,⟨9,.phase⟩],none⟩) rfl (fun K hK => ?_) ?_
           · (have cqx : w9.cell? ⟨w3.heap.size,5,none⟩ = some (.slice (some ⟨gv,0,none⟩) nv c3v) := cell_of_row _ _ _ _ _ _ HQ9.out;have fqx : w9.frozen? ⟨w3.heap.size,5,none⟩ = false := frz_row HQ9.out;go_simp;clear cqx fqx)
             refine hK.out _ _ ?_ (fun hHeld17 => ?_)
             · (try dsimp only);exact HS.out _ (Below.setCell K9.out HW3.out _)
             clear hK K
             try simp only [Act.put,List.setIfInBounds_toArray]
             clear hHeld16
             refine wpAnyH_done (by kernel_rfl) ?_ _
             clear hHeld17
             go_wp2_with fail
             go_meet
             have hs9 := heap_setCell_same w9 w3.heap.size 5 _ 29 (.slice (some ⟨g9,0,none⟩) (nv + 1) cap9) HQ9.out
             simp only [List.setIfInBounds_toArray,List.set_cons_succ,List.set_cons_zero] at hs9
             case rel =>
              refine ⟨rfl,g9,cap9,?_,hs9,Below.setCell K9.out HW3.out _⟩
              have hk9 : ∀ b,b < w3.heap.size → b ≠ gv → (w9.setCell ⟨w3.heap.size,5,none⟩ (.slice (some ⟨g9,0,none⟩) (nv + 1) cap9)).heap[b]? = w3.heap[b]? := fun b hb hne => by
               rw [heap_setCell_other _ _ _ _ (by simp only;omega),hgrow9.block b (Nat.lt_of_lt_of_le hb T32.out.size) (fun e => hne (by injection e with e;first | done | exact e | exact e.symm)),T32.out.block b hb]
              have ho9 : (w9.setCell ⟨w3.heap.size,5,none⟩ (.slice (some ⟨g9,0,none⟩) (nv + 1) cap9)).ownsRow (w2.heap.size + 2) 86 11 (.slice (some ⟨g9,0,none⟩) (p.vs.length + 1) cap9) (p.vs.length + 1) (R.flatten ++ vehE vh (.slice ca lc cc) (.slice ba lb bc)) := by
               rw [HNV.out]
               refine own_of_block hown9 fun b hb => heap_setCell_other _ _ _ _ ?_
               cases hb
               simp only
               rcases hat9 with e | e
               ·injection e with e;(try simp only at e);have h1 : w3.heap.size ≠ gv := HGQ.out;omega
               ·have h1 := lt_of_block HQ2.out;omega
              have hn9 : VehV (w9.setCell ⟨w3.heap.size,5,none⟩ (.slice (some ⟨g9,0,none⟩) (nv + 1) cap9)) (vehE vh (.slice ca lc cc) (.slice ba lb bc)) vh := VehV.of_o (HVV2.out.kp (fun b hb hge hl => ⟨by rw [heap_setCell_other _ _ _ _ (by have h1 := TZ.out.size;simp only;omega),hgrow9.block b hl (fun e => by have h1 := TZ.out.size;have h2 : gv < w3.heap.size := HG2.out;injection e with e;(try simp only at e);omega)],hb⟩))
              have hq9 := alike_close (k := k) HF3.out HVH.out hk9 HR2.out HR5.out ho9 hn9 (by simp [vehE,Value.oneCell']) (by rw [HNV.out];omega)
              rw [HNV.out] at hq9
              exact hq9
           exact AllReadyH.nil
          exact AllReadyH.nil
         exact AllReadyH.nil
        refine AllReadyH.cons (o := ⟨some 49,.buildSlice 25 1 #[(0,.tmp 48)],25,"law.go:225",#[⟨7,.data⟩],none⟩) rfl (fun K hK => ?_) ?_
        ·go_simp
         refine hK.out _ _ ?_ (fun hHeld18 => ?_)
         ·(try dsimp only);exact HS.out _ (below_on K1.out ((Below.refl _ _).alloc (Nat.le_refl _) _))
         clear hK K
         try simp only [Act.put,List.setIfInBounds_toArray]
         clear hHeld13
         have LT2 : Hid (u1.heap.size < (u1.alloc (.cells #[.int .i64 vh.start,.int .i64 vh.stop,.slice ca lc cc,.int .u64 vh.skills,.int .i64 vh.shift.1,.int .i64 vh.shift.2,.int .i64 vh.fixed,.int .i64 vh.perT,.int .i64 vh.perD,.int .i64 vh.maxT,.slice ba lb bc] 86)).heap.size) := (by show _ < _;simp)
         obtain ⟨u2,hu2⟩ : ∃ u,u1.alloc (.cells #[.int .i64 vh.start,.int .i64 vh.stop,.slice ca lc cc,.int .u64 vh.skills,.int .i64 vh.shift.1,.int .i64 vh.shift.2,.int .i64 vh.fixed,.int .i64 vh.perT,.int .i64 vh.perD,.int .i64 vh.maxT,.slice ba lb bc] 86) = u := ⟨_,rfl⟩
         rw [hu2]
         rw [hu2] at hHeld18 LT2
         have E2 : Hid (Below u1.heap.size u1 u2) := by show Below _ _ _;rw [← hu2];exact ((Below.refl _ _).alloc (Nat.le_refl _) _)
         have K2 := hide (below_on K1.out E2.out)
         have HQ2 := hide ((E2.out.block _ (lt_of_block HQ1.out)).trans HQ1.out)
         have T32 := hide (below_on T31.out E2.out)
         have HVV2 := hide (HVV1.out.kp (fun b hb _ hl => ⟨E2.out.block b hl,hb⟩))
         clear HQ1 T31 HVV1
         have HNB2 : Hid (u2.heap[u1.heap.size]? = some (.cells #[.int .i64 vh.start,.int .i64 vh.stop,.slice ca lc cc,.int .u64 vh.skills,.int .i64 vh.shift.1,.int .i64 vh.shift.2,.int .i64 vh.fixed,.int .i64 vh.perT,.int .i64 vh.perD,.int .i64 vh.maxT,.slice ba lb bc] 86)) := by show u2.heap[u1.heap.size]? = some (.cells #[.int .i64 vh.start,.int .i64 vh.stop,.slice ca lc cc,.int .u64 vh.skills,.int .i64 vh.shift.1,.int .i64 vh.shift.2,.int .i64 vh.fixed,.int .i64 vh.perT,.int .i64 vh.perD,.int .i64 vh.maxT,.slice ba lb bc] 86);rw [← hu2];exact new_block _ _
         clear hu2
         refine wpAnyH_ready (rs := [1]) (by kernel_rfl) (by simp) ?_
         refine AllReadyH.cons (o := ⟨some 42,.load 25 (.tmp 41),25,"law.go:225",#[⟨0,.data⟩],none⟩) rfl (fun K hK => ?_) ?_
         ·(have cqx : u2.cell? ⟨w3.heap.size,5,none⟩ = some (.slice (some ⟨gv,0,none⟩) nv c3v) := cell_of_row _ _ _ _ _ _ HQ2.out;go_simp;clear cqx)
          refine hK.out _ _ ?_ (fun hHeld19 => ?_)
          ·(try dsimp only);exact HS.out _ K2.out
          clear hK K
          try simp only [Act.put,List.setIfInBounds_toArray]
          clear hHeld18
          refine wpAnyH_ready (rs := [9]) (by kernel_rfl) (by simp) ?_
          refine AllReadyH.cons (o := ⟨some 50,.call { callee := .builtin .append,args := #[.tmp 42,.tmp 49],argTypes := #[25,25] },25,"law.go:225",#[⟨1,.data⟩,⟨8,.data⟩,⟨3,.chain⟩],none⟩) rfl (fun K hK => ?_) ?_
          ·(refine step_append_lies _ (by rfl) (.tmp 42) (.tmp 49) 25 (by rfl) (w2.heap.size + 2) 86 i0 _ 11 120 Try.underlying25 HI0.out HZ0.out HZ1.out HZ2.out (by rfl) (by decide) (.slice (some ⟨gv,0,none⟩) nv c3v) nv R.flatten (by rfl) (own_later HR1.out (Nat.le_refl _) T32.out) ⟨u1.heap.size,0,none⟩ 1 1 (vehE vh (.slice ca lc cc) (.slice ba lb bc)) (by rfl) (by rfl) (news_of (l := vehE vh (.slice ca lc cc) (.slice ba lb bc)) HNB2.out) (by simp [vehE,Value.oneCell']) (by decide) (by unfold maxLen;omega) (by omega) (by have h1 := S23.out;have h2 := T32.out.size;have h3 := HG1.out;have h4 := HG2.out;omega) u2.heap.size rfl ?_;intro g9 cap9 w9 hown9 hgrow9 hat9 hlt9;have K9 : Hid (Below W.heap.size W w9) := K2.out.grown hgrow9 K2.out.size (fun q hq => by cases hq;exact HGW.out))
           refine hK.out _ _ ?_ (fun hHeld20 => ?_)
           · (try dsimp only);exact HS.out _ K9.out
           clear hK K
           try simp only [Act.put,List.setIfInBounds_toArray]
           clear hHeld19
           have HQ9 : Hid (w9.heap[w3.heap.size]? = some (.cells #[.int .i64 p.dims,.int .i64 p.time.n,.slice t3 p.time.cells.length c3t,.int .i64 p.dist.n,.slice d3 p.dist.cells.length c3d,.slice (some ⟨gv,0,none⟩) nv c3v,.slice j3 p.js.length c3j,.slice s3 p.ss.length c3s] 29 (0,0))) := (hgrow9.block _ (lt_of_block HQ2.out) (fun e => HGQ.out (by injection e))).trans HQ2.out
           refine Mn.t 10 (oi := ⟨some 51,.fieldAddr 29 (.tmp 7) 3,0,"law.go:225",#[⟨0,.phase⟩,⟨1,.phase⟩,⟨2,.phase⟩,⟨3,.phase⟩,⟨4,.phase⟩,⟨5,.phase⟩,⟨6,.phase⟩,⟨7,.phase⟩,⟨8,.phase⟩,⟨9,.phase⟩],none⟩) ?_
           try simp only [Act.put,List.setIfInBounds_toArray]
           refine wpAnyH_ready (rs := [11]) (by kernel_rfl) (by simp) ?_
           refine AllReadyH.cons (o := ⟨none,.store 25 (.tmp 51) (.tmp 50),0,"law.go:225",#[⟨10,.data⟩,⟨9,.data⟩,⟨9,.chain⟩,⟨0,.phase⟩,⟨1,.phase⟩,⟨2,.phase⟩,⟨3,.phase⟩,⟨4,.phase⟩,⟨5,.phase⟩,⟨6,.phase⟩,⟨7,.phase⟩,⟨8,.phase⟩,⟨9,.phase⟩],none⟩) rfl (fun K hK => ?_) ?_
           · (have cqx : w9.cell? ⟨w3.heap.size,5,none⟩ = some (.slice (some ⟨gv,0,none⟩) nv c3v) := cell_of_row _ _ _ _ _ _ HQ9.out;have fqx : w9.frozen? ⟨w3.heap.size,5,none⟩ = false := frz_row HQ9.out;go_simp;clear cqx fqx)
             refine hK.out _ _ ?_ (fun hHeld21 => ?_)
             · (try dsimp only);exact HS.out _ (Below.setCell K9.out HW3.out _)
             clear hK K
             try simp only [Act.put,List.setIfInBounds_toArray]
             clear hHeld20
             refine wpAnyH_done (by kernel_rfl) ?_ _
             clear hHeld21
             go_wp2_with fail
             go_meet
             have hs9 := heap_setCell_same w9 w3.heap.size 5 _ 29 (.slice (some ⟨g9,0,none⟩) (nv + 1) cap9) HQ9.out
             simp only [List.setIfInBounds_toArray,List.set_cons_succ,List.set_cons_zero] at hs9
             case rel =>
              refine ⟨rfl,g9,cap9,?_,hs9,Below.setCell K9.out HW3.out _⟩
              have hk9 : ∀ b,b < w3.heap.size → b ≠ gv → (w9.setCell ⟨w3.heap.size,5,none⟩ (.slice (some ⟨g9,0,none⟩) (nv + 1) cap9)).heap[b]? = w3.heap[b]? := fun b hb hne => by
               rw [heap_setCell_other _ _ _ _ (by simp only;omega),hgrow9.block b (Nat.lt_of_lt_of_le hb T32.out.size) (fun e => hne (by injection e with e;first | done | exact e | exact e.symm)),T32.out.block b hb]
              have ho9 : (w9.setCell ⟨w3.heap.size,5,none⟩ (.slice (some ⟨g9,0,none⟩) (nv + 1) cap9)).ownsRow (w2.heap.size + 2) 86 11 (.slice (some ⟨g9,0,none⟩) (p.vs.length + 1) cap9) (p.vs.length + 1) (R.flatten ++ vehE vh (.slice ca lc cc) (.slice ba lb bc)) := by
               rw [HNV.out]
               refine own_of_block hown9 fun b hb => heap_setCell_other _ _ _ _ ?_
               cases hb
               simp only
               rcases hat9 with e | e
               ·injection e with e;(try simp only at e);have h1 : w3.heap.size ≠ gv := HGQ.out;omega
               ·have h1 := lt_of_block HQ2.out;omega
              have hn9 : VehV (w9.setCell ⟨w3.heap.size,5,none⟩ (.slice (some ⟨g9,0,none⟩) (nv + 1) cap9)) (vehE vh (.slice ca lc cc) (.slice ba lb bc)) vh := VehV.of_o (HVV2.out.kp (fun b hb hge hl => ⟨by rw [heap_setCell_other _ _ _ _ (by have h1 := TZ.out.size;simp only;omega),hgrow9.block b hl (fun e => by have h1 := TZ.out.size;have h2 : gv < w3.heap.size := HG2.out;injection e with e;(try simp only at e);omega)],hb⟩))
              have hq9 := alike_close (k := k) HF3.out HVH.out hk9 HR2.out HR5.out ho9 hn9 (by simp [vehE,Value.oneCell']) (by rw [HNV.out];omega)
              rw [HNV.out] at hq9
              exact hq9
           exact AllReadyH.nil
          exact AllReadyH.nil
         exact AllReadyH.nil
        exact AllReadyH.nil
       exact AllReadyH.nil
      exact AllReadyH.nil
     case rest =>
      obtain ⟨rfl,g9,cap9,HPQ,HQ6,K6⟩ := hcut
      rename World => z6
      clear HQ1 KW1 K31 HS HGW HGQ HR1 HR2 HR5 HI0 HZ0 HZ1 HZ2 HF3 HG1 HG2 S23 H17 H17b
      have L36 : Hid (w3.heap.size < z6.heap.size) := lt_of_block HQ6.out
      obtain ⟨n1,hn1⟩ : ∃ z,nv + 1 = z := ⟨_,rfl⟩
      rw [hn1] at HPQ HQ6
      have HN1 := hide hn1
      have hn1b : n1 ≤ 4 := by omega
      obtain ⟨er,her⟩ : ∃ z,fitE (alikeP p k) (k : Int) V = z := ⟨_,rfl⟩
      obtain ⟨pr,hpr⟩ : ∃ z,fitP (alikeP p k) (k : Int) V = z := ⟨_,rfl⟩
      obtain ⟨pq,hpq⟩ : ∃ z,fitP (alikeP p k) (nv : Int) V = z := ⟨_,rfl⟩
      have hlq := alk_law HL.out HK.out (by rw [HNV.out];exact hn3b)
      have hfa := alk_fit (q := alikeP p k) (i := k) (j := nv) (by rw [alk_len,HNV.out];omega) (by rw [alk_len,HNV.out];omega) (by rw [alk_at HK.out,← HNV.out,alk_end]) V
      rw [her,hpr,hpq] at hfa
      have Heq : Hid (fitE (alikeP p k) (nv : Int) V = er) := hfa.1.symm
      have HFA := hide hfa.2
      have Her := hide her
      have Hpr := hide hpr
      have Hpq := hide hpq
      have HSML := hide (fit_small (vi := (k : Int)) (V := V) hlq (by rw [HM.out];omega))
      rw [hpr] at HSML
      have HLQ := hide hlq
      clear her hpr hpq hfa hlq hn1
      have H37 : Hid (∀ W2,Below w.heap.size w W2 → Calls Try.prog 37 #[.slice va m vc] W2 fun e w' => ∃ g c,e = .returned (.slice (some ⟨g,0,none⟩) m c) ∧ (VRow w' W2.heap.size (.slice (some ⟨g,0,none⟩) m c) V ∧ m ≤ c) ∧ Below W2.heap.size W2 w') := fun W2 hf => by have h9 := copiedV_any (PrV.on HV.out hf) HM.out (by omega) HZ.out;exact h9
      have H40a : Hid (∀ W2 g c,Below z6.heap.size z6 W2 → VsV W2 (.slice (some ⟨g,0,none⟩) m c) V → m ≤ c → Calls Try.prog 40 #[.agg #[.int .i64 p.dims,.int .i64 p.time.n,.slice t3 p.time.cells.length c3t,.int .i64 p.dist.n,.slice d3 p.dist.cells.length c3d,.slice (some ⟨g9,0,none⟩) n1 cap9,.slice j3 p.js.length c3j,.slice s3 p.ss.length c3s],.int .i64 (k : Int),.slice (some ⟨g,0,none⟩) m c] W2 fun e w' => ∃ pa pn pc,e = .returned (.tuple #[.agg #[.int .i64 pr.veh,.slice pa pn pc,.int .i64 pr.time,.int .i64 pr.dist,.int .i64 pr.wait,.int .i64 pr.serv,.int .i64 pr.cost],.int .i64 er]) ∧ PlanV w' W2.heap.size (.agg #[.int .i64 pr.veh,.slice pa pn pc,.int .i64 pr.time,.int .i64 pr.dist,.int .i64 pr.wait,.int .i64 pr.serv,.int .i64 pr.cost]) pr ∧ Below W2.heap.size W2 w') := fun W2 g c hb hv hc => by
       have h9 := fit_any (vi := (k : Int)) (HPQ.out.on hb) HLQ.out hv HM.out (by omega) hc
       rw [Her.out,Hpr.out] at h9
       refine h9.mono ?_
       rintro e w' ⟨u,rfl,hu,k9⟩
       obtain ⟨pa,pn,pc,ys,rfl,_,_,_⟩ := id hu
       exact ⟨pa,pn,pc,rfl,hu,k9⟩
      have H40b : Hid (∀ W2 g c,Below z6.heap.size z6 W2 → VsV W2 (.slice (some ⟨g,0,none⟩) m c) V → m ≤ c → Calls Try.prog 40 #[.agg #[.int .i64 p.dims,.int .i64 p.time.n,.slice t3 p.time.cells.length c3t,.int .i64 p.dist.n,.slice d3 p.dist.cells.length c3d,.slice (some ⟨g9,0,none⟩) n1 cap9,.slice j3 p.js.length c3j,.slice s3 p.ss.length c3s],.int .i64 (nv : Int),.slice (some ⟨g,0,none⟩) m c] W2 fun e w' => ∃ pa pn pc,e = .returned (.tuple #[.agg #[.int .i64 pq.veh,.slice pa pn pc,.int .i64 pq.time,.int .i64 pq.dist,.int .i64 pq.wait,.int .i64 pq.serv,.int .i64 pq.cost],.int .i64 er]) ∧ PlanV w' W2.heap.size (.agg #[.int .i64 pq.veh,.slice pa pn pc,.int .i64 pq.time,.int .i64 pq.dist,.int .i64 pq.wait,.int .i64 pq.serv,.int .i64 pq.cost]) pq ∧ Below W2.heap.size W2 w') := fun W2 g c hb hv hc => by
       have h9 := fit_any (vi := (nv : Int)) (HPQ.out.on hb) HLQ.out hv HM.out (by omega) hc
       rw [Heq.out,Hpq.out] at h9
       refine h9.mono ?_
       rintro e w' ⟨u,rfl,hu,k9⟩
       obtain ⟨pa,pn,pc,ys,rfl,_,_,_⟩ := id hu
       exact ⟨pa,pn,pc,rfl,hu,k9⟩
      have HS6 : Hid (∀ w',Below z6.heap.size z6 w' → w'.cell? ⟨w3.heap.size,0,none⟩ = some (.int .i64 p.dims) ∧ w'.cell? ⟨w3.heap.size,1,none⟩ = some (.int .i64 p.time.n) ∧ w'.cell? ⟨w3.heap.size,2,none⟩ = some (.slice t3 p.time.cells.length c3t) ∧ w'.cell? ⟨w3.heap.size,3,none⟩ = some (.int .i64 p.dist.n) ∧ w'.cell? ⟨w3.heap.size,4,none⟩ = some (.slice d3 p.dist.cells.length c3d) ∧ w'.cell? ⟨w3.heap.size,5,none⟩ = some (.slice (some ⟨g9,0,none⟩) n1 cap9) ∧ w'.cell? ⟨w3.heap.size,6,none⟩ = some (.slice j3 p.js.length c3j) ∧ w'.cell? ⟨w3.heap.size,7,none⟩ = some (.slice s3 p.ss.length c3s)) := fun w' hb => ⟨((bcell hb).1 _ 0 (lt_of_block HQ6.out)).trans (cell_of_row _ _ _ _ _ _ HQ6.out),((bcell hb).1 _ 1 (lt_of_block HQ6.out)).trans (cell_of_row _ _ _ _ _ _ HQ6.out),((bcell hb).1 _ 2 (lt_of_block HQ6.out)).trans (cell_of_row _ _ _ _ _ _ HQ6.out),((bcell hb).1 _ 3 (lt_of_block HQ6.out)).trans (cell_of_row _ _ _ _ _ _ HQ6.out),((bcell hb).1 _ 4 (lt_of_block HQ6.out)).trans (cell_of_row _ _ _ _ _ _ HQ6.out),((bcell hb).1 _ 5 (lt_of_block HQ6.out)).trans (cell_of_row _ _ _ _ _ _ HQ6.out),((bcell hb).1 _ 6 (lt_of_block HQ6.out)).trans (cell_of_row _ _ _ _ _ _ HQ6.out),((bcell hb).1 _ 7 (lt_of_block HQ6.out)).trans (cell_of_row _ _ _ _ _ _ HQ6.out)⟩
      go_wp2_with fail
      go_cut [8,9] from 52 to 59 (fun va vb wx => ∃ (x8 : Nat) (pa2 : Option Addr) (pn2 pc2 : Nat),va = .pointer (some ⟨x8,0,none⟩) ∧ vb = .int .i64 er ∧ z6.heap.size ≤ x8 ∧ Hid (wx.heap[x8]? = some (.cells #[.int .i64 pr.veh,.slice pa2 pn2 pc2,.int .i64 pr.time,.int .i64 pr.dist,.int .i64 pr.wait,.int .i64 pr.serv,.int .i64 pr.cost] 71 (0,0))) ∧ Hid (PlanV wx z6.heap.size (.agg #[.int .i64 pr.veh,.slice pa2 pn2 pc2,.int .i64 pr.time,.int .i64 pr.dist,.int .i64 pr.wait,.int .i64 pr.serv,.int .i64 pr.cost]) pr) ∧ Hid (Below z6.heap.size z6 wx))
      case first =>
       refine wp_region_held_drew (S := (fun w' => w'.cell? ⟨w3.heap.size,0,none⟩ = some (.int .i64 p.dims) ∧ w'.cell? ⟨w3.heap.size,1,none⟩ = some (.int .i64 p.time.n) ∧ w'.cell? ⟨w3.heap.size,2,none⟩ = some (.slice t3 p.time.cells.length c3t) ∧ w'.cell? ⟨w3.heap.size,3,none⟩ = some (.int .i64 p.dist.n) ∧ w'.cell? ⟨w3.heap.size,4,none⟩ = some (.slice d3 p.dist.cells.length c3d) ∧ w'.cell? ⟨w3.heap.size,5,none⟩ = some (.slice (some ⟨g9,0,none⟩) n1 cap9) ∧ w'.cell? ⟨w3.heap.size,6,none⟩ = some (.slice j3 p.js.length c3j) ∧ w'.cell? ⟨w3.heap.size,7,none⟩ = some (.slice s3 p.ss.length c3s))) (by kernel_rfl) ?_ (fun hHeld0 => ?_)
       ·(try dsimp only);first | fail | exact HS6.out _ (Below.refl _ _) | exact HS6.out _ ((Below.refl _ _).drew) | (go_keep;done)
       obtain ⟨u0,hu0⟩ : ∃ u,z6.drew = u := ⟨_,rfl⟩
       rw [hu0]
       rw [hu0] at hHeld0
       have K0 : Hid (Below z6.heap.size z6 u0) := by show Below _ _ _;rw [← hu0];exact ((Below.refl _ _).drew)
       clear hu0
       refine Mn.t 0 (oi := ⟨some 53,.load 29 (.tmp 7),29,"law.go:226",#[],none⟩) ?_
       try simp only [Act.put,List.setIfInBounds_toArray]
       refine Mn.t 1 (oi := ⟨some 54,.move (.tmp 1),3,"law.go:226",#[],none⟩) ?_
       try simp only [Act.put,List.setIfInBounds_toArray]
       refine Mn.t 2 (oi := ⟨some 55,.move (.tmp 2),55,"law.go:226",#[],none⟩) ?_
       try simp only [Act.put,List.setIfInBounds_toArray]
       refine wpAnyH_ready (rs := [3,8]) (by kernel_rfl) (by simp) ?_
       refine AllReadyH.cons (o := ⟨some 56,.call { callee := .value (.func 37),args := #[.tmp 55],argTypes := #[55] },55,"law.go:226",#[⟨2,.data⟩],none⟩) rfl (fun K hK => ?_) ?_
       ·refine held_call (by rfl) 37 _ _ (by rfl) hent37 [.slice va m vc] (by rfl) ?_;refine (H37.out _ (below_on HBW.out (below_on K6.out K0.out))).mono ?_;rintro e u1 ⟨g3,cc3,rfl,⟨R9,q8⟩,k9⟩;refine ⟨_,rfl,?_⟩;have E1 := hide k9;have K1 := hide (below_on K0.out k9);clear k9
        have HV1 := hide (R9.vs (by rw [HM.out];omega))
        have HC1 := hide (q8)
        refine hK.out _ _ ?_ (fun hHeld1 => ?_)
        ·(try dsimp only);exact HS6.out _ K1.out
        clear hK K
        try simp only [Act.put,List.setIfInBounds_toArray]
        clear hHeld0
        refine wpAnyH_ready (rs := [4,8]) (by kernel_rfl) (by simp) ?_
        refine AllReadyH.cons (o := ⟨some 57,.call { callee := .value (.func 40),args := #[.tmp 53,.tmp 54,.tmp 56],argTypes := #[29,3,55] },72,"law.go:226",#[⟨0,.data⟩,⟨1,.data⟩,⟨3,.data⟩,⟨3,.chain⟩],none⟩) rfl (fun K hK => ?_) ?_
        ·refine held_call (by rfl) 40 _ _ (by rfl) hent40 [.agg #[.int .i64 p.dims,.int .i64 p.time.n,.slice t3 p.time.cells.length c3t,.int .i64 p.dist.n,.slice d3 p.dist.cells.length c3d,.slice (some ⟨g9,0,none⟩) n1 cap9,.slice j3 p.js.length c3j,.slice s3 p.ss.length c3s],.int .i64 (k : Int),.slice (some ⟨g3,0,none⟩) m cc3] (by rfl) ?_;refine (H40a.out _ _ _ K1.out HV1.out HC1.out).mono ?_;rintro e u2 ⟨pa2,pn2,pc2,rfl,q9,k9⟩;refine ⟨_,rfl,?_⟩;have E2 := hide k9;have K2 := hide (below_on K1.out k9);clear k9
         have HV2 := hide (PrV.on HV1.out E2.out)
         have HC2 := hide (HC1.out)
         clear HV1 HC1
         have HPL2 := hide (q9)
         refine hK.out _ _ ?_ (fun hHeld2 => ?_)
         ·(try dsimp only);exact HS6.out _ K2.out
         clear hK K
         try simp only [Act.put,List.setIfInBounds_toArray]
         clear hHeld1
         refine Mn.t 5 (oi := ⟨some 52,.move (.tmp 57),72,"law.go:226",#[⟨4,.data⟩],none⟩) ?_
         try simp only [Act.put,List.setIfInBounds_toArray]
         refine Mn.t 6 (oi := ⟨some 58,.extract (.tmp 52) 0,71,"law.go:226",#[⟨5,.data⟩],none⟩) ?_
         try simp only [Act.put,List.setIfInBounds_toArray]
         refine Mn.t 7 (oi := ⟨some 59,.extract (.tmp 52) 1,62,"law.go:226",#[⟨5,.data⟩,⟨9,.gcOnly .lateStores⟩],none⟩) ?_
         try simp only [Act.put,List.setIfInBounds_toArray]
         refine wpAnyH_ready (rs := [8]) (by kernel_rfl) (by simp) ?_
         refine AllReadyH.cons (o := ⟨some 8,.alloc 71,0,"law.go:226",#[],none⟩) rfl (fun K hK => ?_) ?_
         ·go_simp
          refine hK.out _ _ ?_ (fun hHeld3 => ?_)
          ·(try dsimp only);exact HS6.out _ (below_on K2.out ((Below.refl _ _).alloc (Nat.le_refl _) _))
          clear hK K
          try simp only [Act.put,List.setIfInBounds_toArray]
          clear hHeld2
          refine wpAnyH_ready (rs := [9]) (by kernel_rfl) (by simp) ?_
          refine AllReadyH.cons (o := ⟨none,.store 71 (.tmp 8) (.tmp 58),0,"law.go:226",#[⟨8,.data⟩,⟨6,.data⟩,⟨4,.chain⟩,⟨0,.phase⟩,⟨1,.phase⟩,⟨2,.phase⟩,⟨3,.phase⟩,⟨4,.phase⟩,⟨5,.phase⟩,⟨6,.phase⟩,⟨7,.textOnly .lateStores⟩,⟨8,.phase⟩],none⟩) rfl (fun K hK => ?_) ?_
          ·obtain ⟨sb0,sb1,sb2,sb3,sb4,sb5,sb6,sb7⟩ := HS6.out _ K2.out
           have m80 : ¬ w3.heap.size = u2.heap.size := (by have h1 := L36.out;have h2 := K2.out.size;omega)
           go_simp
           refine hK.out _ _ ?_ (fun hHeld4 => ?_)
           · (try dsimp only);(first | (go_keep;done) | (refine ⟨?_,?_,?_,?_,?_,?_,?_,?_⟩ <;> (refine cell_same (w := u2) ?_ (by assumption);(repeat rw [heap_setCell_other _ _ _ _ (by simp;omega)]))))
           clear hK K sb0 sb1 sb2 sb3 sb4 sb5 sb6 sb7
           try simp only [Act.put,List.setIfInBounds_toArray]
           clear hHeld3
           refine Mn.t 10 (oi := ⟨some 9,.assign (.tmp 59),62,"law.go:226",#[⟨7,.data⟩,⟨9,.chain⟩,⟨0,.phase⟩,⟨1,.phase⟩,⟨2,.phase⟩,⟨3,.phase⟩,⟨4,.phase⟩,⟨5,.phase⟩,⟨6,.phase⟩,⟨7,.phase⟩,⟨8,.phase⟩,⟨9,.phase⟩],none⟩) ?_
           try simp only [Act.put,List.setIfInBounds_toArray]
           refine wpAnyH_done (by kernel_rfl) ?_ _
           clear hHeld4
           go_wp2_with fail
           go_meet
           case rel => exact ⟨u2.heap.size,pa2,pn2,pc2,rfl,rfl,K2.out.size,new_block u2 _,(PlanV.mono (HPL2.out.on ((Below.refl _ _).alloc (Nat.le_refl _) _)) K1.out.size),below_on K2.out ((Below.refl _ _).alloc (Nat.le_refl _) _)⟩
          exact AllReadyH.nil
         exact AllReadyH.nil
        refine AllReadyH.cons (o := ⟨some 8,.alloc 71,0,"law.go:226",#[],none⟩) rfl (fun K hK => ?_) ?_
        ·go_simp
         refine hK.out _ _ ?_ (fun hHeld5 => ?_)
         ·(try dsimp only);exact HS6.out _ (below_on K1.out ((Below.refl _ _).alloc (Nat.le_refl _) _))
         clear hK K
         try simp only [Act.put,List.setIfInBounds_toArray]
         clear hHeld1
         have LT2 : Hid (u1.heap.size < (u1.alloc (.cells #[.int .i64 0,.slice none 0 0,.int .i64 0,.int .i64 0,.int .i64 0,.int .i64 0,.int .i64 0] 71)).heap.size) := (by show _ < _;simp)
         obtain ⟨u2,hu2⟩ : ∃ u,u1.alloc (.cells #[.int .i64 0,.slice none 0 0,.int .i64 0,.int .i64 0,.int .i64 0,.int .i64 0,.int .i64 0] 71) = u := ⟨_,rfl⟩
         rw [hu2]
         rw [hu2] at hHeld5 LT2
         have E2 : Hid (Below u1.heap.size u1 u2) := by show Below _ _ _;rw [← hu2];exact ((Below.refl _ _).alloc (Nat.le_refl _) _)
         have K2 := hide (below_on K1.out E2.out)
         have HV2 := hide (PrV.on HV1.out E2.out)
         have HC2 := hide (HC1.out)
         clear HV1 HC1
         have HX2 : Hid (u2.heap[u1.heap.size]? = some (.cells #[.int .i64 0,.slice none 0 0,.int .i64 0,.int .i64 0,.int .i64 0,.int .i64 0,.int .i64 0] 71)) := by show _ = _;rw [← hu2];exact new_block _ _
         clear hu2
         refine wpAnyH_ready (rs := [4]) (by kernel_rfl) (by simp) ?_
         refine AllReadyH.cons (o := ⟨some 57,.call { callee := .value (.func 40),args := #[.tmp 53,.tmp 54,.tmp 56],argTypes := #[29,3,55] },72,"law.go:226",#[⟨0,.data⟩,⟨1,.data⟩,⟨3,.data⟩,⟨3,.chain⟩],none⟩) rfl (fun K hK => ?_) ?_
         ·refine held_call (by rfl) 40 _ _ (by rfl) hent40 [.agg #[.int .i64 p.dims,.int .i64 p.time.n,.slice t3 p.time.cells.length c3t,.int .i64 p.dist.n,.slice d3 p.dist.cells.length c3d,.slice (some ⟨g9,0,none⟩) n1 cap9,.slice j3 p.js.length c3j,.slice s3 p.ss.length c3s],.int .i64 (k : Int),.slice (some ⟨g3,0,none⟩) m cc3] (by rfl) ?_;refine (H40a.out _ _ _ K2.out HV2.out HC2.out).mono ?_;rintro e u3 ⟨pa2,pn2,pc2,rfl,q9,k9⟩;refine ⟨_,rfl,?_⟩;have E3 := hide k9;have K3 := hide (below_on K2.out k9);clear k9
          have HV3 := hide (PrV.on HV2.out E3.out)
          have HC3 := hide (HC2.out)
          have HX3 := hide ((E3.out.block _ (lt_of_block HX2.out)).trans HX2.out)
          clear HV2 HC2 HX2
          have HPL3 := hide (q9)
          refine hK.out _ _ ?_ (fun hHeld6 => ?_)
          ·(try dsimp only);exact HS6.out _ K3.out
          clear hK K
          try simp only [Act.put,List.setIfInBounds_toArray]
          clear hHeld5
          refine Mn.t 5 (oi := ⟨some 52,.move (.tmp 57),72,"law.go:226",#[⟨4,.data⟩],none⟩) ?_
          try simp only [Act.put,List.setIfInBounds_toArray]
          refine Mn.t 6 (oi := ⟨some 58,.extract (.tmp 52) 0,71,"law.go:226",#[⟨5,.data⟩],none⟩) ?_
          try simp only [Act.put,List.setIfInBounds_toArray]
          refine Mn.t 7 (oi := ⟨some 59,.extract (.tmp 52) 1,62,"law.go:226",#[⟨5,.data⟩,⟨9,.gcOnly .lateStores⟩],none⟩) ?_
          try simp only [Act.put,List.setIfInBounds_toArray]
          refine wpAnyH_ready (rs := [9]) (by kernel_rfl) (by simp) ?_
          refine AllReadyH.cons (o := ⟨none,.store 71 (.tmp 8) (.tmp 58),0,"law.go:226",#[⟨8,.data⟩,⟨6,.data⟩,⟨4,.chain⟩,⟨0,.phase⟩,⟨1,.phase⟩,⟨2,.phase⟩,⟨3,.phase⟩,⟨4,.phase⟩,⟨5,.phase⟩,⟨6,.phase⟩,⟨7,.textOnly .lateStores⟩,⟨8,.phase⟩],none⟩) rfl (fun K hK => ?_) ?_
          ·obtain ⟨sb0,sb1,sb2,sb3,sb4,sb5,sb6,sb7⟩ := HS6.out _ K3.out
           have m80 : ¬ w3.heap.size = u1.heap.size := (by have h1 := L36.out;have h2 := K1.out.size;omega)
           obtain ⟨gc0,gc1,gc2,gc3,gc4,gc5,gc6,gf0,gf1,gf2,gf3,gf4,gf5,gf6⟩ := Mn.x7 (HX3.out)
           go_simp
           refine hK.out _ _ ?_ (fun hHeld7 => ?_)
           · (try dsimp only);(first | (go_keep;done) | (refine ⟨?_,?_,?_,?_,?_,?_,?_,?_⟩ <;> (refine cell_same (w := u3) ?_ (by assumption);(repeat rw [heap_setCell_other _ _ _ _ (by simp;omega)]))))
           clear hK K sb0 sb1 sb2 sb3 sb4 sb5 sb6 sb7
           try simp only [Act.put,List.setIfInBounds_toArray]
           clear hHeld6
           refine Mn.t 10 (oi := ⟨some 9,.assign (.tmp 59),62,"law.go:226",#[⟨7,.data⟩,⟨9,.chain⟩,⟨0,.phase⟩,⟨1,.phase⟩,⟨2,.phase⟩,⟨3,.phase⟩,⟨4,.phase⟩,⟨5,.phase⟩,⟨6,.phase⟩,⟨7,.phase⟩,⟨8,.phase⟩,⟨9,.phase⟩],none⟩) ?_
           try simp only [Act.put,List.setIfInBounds_toArray]
           refine wpAnyH_done (by kernel_rfl) ?_ _
           clear hHeld7
           go_wp2_with fail
           go_meet
           case rel =>
            obtain ⟨wz,hwz,hz1,hz2⟩ := put7 (.int .i64 pr.veh) (.slice pa2 pn2 pc2) (.int .i64 pr.time) (.int .i64 pr.dist) (.int .i64 pr.wait) (.int .i64 pr.serv) (.int .i64 pr.cost) HX3.out
            rw [← hwz]
            exact ⟨u1.heap.size,pa2,pn2,pc2,rfl,rfl,K1.out.size,hz1,(PlanV.mono (HPL3.out.set hz2 LT2.out) K2.out.size),K3.out.trans (grw_low hz2 K1.out.size K3.out.size)⟩
          exact AllReadyH.nil
         exact AllReadyH.nil
        exact AllReadyH.nil
       refine AllReadyH.cons (o := ⟨some 8,.alloc 71,0,"law.go:226",#[],none⟩) rfl (fun K hK => ?_) ?_
       ·go_simp
        refine hK.out _ _ ?_ (fun hHeld8 => ?_)
        ·(try dsimp only);exact HS6.out _ (below_on K0.out ((Below.refl _ _).alloc (Nat.le_refl _) _))
        clear hK K
        try simp only [Act.put,List.setIfInBounds_toArray]
        clear hHeld0
        have LT1 : Hid (u0.heap.size < (u0.alloc (.cells #[.int .i64 0,.slice none 0 0,.int .i64 0,.int .i64 0,.int .i64 0,.int .i64 0,.int .i64 0] 71)).heap.size) := (by show _ < _;simp)
        obtain ⟨u1,hu1⟩ : ∃ u,u0.alloc (.cells #[.int .i64 0,.slice none 0 0,.int .i64 0,.int .i64 0,.int .i64 0,.int .i64 0,.int .i64 0] 71) = u := ⟨_,rfl⟩
        rw [hu1]
        rw [hu1] at hHeld8 LT1
        have E1 : Hid (Below u0.heap.size u0 u1) := by show Below _ _ _;rw [← hu1];exact ((Below.refl _ _).alloc (Nat.le_refl _) _)
        have K1 := hide (below_on K0.out E1.out)
        have HX1 : Hid (u1.heap[u0.heap.size]? = some (.cells #[.int .i64 0,.slice none 0 0,.int .i64 0,.int .i64 0,.int .i64 0,.int .i64 0,.int .i64 0] 71)) := by show _ = _;rw [← hu1];exact new_block _ _
        clear hu1
        refine wpAnyH_ready (rs := [3]) (by kernel_rfl) (by simp) ?_
        refine AllReadyH.cons (o := ⟨some 56,.call { callee := .value (.func 37),args := #[.tmp 55],argTypes := #[55] },55,"law.go:226",#[⟨2,.data⟩],none⟩) rfl (fun K hK => ?_) ?_
        ·refine held_call (by rfl) 37 _ _ (by rfl) hent37 [.slice va m vc] (by rfl) ?_;refine (H37.out _ (below_on HBW.out (below_on K6.out K1.out))).mono ?_;rintro e u2 ⟨g3,cc3,rfl,⟨R9,q8⟩,k9⟩;refine ⟨_,rfl,?_⟩;have E2 := hide k9;have K2 := hide (below_on K1.out k9);clear k9
         have HX2 := hide ((E2.out.block _ (lt_of_block HX1.out)).trans HX1.out)
         clear HX1
         have HV2 := hide (R9.vs (by rw [HM.out];omega))
         have HC2 := hide (q8)
         refine hK.out _ _ ?_ (fun hHeld9 => ?_)
         ·(try dsimp only);exact HS6.out _ K2.out
         clear hK K
         try simp only [Act.put,List.setIfInBounds_toArray]
         clear hHeld8
         refine wpAnyH_ready (rs := [4]) (by kernel_rfl) (by simp) ?_
         refine AllReadyH.cons (o := ⟨some 57,.call { callee := .value (.func 40),args := #[.tmp 53,.tmp 54,.tmp 56],argTypes := #[29,3,55] },72,"law.go:226",#[⟨0,.data⟩,⟨1,.data⟩,⟨3,.data⟩,⟨3,.chain⟩],none⟩) rfl (fun K hK => ?_) ?_
         ·refine held_call (by rfl) 40 _ _ (by rfl) hent40 [.agg #[.int .i64 p.dims,.int .i64 p.time.n,.slice t3 p.time.cells.length c3t,.int .i64 p.dist.n,.slice d3 p.dist.cells.length c3d,.slice (some ⟨g9,0,none⟩) n1 cap9,.slice j3 p.js.length c3j,.slice s3 p.ss.length c3s],.int .i64 (k : Int),.slice (some ⟨g3,0,none⟩) m cc3] (by rfl) ?_;refine (H40a.out _ _ _ K2.out HV2.out HC2.out).mono ?_;rintro e u3 ⟨pa2,pn2,pc2,rfl,q9,k9⟩;refine ⟨_,rfl,?_⟩;have E3 := hide k9;have K3 := hide (below_on K2.out k9);clear k9
          have HX3 := hide ((E3.out.block _ (lt_of_block HX2.out)).trans HX2.out)
          have HV3 := hide (PrV.on HV2.out E3.out)
          have HC3 := hide (HC2.out)
          clear HX2 HV2 HC2
          have HPL3 := hide (q9)
          refine hK.out _ _ ?_ (fun hHeld10 => ?_)
          ·(try dsimp only);exact HS6.out _ K3.out
          clear hK K
          try simp only [Act.put,List.setIfInBounds_toArray]
          clear hHeld9
          refine Mn.t 5 (oi := ⟨some 52,.move (.tmp 57),72,"law.go:226",#[⟨4,.data⟩],none⟩) ?_
          try simp only [Act.put,List.setIfInBounds_toArray]
          refine Mn.t 6 (oi := ⟨some 58,.extract (.tmp 52) 0,71,"law.go:226",#[⟨5,.data⟩],none⟩) ?_
          try simp only [Act.put,List.setIfInBounds_toArray]
          refine Mn.t 7 (oi := ⟨some 59,.extract (.tmp 52) 1,62,"law.go:226",#[⟨5,.data⟩,⟨9,.gcOnly .lateStores⟩],none⟩) ?_
          try simp only [Act.put,List.setIfInBounds_toArray]
          refine wpAnyH_ready (rs := [9]) (by kernel_rfl) (by simp) ?_
          refine AllReadyH.cons (o := ⟨none,.store 71 (.tmp 8) (.tmp 58),0,"law.go:226",#[⟨8,.data⟩,⟨6,.data⟩,⟨4,.chain⟩,⟨0,.phase⟩,⟨1,.phase⟩,⟨2,.phase⟩,⟨3,.phase⟩,⟨4,.phase⟩,⟨5,.phase⟩,⟨6,.phase⟩,⟨7,.textOnly .lateStores⟩,⟨8,.phase⟩],none⟩) rfl (fun K hK => ?_) ?_
          ·obtain ⟨sb0,sb1,sb2,sb3,sb4,sb5,sb6,sb7⟩ := HS6.out _ K3.out
           have m80 : ¬ w3.heap.size = u0.heap.size := (by have h1 := L36.out;have h2 := K0.out.size;omega)
           obtain ⟨gc0,gc1,gc2,gc3,gc4,gc5,gc6,gf0,gf1,gf2,gf3,gf4,gf5,gf6⟩ := Mn.x7 (HX3.out)
           go_simp
           refine hK.out _ _ ?_ (fun hHeld11 => ?_)
           · (try dsimp only);(first | (go_keep;done) | (refine ⟨?_,?_,?_,?_,?_,?_,?_,?_⟩ <;> (refine cell_same (w := u3) ?_ (by assumption);(repeat rw [heap_setCell_other _ _ _ _ (by simp;omega)]))))
           clear hK K sb0 sb1 sb2 sb3 sb4 sb5 sb6 sb7
           try simp only [Act.put,List.setIfInBounds_toArray]
           clear hHeld10
           refine Mn.t 10 (oi := ⟨some 9,.assign (.tmp 59),62,"law.go:226",#[⟨7,.data⟩,⟨9,.chain⟩,⟨0,.phase⟩,⟨1,.phase⟩,⟨2,.phase⟩,⟨3,.phase⟩,⟨4,.phase⟩,⟨5,.phase⟩,⟨6,.phase⟩,⟨7,.phase⟩,⟨8,.phase⟩,⟨9,.phase⟩],none⟩) ?_
           try simp only [Act.put,List.setIfInBounds_toArray]
           refine wpAnyH_done (by kernel_rfl) ?_ _
           clear hHeld11
           go_wp2_with fail
           go_meet
           case rel =>
            obtain ⟨wz,hwz,hz1,hz2⟩ := put7 (.int .i64 pr.veh) (.slice pa2 pn2 pc2) (.int .i64 pr.time) (.int .i64 pr.dist) (.int .i64 pr.wait) (.int .i64 pr.serv) (.int .i64 pr.cost) HX3.out
            rw [← hwz]
            exact ⟨u0.heap.size,pa2,pn2,pc2,rfl,rfl,K0.out.size,hz1,(PlanV.mono (HPL3.out.set hz2 (Nat.lt_of_lt_of_le LT1.out E2.out.size)) K2.out.size),K3.out.trans (grw_low hz2 K0.out.size K3.out.size)⟩
          exact AllReadyH.nil
         exact AllReadyH.nil
        exact AllReadyH.nil
       exact AllReadyH.nil
      case rest =>
      obtain ⟨x8,pa1,pn1,pc1,rfl,rfl,hx8,HX8,HPL7,K7⟩ := hcut
      rename World => z7
      have HQ7 := hide ((K7.out.block _ (lt_of_block HQ6.out)).trans HQ6.out)
      have L37 : Hid (w3.heap.size < z7.heap.size) := lt_of_block HQ7.out
      have hw1 : IntKind.i64.wrap ((n1 : Int) - 1) = (nv : Int) := by rw [IntKind.wrap_i64,← HN1.out];omega
      have hle1 : (1 : Nat) ≤ n1 := by rw [← HN1.out];omega
      have HS7 : Hid (∀ w',Below z7.heap.size z7 w' → w'.cell? ⟨w3.heap.size,0,none⟩ = some (.int .i64 p.dims) ∧ w'.cell? ⟨w3.heap.size,1,none⟩ = some (.int .i64 p.time.n) ∧ w'.cell? ⟨w3.heap.size,2,none⟩ = some (.slice t3 p.time.cells.length c3t) ∧ w'.cell? ⟨w3.heap.size,3,none⟩ = some (.int .i64 p.dist.n) ∧ w'.cell? ⟨w3.heap.size,4,none⟩ = some (.slice d3 p.dist.cells.length c3d) ∧ w'.cell? ⟨w3.heap.size,5,none⟩ = some (.slice (some ⟨g9,0,none⟩) n1 cap9) ∧ w'.cell? ⟨w3.heap.size,6,none⟩ = some (.slice j3 p.js.length c3j) ∧ w'.cell? ⟨w3.heap.size,7,none⟩ = some (.slice s3 p.ss.length c3s)) := fun w' hb => ⟨((bcell hb).1 _ 0 (lt_of_block HQ7.out)).trans (cell_of_row _ _ _ _ _ _ HQ7.out),((bcell hb).1 _ 1 (lt_of_block HQ7.out)).trans (cell_of_row _ _ _ _ _ _ HQ7.out),((bcell hb).1 _ 2 (lt_of_block HQ7.out)).trans (cell_of_row _ _ _ _ _ _ HQ7.out),((bcell hb).1 _ 3 (lt_of_block HQ7.out)).trans (cell_of_row _ _ _ _ _ _ HQ7.out),((bcell hb).1 _ 4 (lt_of_block HQ7.out)).trans (cell_of_row _ _ _ _ _ _ HQ7.out),((bcell hb).1 _ 5 (lt_of_block HQ7.out)).trans (cell_of_row _ _ _ _ _ _ HQ7.out),((bcell hb).1 _ 6 (lt_of_block HQ7.out)).trans (cell_of_row _ _ _ _ _ _ HQ7.out),((bcell hb).1 _ 7 (lt_of_block HQ7.out)).trans (cell_of_row _ _ _ _ _ _ HQ7.out)⟩
      go_wp2_with fail
      go_cut [10,11] from 60 to 70 (fun va vb wx => ∃ (x8 : Nat) (pa2 : Option Addr) (pn2 pc2 : Nat),va = .pointer (some ⟨x8,0,none⟩) ∧ vb = .int .i64 er ∧ z7.heap.size ≤ x8 ∧ Hid (wx.heap[x8]? = some (.cells #[.int .i64 pq.veh,.slice pa2 pn2 pc2,.int .i64 pq.time,.int .i64 pq.dist,.int .i64 pq.wait,.int .i64 pq.serv,.int .i64 pq.cost] 71 (0,0))) ∧ Hid (∀ v,PlanV (wx.setCell ⟨x8,0,none⟩ v) z7.heap.size (.agg #[.int .i64 pq.veh,.slice pa2 pn2 pc2,.int .i64 pq.time,.int .i64 pq.dist,.int .i64 pq.wait,.int .i64 pq.serv,.int .i64 pq.cost]) pq) ∧ Hid (Below z7.heap.size z7 wx))
      case first =>
       refine wp_region_held_drew (S := (fun w' => w'.cell? ⟨w3.heap.size,0,none⟩ = some (.int .i64 p.dims) ∧ w'.cell? ⟨w3.heap.size,1,none⟩ = some (.int .i64 p.time.n) ∧ w'.cell? ⟨w3.heap.size,2,none⟩ = some (.slice t3 p.time.cells.length c3t) ∧ w'.cell? ⟨w3.heap.size,3,none⟩ = some (.int .i64 p.dist.n) ∧ w'.cell? ⟨w3.heap.size,4,none⟩ = some (.slice d3 p.dist.cells.length c3d) ∧ w'.cell? ⟨w3.heap.size,5,none⟩ = some (.slice (some ⟨g9,0,none⟩) n1 cap9) ∧ w'.cell? ⟨w3.heap.size,6,none⟩ = some (.slice j3 p.js.length c3j) ∧ w'.cell? ⟨w3.heap.size,7,none⟩ = some (.slice s3 p.ss.length c3s))) (by kernel_rfl) ?_ (fun hHeld0 => ?_)
       ·(try dsimp only);first | fail | exact HS7.out _ (Below.refl _ _) | exact HS7.out _ ((Below.refl _ _).drew) | (go_keep;done)
       obtain ⟨u0,hu0⟩ : ∃ u,z7.drew = u := ⟨_,rfl⟩
       rw [hu0]
       rw [hu0] at hHeld0
       have K0 : Hid (Below z7.heap.size z7 u0) := by show Below _ _ _;rw [← hu0];exact ((Below.refl _ _).drew)
       clear hu0
       refine Mn.t 0 (oi := ⟨some 61,.load 29 (.tmp 7),29,"law.go:227",#[],none⟩) ?_
       try simp only [Act.put,List.setIfInBounds_toArray]
       refine Mn.t 1 (oi := ⟨some 62,.fieldAddr 29 (.tmp 7) 3,0,"law.go:227",#[],none⟩) ?_
       try simp only [Act.put,List.setIfInBounds_toArray]
       refine Mn.t 2 (oi := ⟨some 63,.load 25 (.tmp 62),25,"law.go:227",#[⟨1,.data⟩],none⟩) ?_
       try simp only [Act.put,List.setIfInBounds_toArray]
       refine Mn.t 3 (oi := ⟨some 64,.call { callee := .builtin .len,args := #[.tmp 63],argTypes := #[25] },3,"law.go:227",#[⟨2,.data⟩],none⟩) ?_
       try simp only [Act.put,List.setIfInBounds_toArray]
       refine Mn.t 4 (oi := ⟨some 65,.binOp .sub 3 (.tmp 64) (.const (.int .i64 1)) 3,3,"law.go:227",#[⟨3,.data⟩],none⟩) ?_
       try simp only [Act.put,List.setIfInBounds_toArray]
       refine Mn.t 5 (oi := ⟨some 66,.move (.tmp 2),55,"law.go:227",#[],none⟩) ?_
       try simp only [Act.put,List.setIfInBounds_toArray]
       refine wpAnyH_ready (rs := [6,11]) (by kernel_rfl) (by simp) ?_
       refine AllReadyH.cons (o := ⟨some 67,.call { callee := .value (.func 37),args := #[.tmp 66],argTypes := #[55] },55,"law.go:227",#[⟨5,.data⟩],none⟩) rfl (fun K hK => ?_) ?_
       ·refine held_call (by rfl) 37 _ _ (by rfl) hent37 [.slice va m vc] (by rfl) ?_;refine (H37.out _ (below_on HBW.out (below_on K6.out (below_on K7.out K0.out)))).mono ?_;rintro e u1 ⟨g3,cc3,rfl,⟨R9,q8⟩,k9⟩;refine ⟨_,rfl,?_⟩;have E1 := hide k9;have K1 := hide (below_on K0.out k9);clear k9
        have HV1 := hide (R9.vs (by rw [HM.out];omega))
        have HC1 := hide (q8)
        refine hK.out _ _ ?_ (fun hHeld1 => ?_)
        ·(try dsimp only);exact HS7.out _ K1.out
        clear hK K
        try simp only [Act.put,List.setIfInBounds_toArray]
        clear hHeld0
        refine wpAnyH_ready (rs := [7,11]) (by kernel_rfl) (by simp) ?_
        refine AllReadyH.cons (o := ⟨some 68,.call { callee := .value (.func 40),args := #[.tmp 61,.tmp 65,.tmp 67],argTypes := #[29,3,55] },72,"law.go:227",#[⟨0,.data⟩,⟨4,.data⟩,⟨6,.data⟩,⟨6,.chain⟩],none⟩) rfl (fun K hK => ?_) ?_
        ·refine held_call (by rfl) 40 _ _ (by rfl) hent40 [.agg #[.int .i64 p.dims,.int .i64 p.time.n,.slice t3 p.time.cells.length c3t,.int .i64 p.dist.n,.slice d3 p.dist.cells.length c3d,.slice (some ⟨g9,0,none⟩) n1 cap9,.slice j3 p.js.length c3j,.slice s3 p.ss.length c3s],.int .i64 (nv : Int),.slice (some ⟨g3,0,none⟩) m cc3] (by rfl) ?_;refine (H40b.out _ _ _ (below_on K7.out K1.out) HV1.out HC1.out).mono ?_;rintro e u2 ⟨pa2,pn2,pc2,rfl,q9,k9⟩;refine ⟨_,rfl,?_⟩;have E2 := hide k9;have K2 := hide (below_on K1.out k9);clear k9
         have HV2 := hide (PrV.on HV1.out E2.out)
         have HC2 := hide (HC1.out)
         clear HV1 HC1
         have HPL2 := hide (q9)
         refine hK.out _ _ ?_ (fun hHeld2 => ?_)
         ·(try dsimp only);exact HS7.out _ K2.out
         clear hK K
         try simp only [Act.put,List.setIfInBounds_toArray]
         clear hHeld1
         refine Mn.t 8 (oi := ⟨some 60,.move (.tmp 68),72,"law.go:227",#[⟨7,.data⟩],none⟩) ?_
         try simp only [Act.put,List.setIfInBounds_toArray]
         refine Mn.t 9 (oi := ⟨some 69,.extract (.tmp 60) 0,71,"law.go:227",#[⟨8,.data⟩],none⟩) ?_
         try simp only [Act.put,List.setIfInBounds_toArray]
         refine Mn.t 10 (oi := ⟨some 70,.extract (.tmp 60) 1,62,"law.go:227",#[⟨8,.data⟩,⟨12,.gcOnly .lateStores⟩],none⟩) ?_
         try simp only [Act.put,List.setIfInBounds_toArray]
         refine wpAnyH_ready (rs := [11]) (by kernel_rfl) (by simp) ?_
         refine AllReadyH.cons (o := ⟨some 10,.alloc 71,0,"law.go:227",#[],none⟩) rfl (fun K hK => ?_) ?_
         ·go_simp
          refine hK.out _ _ ?_ (fun hHeld3 => ?_)
          ·(try dsimp only);exact HS7.out _ (below_on K2.out ((Below.refl _ _).alloc (Nat.le_refl _) _))
          clear hK K
          try simp only [Act.put,List.setIfInBounds_toArray]
          clear hHeld2
          refine wpAnyH_ready (rs := [12]) (by kernel_rfl) (by simp) ?_
          refine AllReadyH.cons (o := ⟨none,.store 71 (.tmp 10) (.tmp 69),0,"law.go:227",#[⟨11,.data⟩,⟨9,.data⟩,⟨7,.chain⟩,⟨0,.phase⟩,⟨1,.phase⟩,⟨2,.phase⟩,⟨3,.phase⟩,⟨4,.phase⟩,⟨5,.phase⟩,⟨6,.phase⟩,⟨7,.phase⟩,⟨8,.phase⟩,⟨9,.phase⟩,⟨10,.textOnly .lateStores⟩,⟨11,.phase⟩],none⟩) rfl (fun K hK => ?_) ?_
          ·obtain ⟨sb0,sb1,sb2,sb3,sb4,sb5,sb6,sb7⟩ := HS7.out _ K2.out
           have m80 : ¬ w3.heap.size = u2.heap.size := (by have h1 := L37.out;have h2 := K2.out.size;omega)
           go_simp
           refine hK.out _ _ ?_ (fun hHeld4 => ?_)
           · (try dsimp only);(first | (go_keep;done) | (refine ⟨?_,?_,?_,?_,?_,?_,?_,?_⟩ <;> (refine cell_same (w := u2) ?_ (by assumption);(repeat rw [heap_setCell_other _ _ _ _ (by simp;omega)]))))
           clear hK K sb0 sb1 sb2 sb3 sb4 sb5 sb6 sb7
           try simp only [Act.put,List.setIfInBounds_toArray]
           clear hHeld3
           refine Mn.t 13 (oi := ⟨some 11,.assign (.tmp 70),62,"law.go:227",#[⟨10,.data⟩,⟨12,.chain⟩,⟨0,.phase⟩,⟨1,.phase⟩,⟨2,.phase⟩,⟨3,.phase⟩,⟨4,.phase⟩,⟨5,.phase⟩,⟨6,.phase⟩,⟨7,.phase⟩,⟨8,.phase⟩,⟨9,.phase⟩,⟨10,.phase⟩,⟨11,.phase⟩,⟨12,.phase⟩],none⟩) ?_
           try simp only [Act.put,List.setIfInBounds_toArray]
           refine wpAnyH_done (by kernel_rfl) ?_ _
           clear hHeld4
           go_wp2_with fail
           go_meet
           case rel => exact ⟨u2.heap.size,pa2,pn2,pc2,rfl,rfl,K2.out.size,new_block u2 _,(fun v => PlanV.mono (HPL2.out.on (Below.setCell ((Below.refl _ _).alloc (Nat.le_refl _) _) (Nat.le_refl _) v)) K1.out.size),below_on K2.out ((Below.refl _ _).alloc (Nat.le_refl _) _)⟩
          exact AllReadyH.nil
         exact AllReadyH.nil
        refine AllReadyH.cons (o := ⟨some 10,.alloc 71,0,"law.go:227",#[],none⟩) rfl (fun K hK => ?_) ?_
        ·go_simp
         refine hK.out _ _ ?_ (fun hHeld5 => ?_)
         ·(try dsimp only);exact HS7.out _ (below_on K1.out ((Below.refl _ _).alloc (Nat.le_refl _) _))
         clear hK K
         try simp only [Act.put,List.setIfInBounds_toArray]
         clear hHeld1
         have LT2 : Hid (u1.heap.size < (u1.alloc (.cells #[.int .i64 0,.slice none 0 0,.int .i64 0,.int .i64 0,.int .i64 0,.int .i64 0,.int .i64 0] 71)).heap.size) := (by show _ < _;simp)
         obtain ⟨u2,hu2⟩ : ∃ u,u1.alloc (.cells #[.int .i64 0,.slice none 0 0,.int .i64 0,.int .i64 0,.int .i64 0,.int .i64 0,.int .i64 0] 71) = u := ⟨_,rfl⟩
         rw [hu2]
         rw [hu2] at hHeld5 LT2
         have E2 : Hid (Below u1.heap.size u1 u2) := by show Below _ _ _;rw [← hu2];exact ((Below.refl _ _).alloc (Nat.le_refl _) _)
         have K2 := hide (below_on K1.out E2.out)
         have HV2 := hide (PrV.on HV1.out E2.out)
         have HC2 := hide (HC1.out)
         clear HV1 HC1
         have HX2 : Hid (u2.heap[u1.heap.size]? = some (.cells #[.int .i64 0,.slice none 0 0,.int .i64 0,.int .i64 0,.int .i64 0,.int .i64 0,.int .i64 0] 71)) := by show _ = _;rw [← hu2];exact new_block _ _
         clear hu2
         refine wpAnyH_ready (rs := [7]) (by kernel_rfl) (by simp) ?_
         refine AllReadyH.cons (o := ⟨some 68,.call { callee := .value (.func 40),args := #[.tmp 61,.tmp 65,.tmp 67],argTypes := #[29,3,55] },72,"law.go:227",#[⟨0,.data⟩,⟨4,.data⟩,⟨6,.data⟩,⟨6,.chain⟩],none⟩) rfl (fun K hK => ?_) ?_
         ·refine held_call (by rfl) 40 _ _ (by rfl) hent40 [.agg #[.int .i64 p.dims,.int .i64 p.time.n,.slice t3 p.time.cells.length c3t,.int .i64 p.dist.n,.slice d3 p.dist.cells.length c3d,.slice (some ⟨g9,0,none⟩) n1 cap9,.slice j3 p.js.length c3j,.slice s3 p.ss.length c3s],.int .i64 (nv : Int),.slice (some ⟨g3,0,none⟩) m cc3] (by rfl) ?_;refine (H40b.out _ _ _ (below_on K7.out K2.out) HV2.out HC2.out).mono ?_;rintro e u3 ⟨pa2,pn2,pc2,rfl,q9,k9⟩;refine ⟨_,rfl,?_⟩;have E3 := hide k9;have K3 := hide (below_on K2.out k9);clear k9
          have HV3 := hide (PrV.on HV2.out E3.out)
          have HC3 := hide (HC2.out)
          have HX3 := hide ((E3.out.block _ (lt_of_block HX2.out)).trans HX2.out)
          clear HV2 HC2 HX2
          have HPL3 := hide (q9)
          refine hK.out _ _ ?_ (fun hHeld6 => ?_)
          ·(try dsimp only);exact HS7.out _ K3.out
          clear hK K
          try simp only [Act.put,List.setIfInBounds_toArray]
          clear hHeld5
          refine Mn.t 8 (oi := ⟨some 60,.move (.tmp 68),72,"law.go:227",#[⟨7,.data⟩],none⟩) ?_
          try simp only [Act.put,List.setIfInBounds_toArray]
          refine Mn.t 9 (oi := ⟨some 69,.extract (.tmp 60) 0,71,"law.go:227",#[⟨8,.data⟩],none⟩) ?_
          try simp only [Act.put,List.setIfInBounds_toArray]
          refine Mn.t 10 (oi := ⟨some 70,.extract (.tmp 60) 1,62,"law.go:227",#[⟨8,.data⟩,⟨12,.gcOnly .lateStores⟩],none⟩) ?_
          try simp only [Act.put,List.setIfInBounds_toArray]
          refine wpAnyH_ready (rs := [12]) (by kernel_rfl) (by simp) ?_
          refine AllReadyH.cons (o := ⟨none,.store 71 (.tmp 10) (.tmp 69),0,"law.go:227",#[⟨11,.data⟩,⟨9,.data⟩,⟨7,.chain⟩,⟨0,.phase⟩,⟨1,.phase⟩,⟨2,.phase⟩,⟨3,.phase⟩,⟨4,.phase⟩,⟨5,.phase⟩,⟨6,.phase⟩,⟨7,.phase⟩,⟨8,.phase⟩,⟨9,.phase⟩,⟨10,.textOnly .lateStores⟩,⟨11,.phase⟩],none⟩) rfl (fun K hK => ?_) ?_
          ·obtain ⟨sb0,sb1,sb2,sb3,sb4,sb5,sb6,sb7⟩ := HS7.out _ K3.out
           have m80 : ¬ w3.heap.size = u1.heap.size := (by have h1 := L37.out;have h2 := K1.out.size;omega)
           obtain ⟨gc0,gc1,gc2,gc3,gc4,gc5,gc6,gf0,gf1,gf2,gf3,gf4,gf5,gf6⟩ := Mn.x7 (HX3.out)
           go_simp
           refine hK.out _ _ ?_ (fun hHeld7 => ?_)
           · (try dsimp only);(first | (go_keep;done) | (refine ⟨?_,?_,?_,?_,?_,?_,?_,?_⟩ <;> (refine cell_same (w := u3) ?_ (by assumption);(repeat rw [heap_setCell_other _ _ _ _ (by simp;omega)]))))
           clear hK K sb0 sb1 sb2 sb3 sb4 sb5 sb6 sb7
           try simp only [Act.put,List.setIfInBounds_toArray]
           clear hHeld6
           refine Mn.t 13 (oi := ⟨some 11,.assign (.tmp 70),62,"law.go:227",#[⟨10,.data⟩,⟨12,.chain⟩,⟨0,.phase⟩,⟨1,.phase⟩,⟨2,.phase⟩,⟨3,.phase⟩,⟨4,.phase⟩,⟨5,.phase⟩,⟨6,.phase⟩,⟨7,.phase⟩,⟨8,.phase⟩,⟨9,.phase⟩,⟨10,.phase⟩,⟨11,.phase⟩,⟨12,.phase⟩],none⟩) ?_
           try simp only [Act.put,List.setIfInBounds_toArray]
           refine wpAnyH_done (by kernel_rfl) ?_ _
           clear hHeld7
           go_wp2_with fail
           go_meet
           case rel =>
            obtain ⟨wz,hwz,hz1,hz2⟩ := put7 (.int .i64 pq.veh) (.slice pa2 pn2 pc2) (.int .i64 pq.time) (.int .i64 pq.dist) (.int .i64 pq.wait) (.int .i64 pq.serv) (.int .i64 pq.cost) HX3.out
            rw [← hwz]
            exact ⟨u1.heap.size,pa2,pn2,pc2,rfl,rfl,K1.out.size,hz1,(fun v => PlanV.mono (HPL3.out.set (grw_set hz2 0 v) LT2.out) K2.out.size),K3.out.trans (grw_low hz2 K1.out.size K3.out.size)⟩
          exact AllReadyH.nil
         exact AllReadyH.nil
        exact AllReadyH.nil
       refine AllReadyH.cons (o := ⟨some 10,.alloc 71,0,"law.go:227",#[],none⟩) rfl (fun K hK => ?_) ?_
       ·go_simp
        refine hK.out _ _ ?_ (fun hHeld8 => ?_)
        ·(try dsimp only);exact HS7.out _ (below_on K0.out ((Below.refl _ _).alloc (Nat.le_refl _) _))
        clear hK K
        try simp only [Act.put,List.setIfInBounds_toArray]
        clear hHeld0
        have LT1 : Hid (u0.heap.size < (u0.alloc (.cells #[.int .i64 0,.slice none 0 0,.int .i64 0,.int .i64 0,.int .i64 0,.int .i64 0,.int .i64 0] 71)).heap.size) := (by show _ < _;simp)
        obtain ⟨u1,hu1⟩ : ∃ u,u0.alloc (.cells #[.int .i64 0,.slice none 0 0,.int .i64 0,.int .i64 0,.int .i64 0,.int .i64 0,.int .i64 0] 71) = u := ⟨_,rfl⟩
        rw [hu1]
        rw [hu1] at hHeld8 LT1
        have E1 : Hid (Below u0.heap.size u0 u1) := by show Below _ _ _;rw [← hu1];exact ((Below.refl _ _).alloc (Nat.le_refl _) _)
        have K1 := hide (below_on K0.out E1.out)
        have HX1 : Hid (u1.heap[u0.heap.size]? = some (.cells #[.int .i64 0,.slice none 0 0,.int .i64 0,.int .i64 0,.int .i64 0,.int .i64 0,.int .i64 0] 71)) := by show _ = _;rw [← hu1];exact new_block _ _
        clear hu1
        refine wpAnyH_ready (rs := [6]) (by kernel_rfl) (by simp) ?_
        refine AllReadyH.cons (o := ⟨some 67,.call { callee := .value (.func 37),args := #[.tmp 66],argTypes := #[55] },55,"law.go:227",#[⟨5,.data⟩],none⟩) rfl (fun K hK => ?_) ?_
        ·refine held_call (by rfl) 37 _ _ (by rfl) hent37 [.slice va m vc] (by rfl) ?_;refine (H37.out _ (below_on HBW.out (below_on K6.out (below_on K7.out K1.out)))).mono ?_;rintro e u2 ⟨g3,cc3,rfl,⟨R9,q8⟩,k9⟩;refine ⟨_,rfl,?_⟩;have E2 := hide k9;have K2 := hide (below_on K1.out k9);clear k9
         have HX2 := hide ((E2.out.block _ (lt_of_block HX1.out)).trans HX1.out)
         clear HX1
         have HV2 := hide (R9.vs (by rw [HM.out];omega))
         have HC2 := hide (q8)
         refine hK.out _ _ ?_ (fun hHeld9 => ?_)
         ·(try dsimp only);exact HS7.out _ K2.out
         clear hK K
         try simp only [Act.put,List.setIfInBounds_toArray]
         clear hHeld8
         refine wpAnyH_ready (rs := [7]) (by kernel_rfl) (by simp) ?_
         refine AllReadyH.cons (o := ⟨some 68,.call { callee := .value (.func 40),args := #[.tmp 61,.tmp 65,.tmp 67],argTypes := #[29,3,55] },72,"law.go:227",#[⟨0,.data⟩,⟨4,.data⟩,⟨6,.data⟩,⟨6,.chain⟩],none⟩) rfl (fun K hK => ?_) ?_
         ·refine held_call (by rfl) 40 _ _ (by rfl) hent40 [.agg #[.int .i64 p.dims,.int .i64 p.time.n,.slice t3 p.time.cells.length c3t,.int .i64 p.dist.n,.slice d3 p.dist.cells.length c3d,.slice (some ⟨g9,0,none⟩) n1 cap9,.slice j3 p.js.length c3j,.slice s3 p.ss.length c3s],.int .i64 (nv : Int),.slice (some ⟨g3,0,none⟩) m cc3] (by rfl) ?_;refine (H40b.out _ _ _ (below_on K7.out K2.out) HV2.out HC2.out).mono ?_;rintro e u3 ⟨pa2,pn2,pc2,rfl,q9,k9⟩;refine ⟨_,rfl,?_⟩;have E3 := hide k9;have K3 := hide (below_on K2.out k9);clear k9
          have HX3 := hide ((E3.out.block _ (lt_of_block HX2.out)).trans HX2.out)
          have HV3 := hide (PrV.on HV2.out E3.out)
          have HC3 := hide (HC2.out)
          clear HX2 HV2 HC2
          have HPL3 := hide (q9)
          refine hK.out _ _ ?_ (fun hHeld10 => ?_)
          ·(try dsimp only);exact HS7.out _ K3.out
          clear hK K
          try simp only [Act.put,List.setIfInBounds_toArray]
          clear hHeld9
          refine Mn.t 8 (oi := ⟨some 60,.move (.tmp 68),72,"law.go:227",#[⟨7,.data⟩],none⟩) ?_
          try simp only [Act.put,List.setIfInBounds_toArray]
          refine Mn.t 9 (oi := ⟨some 69,.extract (.tmp 60) 0,71,"law.go:227",#[⟨8,.data⟩],none⟩) ?_
          try simp only [Act.put,List.setIfInBounds_toArray]
          refine Mn.t 10 (oi := ⟨some 70,.extract (.tmp 60) 1,62,"law.go:227",#[⟨8,.data⟩,⟨12,.gcOnly .lateStores⟩],none⟩) ?_
          try simp only [Act.put,List.setIfInBounds_toArray]
          refine wpAnyH_ready (rs := [12]) (by kernel_rfl) (by simp) ?_
          refine AllReadyH.cons (o := ⟨none,.store 71 (.tmp 10) (.tmp 69),0,"law.go:227",#[⟨11,.data⟩,⟨9,.data⟩,⟨7,.chain⟩,⟨0,.phase⟩,⟨1,.phase⟩,⟨2,.phase⟩,⟨3,.phase⟩,⟨4,.phase⟩,⟨5,.phase⟩,⟨6,.phase⟩,⟨7,.phase⟩,⟨8,.phase⟩,⟨9,.phase⟩,⟨10,.textOnly .lateStores⟩,⟨11,.phase⟩],none⟩) rfl (fun K hK => ?_) ?_
          ·obtain ⟨sb0,sb1,sb2,sb3,sb4,sb5,sb6,sb7⟩ := HS7.out _ K3.out
           have m80 : ¬ w3.heap.size = u0.heap.size := (by have h1 := L37.out;have h2 := K0.out.size;omega)
           obtain ⟨gc0,gc1,gc2,gc3,gc4,gc5,gc6,gf0,gf1,gf2,gf3,gf4,gf5,gf6⟩ := Mn.x7 (HX3.out)
           go_simp
           refine hK.out _ _ ?_ (fun hHeld11 => ?_)
           · (try dsimp only);(first | (go_keep;done) | (refine ⟨?_,?_,?_,?_,?_,?_,?_,?_⟩ <;> (refine cell_same (w := u3) ?_ (by assumption);(repeat rw [heap_setCell_other _ _ _ _ (by simp;omega)]))))
           clear hK K sb0 sb1 sb2 sb3 sb4 sb5 sb6 sb7
           try simp only [Act.put,List.setIfInBounds_toArray]
           clear hHeld10
           refine Mn.t 13 (oi := ⟨some 11,.assign (.tmp 70),62,"law.go:227",#[⟨10,.data⟩,⟨12,.chain⟩,⟨0,.phase⟩,⟨1,.phase⟩,⟨2,.phase⟩,⟨3,.phase⟩,⟨4,.phase⟩,⟨5,.phase⟩,⟨6,.phase⟩,⟨7,.phase⟩,⟨8,.phase⟩,⟨9,.phase⟩,⟨10,.phase⟩,⟨11,.phase⟩,⟨12,.phase⟩],none⟩) ?_
           try simp only [Act.put,List.setIfInBounds_toArray]
           refine wpAnyH_done (by kernel_rfl) ?_ _
           clear hHeld11
           go_wp2_with fail
           go_meet
           case rel =>
            obtain ⟨wz,hwz,hz1,hz2⟩ := put7 (.int .i64 pq.veh) (.slice pa2 pn2 pc2) (.int .i64 pq.time) (.int .i64 pq.dist) (.int .i64 pq.wait) (.int .i64 pq.serv) (.int .i64 pq.cost) HX3.out
            rw [← hwz]
            exact ⟨u0.heap.size,pa2,pn2,pc2,rfl,rfl,K0.out.size,hz1,(fun v => PlanV.mono (HPL3.out.set (grw_set hz2 0 v) (Nat.lt_of_lt_of_le LT1.out E2.out.size)) K2.out.size),K3.out.trans (grw_low hz2 K0.out.size K3.out.size)⟩
          exact AllReadyH.nil
         exact AllReadyH.nil
        exact AllReadyH.nil
       exact AllReadyH.nil
      case rest =>
      obtain ⟨x10,pa2,pn2,pc2,rfl,rfl,hx10,HX10,HPL8,K8⟩ := hcut
      rename World => z8
      have HX8b := hide ((K8.out.block _ (lt_of_block HX8.out)).trans HX8.out)
      have EE := hide (below_on HBW.out (below_on K6.out (below_on K7.out K8.out)))
      have hne : ¬ x8 = x10 := by have h1 := lt_of_block HX8.out;omega
      have hne2 : ¬ x10 = x8 := fun e => hne e.symm
      have HEX : Hid (w.heap.size ≤ x10) := by show _ ≤ _;have h1 := HBW.out.size;have h2 := K6.out.size;have h3 := K7.out.size;omega
      by_cases he0 : er = 0
      ·subst he0
       have y7 : ((0 : Int) != 0) = false := rfl
       have y8 : ((0 : Int) == 0) = true := rfl
       have hpe := HFA.out rfl
       have t1 : pq.time = pr.time := by rw [hpe]
       have t2 : pq.dist = pr.dist := by rw [hpe]
       have t3 : pq.wait = pr.wait := by rw [hpe]
       have t4 : pq.serv = pr.serv := by rw [hpe]
       have t5 : pq.cost = pr.cost := by rw [hpe]
       have t0 : pr.veh = (k : Int) := by rw [hpe]
       have za0 : z8.cell? ⟨x8,0,none⟩ = some (.int .i64 pr.veh) := cell_of_row _ _ _ _ _ _ HX8b.out
       have za1 : z8.cell? ⟨x8,1,none⟩ = some (.slice pa1 pn1 pc1) := cell_of_row _ _ _ _ _ _ HX8b.out
       have za2 : z8.cell? ⟨x8,2,none⟩ = some (.int .i64 pr.time) := cell_of_row _ _ _ _ _ _ HX8b.out
       have za3 : z8.cell? ⟨x8,3,none⟩ = some (.int .i64 pr.dist) := cell_of_row _ _ _ _ _ _ HX8b.out
       have za4 : z8.cell? ⟨x8,4,none⟩ = some (.int .i64 pr.wait) := cell_of_row _ _ _ _ _ _ HX8b.out
       have za5 : z8.cell? ⟨x8,5,none⟩ = some (.int .i64 pr.serv) := cell_of_row _ _ _ _ _ _ HX8b.out
       have za6 : z8.cell? ⟨x8,6,none⟩ = some (.int .i64 pr.cost) := cell_of_row _ _ _ _ _ _ HX8b.out
       have zb0 : z8.cell? ⟨x10,0,none⟩ = some (.int .i64 pq.veh) := cell_of_row _ _ _ _ _ _ HX10.out
       have zb1 : z8.cell? ⟨x10,1,none⟩ = some (.slice pa2 pn2 pc2) := cell_of_row _ _ _ _ _ _ HX10.out
       have zb2 : z8.cell? ⟨x10,2,none⟩ = some (.int .i64 pq.time) := cell_of_row _ _ _ _ _ _ HX10.out
       have zb3 : z8.cell? ⟨x10,3,none⟩ = some (.int .i64 pq.dist) := cell_of_row _ _ _ _ _ _ HX10.out
       have zb4 : z8.cell? ⟨x10,4,none⟩ = some (.int .i64 pq.wait) := cell_of_row _ _ _ _ _ _ HX10.out
       have zb5 : z8.cell? ⟨x10,5,none⟩ = some (.int .i64 pq.serv) := cell_of_row _ _ _ _ _ _ HX10.out
       have zb6 : z8.cell? ⟨x10,6,none⟩ = some (.int .i64 pq.cost) := cell_of_row _ _ _ _ _ _ HX10.out
       have zf0 : z8.frozen? ⟨x10,0,none⟩ = false := frz_row HX10.out
       rw [t0] at za0
       rw [t1] at zb2
       rw [t2] at zb3
       rw [t3] at zb4
       rw [t4] at zb5
       rw [t5] at zb6
       have H1 : Hid (PlanW (z8.setCell ⟨x10,0,none⟩ (.int .i64 (k : Int))) z6.heap.size (.agg #[.int .i64 (k : Int),.slice pa1 pn1 pc1,.int .i64 pr.time,.int .i64 pr.dist,.int .i64 pr.wait,.int .i64 pr.serv,.int .i64 pr.cost]) pr) := by
        have h9 := (HPL7.out.on (Below.setCell (p := ⟨x10,0,none⟩) K8.out hx10 (.int .i64 (k : Int)))).w
        rw [t0] at h9
        exact h9
       have H2 : Hid (PlanW (z8.setCell ⟨x10,0,none⟩ (.int .i64 (k : Int))) z7.heap.size (.agg #[.int .i64 (k : Int),.slice pa2 pn2 pc2,.int .i64 pr.time,.int .i64 pr.dist,.int .i64 pr.wait,.int .i64 pr.serv,.int .i64 pr.cost]) pr) := by
        have h9 := (planv_veh (i := (k : Int)) (HPL8.out (.int .i64 (k : Int)))).w
        rw [← hpe] at h9
        rw [t1,t2,t3,t4,t5] at h9
        exact h9
       have H39 : Hid (Calls Try.prog 39 #[.agg #[.int .i64 (k : Int),.slice pa1 pn1 pc1,.int .i64 pr.time,.int .i64 pr.dist,.int .i64 pr.wait,.int .i64 pr.serv,.int .i64 pr.cost],.agg #[.int .i64 (k : Int),.slice pa2 pn2 pc2,.int .i64 pr.time,.int .i64 pr.dist,.int .i64 pr.wait,.int .i64 pr.serv,.int .i64 pr.cost]] (z8.setCell ⟨x10,0,none⟩ (.int .i64 (k : Int))) fun e w' => e = .returned (.bool true) ∧ Below (z8.setCell ⟨x10,0,none⟩ (.int .i64 (k : Int))).heap.size (z8.setCell ⟨x10,0,none⟩ (.int .i64 (k : Int))) w') := same39_w H1.out H2.out HSML.out.1 HSML.out.2
       clear t0 t1 t2 t3 t4 t5 hpe
       go_wp2_with (first | (go_at_call 39;refine H39.out.mono ?_;rintro e wh ⟨rfl,kh⟩;have Eh := hide (below_on (Below.setCell (p := ⟨x10,0,none⟩) EE.out HEX.out (.int .i64 (k : Int))) kh);clear kh) | fail)
       go_ret
       exact ⟨rfl,Eh.out⟩
      ·have y7 : (er != 0) = true := by simpa using he0
       have y8 : (er == er) = true := by simp
       go_wp2_with fail
       go_ret
       exact ⟨rfl,EE.out⟩
end Go.Proofs.Ytgjpkpmikbpcnaa
