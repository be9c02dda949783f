/-
  The law PlanBreaks: wherever the breaks stand, time, distance, cost and service are the same.
-/
import Derived.Deep.CutRange
import Derived.Test.YtgjpkpmikbpcnaaBBrkQ
import Derived.Test.YtgjpkpmikbpcnaaBLoaL
import Derived.Test.YtgjpkpmikbpcnaaXCpVG
import Derived.Test.YtgjpkpmikbpcnaaXLinBG
import Derived.Test.YtgjpkpmikbpcnaaXOfW
import Derived.Test.YtgjpkpmikbpcnaaXPtsG
import Derived.Test.YtgjpkpmikbpcnaaXCpX
import Derived.Test.YtgjpkpmikbpcnaaXRChk
import Derived.Test.YtgjpkpmikbpcnaaXMin
namespace Go.Proofs.Ytgjpkpmikbpcnaa
open Go.RowKit
theorem held_store {P : Program} {ops : Array Oper} {o : Oper} {a : Act} {w : World} {K : Act → World → Prop} {Q : Exit → Act → World → Prop} {E : Prop} (hgd : o.guard = none) (ty : TypeId) (x y : Operand) (ho : o.op = .store ty x y)
  (g : Nat) (cells : Array Value) (hx : a.eval x = .pointer (some ⟨g,0,none⟩)) (hy : a.eval y = .agg cells)
  (t : TypeId) (old : Array Value) (hg : w.heap[g]? = some (.cells old t (0,0))) (hi : (P.info? ty).map (·.size) = some cells.size)
  (hold : old.size = cells.size) (h1 : cells.all (·.oneCell') = true) (h : K (a.put o.dst undef) (w.setRow g cells)) :
  if Region.wanted o (yielded ops a.tmps) = true then Oper.wp P o a w K Q else E := by
 rw [if_pos (by simp [Region.wanted,hgd])]
 exact wp_store_row ty x y ho g cells hx hy t old hg hi hold h1 h
theorem grw_row (w : World) (g : Nat) (cs : Array Value) : w.grownBy (w.setRow g cs) (some g) := ⟨rfl,rfl,rfl,Nat.le_of_eq (size_setRow w g cs).symm,fun k _ hn => setRow_other w g k cs (fun e => hn (by rw [e]))⟩
theorem umod_len (x : Int) (m : Nat) (hm : (m : Int) ≤ 30) : ∃ r : Nat,(IntKind.u64.wrap x).tmod ((m : Int) + 1) = r ∧ r ≤ m := by
 have h0 : 0 ≤ IntKind.u64.wrap x := by rw [IntKind.wrap_u64];omega
 have h1 := Int.tmod_lt_of_pos (IntKind.u64.wrap x) (show (0 : Int) < (m : Int) + 1 by omega)
 have h2 := Int.tmod_nonneg ((m : Int) + 1) h0
 exact ⟨((IntKind.u64.wrap x).tmod ((m : Int) + 1)).toNat,by omega,by omega⟩
theorem hent37 (args : Array Value) (w : World) : (callFunc 37 args).run Try.prog w = .ok (.enter 37 args) w := Go.Proofs.enters_of Try.func37 (by kernel_rfl) rfl args w
theorem hent17 (args : Array Value) (w : World) : (callFunc 17 args).run Try.prog w = .ok (.enter 17 args) w := Go.Proofs.enters_of Try.func17 (by kernel_rfl) rfl args w
theorem ints_take {w : World} {a : Addr} {i j n : Nat} (h : IntsAt w (some a) [(i : Int),(j : Int)]) (hn : n ≤ 2) : IntsAt w (some a) ((([i,j] : List Nat).take n).map fun z : Nat => (z : Int)) := fun k hk => by
 have h3 : n = 0 ∨ n = 1 ∨ n = 2 := by omega
 rcases h3 with rfl | rfl | rfl
 ·simp at hk
 ·have : k = 0 := by simp at hk;omega
  subst this
  exact h 0 (by simp)
 ·have : k = 0 ∨ k = 1 := by simp at hk;omega
  rcases this with rfl | rfl
  ·exact h 0 (by simp)
  ·exact h 1 (by simp)
set_option maxRecDepth 100000 in
set_option maxHeartbeats 25600000 in
theorem breaksL_any {w : World} {x : PrbS} {p : Prb} {m vc : Nat} {va : Option Addr} {V : List Vst} (h : PrbV w x p) (hV : VsV w (.slice va m vc) V) (hm : V.length = m) (hz : va = none → vc = 0) (vi a0 a1 : Int) : Calls Try.prog 11 #[.agg (prbE p x),.int .i64 vi,.slice va m vc,.agg #[.int .i64 a0,.int .i64 a1]] w fun e w' => e = .returned (.bool true) ∧ Below w.heap.size w w' := by
 have HP := hide h
 have HV := hide hV
 have HM := hide hm
 have HZ := hide hz
 have hmb : m * 16 ≤ 140737488351232 := by obtain ⟨_,_,e,hb,_⟩ := hV;rw [← hm];exact hb
 clear hV hm hz
 obtain ⟨ta,tc,da,dc,va',vc',ja,jc,sa,sc,rfl⟩ := h.open
 clear h
 obtain ⟨bb,hbb⟩ : ∃ b,lawM p = b := ⟨_,rfl⟩
 have HL := hide hbb
 clear hbb
 obtain ⟨nv,hnv⟩ : ∃ z,p.vs.length = z := ⟨_,rfl⟩
 have HNV := hide hnv
 have HTE : Hid (prbE p ⟨.slice ta p.time.cells.length tc,.slice da p.dist.cells.length dc,.slice va' p.vs.length vc',.slice ja p.js.length jc,.slice sa p.ss.length sc⟩ = #[.int .i64 p.dims,.int .i64 p.time.n,.slice ta p.time.cells.length tc,.int .i64 p.dist.n,.slice da p.dist.cells.length dc,.slice va' nv vc',.slice ja p.js.length jc,.slice sa p.ss.length sc]) := by show _ = _;rw [← hnv];rfl
 clear hnv
 rw [HTE.out]
 have H16 : Hid (∀ W2,Below w.heap.size w W2 → Calls Try.prog 16 #[.agg #[.int .i64 p.dims,.int .i64 p.time.n,.slice ta p.time.cells.length tc,.int .i64 p.dist.n,.slice da p.dist.cells.length dc,.slice va' nv vc',.slice ja p.js.length jc,.slice sa p.ss.length sc]] W2 fun e w' => e = .returned (.bool bb) ∧ Below W2.heap.size W2 w') := fun W2 hf => by have h9 := lawful12_any (HP.out.on hf);rw [HTE.out,HL.out] at h9;exact h9
 obtain ⟨W,hW⟩ : ∃ W,W = (w.alloc (.cells #[.int .i64 p.dims,.int .i64 p.time.n,.slice ta p.time.cells.length tc,.int .i64 p.dist.n,.slice da p.dist.cells.length dc,.slice va' nv vc',.slice ja p.js.length jc,.slice sa p.ss.length sc] 29)).alloc (.cells #[.int .i64 a0,.int .i64 a1] 94) := ⟨_,rfl⟩
 have HBW : Hid (Below w.heap.size w W) := by rw [hW];exact ((Below.refl _ _).alloc (Nat.le_refl _) _).alloc (by simp) _
 have HLW : Hid (w.heap.size < W.heap.size) := by show _ < _;rw [hW];simp;omega
 have HLV : Hid (w.heap.size + 1 < W.heap.size) := by show _ < _;rw [hW];simp
 have HC : Hid (∀ j,W.cell? ⟨w.heap.size,j,none⟩ = (#[.int .i64 p.dims,.int .i64 p.time.n,.slice ta p.time.cells.length tc,.int .i64 p.dist.n,.slice da p.dist.cells.length dc,.slice va' nv vc',.slice ja p.js.length jc,.slice sa p.ss.length sc] : Array Value)[j]?) := fun j => by rw [hW,((bcell ((Below.refl _ _).alloc (Nat.le_refl _) _)).1 _ j (by simp))];exact cell_of_row _ _ _ _ _ _ (heap_alloc_new w _)
 have HCV : Hid (∀ j,W.cell? ⟨w.heap.size + 1,j,none⟩ = (#[.int .i64 a0,.int .i64 a1] : Array Value)[j]?) := fun j => by
  rw [hW]
  have h9 := heap_alloc_new (w.alloc (.cells #[.int .i64 p.dims,.int .i64 p.time.n,.slice ta p.time.cells.length tc,.int .i64 p.dist.n,.slice da p.dist.cells.length dc,.slice va' nv vc',.slice ja p.js.length jc,.slice sa p.ss.length sc] 29)) (.cells #[.int .i64 a0,.int .i64 a1] 94)
  rw [show (w.alloc (.cells #[.int .i64 p.dims,.int .i64 p.time.n,.slice ta p.time.cells.length tc,.int .i64 p.dist.n,.slice da p.dist.cells.length dc,.slice va' nv vc',.slice ja p.js.length jc,.slice sa p.ss.length sc] 29)).heap.size = w.heap.size + 1 from by simp] at h9
  exact cell_of_row _ _ _ _ _ _ h9
 cases bb with
 | false =>
  go_enter Try.func11,Try.ntmps11
  go_wp2_with (first | (go_at_call 16;refine (H16.out _ (below_on HBW.out E1.out)).mono ?_;rintro e w2 ⟨rfl,k2⟩;have E2 := hide (below_on E1.out k2);obtain ⟨pb0,pb1,pb2,pb3,pb4,pb5,pb6,pb7⟩ := Mn.c8 (fun j => ((bcell E2.out).1 _ j HLW.out).trans (HC.out j));clear k2 pa0 pa1 pa2 pa3 pa4 pa5 pa6 pa7) | (go_at_call 35;rw [← hW];refine (awake13_any _).mono ?_;rintro e w1 ⟨rfl,k1⟩;have E1 := hide k1;obtain ⟨pa0,pa1,pa2,pa3,pa4,pa5,pa6,pa7⟩ := Mn.c8 (fun j => ((bcell k1).1 _ j HLW.out).trans (HC.out j));clear k1) | fail)
  go_ret
  exact ⟨rfl,below_on HBW.out E2.out⟩
 | true =>
 by_cases hm1 : 30 < m
 ·have y1 : (m : Int) > 30 := by omega
  have y2 : (30 : Int) < (m : Int) := by omega
  go_enter Try.func11,Try.ntmps11
  go_wp2_with (first | (go_at_call 16;refine (H16.out _ (below_on HBW.out E1.out)).mono ?_;rintro e w2 ⟨rfl,k2⟩;have E2 := hide (below_on E1.out k2);obtain ⟨pb0,pb1,pb2,pb3,pb4,pb5,pb6,pb7⟩ := Mn.c8 (fun j => ((bcell E2.out).1 _ j HLW.out).trans (HC.out j));clear k2 pa0 pa1 pa2 pa3 pa4 pa5 pa6 pa7) | (go_at_call 35;rw [← hW];refine (awake13_any _).mono ?_;rintro e w1 ⟨rfl,k1⟩;have E1 := hide k1;obtain ⟨pa0,pa1,pa2,pa3,pa4,pa5,pa6,pa7⟩ := Mn.c8 (fun j => ((bcell k1).1 _ j HLW.out).trans (HC.out j));clear k1) | fail)
  go_ret
  exact ⟨rfl,below_on HBW.out E2.out⟩
 ·have y1 : ¬ (m : Int) > 30 := by omega
  have y2 : ¬ (30 : Int) < (m : Int) := by omega
  have hm3 : m ≤ 30 := by omega
  clear hm1
  by_cases hv0 : vi < 0
  ·go_enter Try.func11,Try.ntmps11
   go_wp2_with (first | (go_at_call 16;refine (H16.out _ (below_on HBW.out E1.out)).mono ?_;rintro e w2 ⟨rfl,k2⟩;have E2 := hide (below_on E1.out k2);obtain ⟨pb0,pb1,pb2,pb3,pb4,pb5,pb6,pb7⟩ := Mn.c8 (fun j => ((bcell E2.out).1 _ j HLW.out).trans (HC.out j));clear k2 pa0 pa1 pa2 pa3 pa4 pa5 pa6 pa7) | (go_at_call 35;rw [← hW];refine (awake13_any _).mono ?_;rintro e w1 ⟨rfl,k1⟩;have E1 := hide k1;obtain ⟨pa0,pa1,pa2,pa3,pa4,pa5,pa6,pa7⟩ := Mn.c8 (fun j => ((bcell k1).1 _ j HLW.out).trans (HC.out j));clear k1) | fail)
   go_ret
   exact ⟨rfl,below_on HBW.out E2.out⟩
  ·by_cases hv1 : (nv : Int) ≤ vi
   ·have hv2 : ¬ vi < (nv : Int) := by omega
    go_enter Try.func11,Try.ntmps11
    go_wp2_with (first | (go_at_call 16;refine (H16.out _ (below_on HBW.out E1.out)).mono ?_;rintro e w2 ⟨rfl,k2⟩;have E2 := hide (below_on E1.out k2);obtain ⟨pb0,pb1,pb2,pb3,pb4,pb5,pb6,pb7⟩ := Mn.c8 (fun j => ((bcell E2.out).1 _ j HLW.out).trans (HC.out j));clear k2 pa0 pa1 pa2 pa3 pa4 pa5 pa6 pa7) | (go_at_call 35;rw [← hW];refine (awake13_any _).mono ?_;rintro e w1 ⟨rfl,k1⟩;have E1 := hide k1;obtain ⟨pa0,pa1,pa2,pa3,pa4,pa5,pa6,pa7⟩ := Mn.c8 (fun j => ((bcell k1).1 _ j HLW.out).trans (HC.out j));clear k1) | fail)
    go_ret
    exact ⟨rfl,below_on HBW.out E2.out⟩
   ·obtain ⟨k,rfl⟩ : ∃ k : Nat,vi = k := ⟨vi.toNat,by omega⟩
    have hk : k < nv := by omega
    have HK : Hid (k < p.vs.length) := by show _ < _;rw [HNV.out];exact hk
    obtain ⟨ca,cc,ba,bc,hcar⟩ := HP.out.car HK.out
    obtain ⟨_,⟨vb,voff,c9,he,hvb,hcs⟩,_,_⟩ := hcar
    simp only at he
    injection he with he1 _ he3
    subst he1 he3
    have hbd := SlV.bound HP.out.v
    rw [HNV.out] at hbd
    obtain ⟨lb,hlb⟩ : ∃ z,(p.vs.getD k vz).brks.length = z := ⟨_,rfl⟩
    rw [hlb] at hcs
    have c10v : w.cell? ⟨vb,voff + k * 11 + 10,none⟩ = some (.slice ba lb bc) := hcs 10 (by decide)
    have HLB := hide hlb
    have HHB : Hid (vb < w.heap.size) := hvb
    clear hcs hlb hvb
    have i1 : (0 : Int) ≤ (k : Int) := by omega
    have i2 : (k : Int) < (nv : Int) := by omega
    have i3 : ¬ (nv : Int) ≤ (k : Int) := by omega
    have i4 : ¬ (k : Int) < 0 := by omega
    obtain ⟨r0,hr0,hr0m⟩ := umod_len a0 m (by omega)
    obtain ⟨r1,hr1,hr1m⟩ := umod_len a1 m (by omega)
    have hwm : IntKind.i64.wrap ((m : Int) + 1) = (m : Int) + 1 := by rw [IntKind.wrap_i64];omega
    have hw0 : IntKind.i64.wrap (r0 : Int) = (r0 : Int) := by rw [IntKind.wrap_i64];omega
    have hw1 : IntKind.i64.wrap (r1 : Int) = (r1 : Int) := by rw [IntKind.wrap_i64];omega
    have hum : IntKind.u64.wrap ((m : Int) + 1) = (m : Int) + 1 := by rw [IntKind.wrap_u64];omega
    have hnz : ¬ (m : Int) + 1 = 0 := by omega
    go_enter Try.func11,Try.ntmps11
    go_wp2_with (first | (go_at_call 16;refine (H16.out _ (below_on HBW.out E1.out)).mono ?_;rintro e w2 ⟨rfl,k2⟩;have E2 := hide (below_on E1.out k2);obtain ⟨pb0,pb1,pb2,pb3,pb4,pb5,pb6,pb7⟩ := Mn.c8 (fun j => ((bcell E2.out).1 _ j HLW.out).trans (HC.out j));have qb9 : w2.cell? ⟨vb,voff + k * 11 + 10,none⟩ = some (.slice ba lb bc) := ((bcell (below_on HBW.out E2.out)).1 _ _ HHB.out).trans c10v;have qv0 : w2.cell? ⟨w.heap.size + 1,0,none⟩ = some (.int .i64 a0) := ((bcell E2.out).1 _ 0 HLV.out).trans (HCV.out 0);have qv1 : w2.cell? ⟨w.heap.size + 1,1,none⟩ = some (.int .i64 a1) := ((bcell E2.out).1 _ 1 HLV.out).trans (HCV.out 1);clear k2 pa0 pa1 pa2 pa3 pa4 pa5 pa6 pa7) | (go_at_call 35;rw [← hW];refine (awake13_any _).mono ?_;rintro e w1 ⟨rfl,k1⟩;have E1 := hide k1;obtain ⟨pa0,pa1,pa2,pa3,pa4,pa5,pa6,pa7⟩ := Mn.c8 (fun j => ((bcell k1).1 _ j HLW.out).trans (HC.out j));clear k1) | fail)
    first | (go_region_held3 (fun w' => w'.cell? ⟨w.heap.size + 1,0,none⟩ = some (.int .i64 a0) ∧ w'.cell? ⟨w.heap.size + 1,1,none⟩ = some (.int .i64 a1)) (go_keep) (fail)) | fail
    rename_i hHeld
    clear hHeld qv0 qv1
    go_upto_if 59 with (fail)
    go_cut [9,10] from 20 to 61 (fun v9 v10 wx => ∃ i j : Nat,v9 = .int .i64 i ∧ v10 = .int .i64 j ∧ i ≤ j ∧ j ≤ m ∧ Hid (Below W.heap.size W wx))
    case first =>
     by_cases hrr : r1 < r0
     ·have y3 : (r1 : Int) < (r0 : Int) := by omega
      go_wp2_with fail
      go_meet
      case rel => exact ⟨r1,r0,rfl,rfl,by omega,by omega,below_on E2.out (by first | exact Below.refl _ _ | exact (Below.refl _ _).drew | exact below_drewN (Below.refl _ _) _)⟩
     ·have y3 : ¬ (r1 : Int) < (r0 : Int) := by omega
      go_wp2_with fail
      go_meet
      case rel => exact ⟨r0,r1,rfl,rfl,by omega,by omega,below_on E2.out (by first | exact Below.refl _ _ | exact (Below.refl _ _).drew | exact below_drewN (Below.refl _ _) _)⟩
    case rest =>
    obtain ⟨i,j,rfl,rfl,hij,hjm,EX⟩ := hcut
    clear hr0 hr1 hr0m hr1m hwm hw0 hw1 hum hnz qb9
    rename World => z
    go_wp2_with fail
    go_loopw [64] (fun vi wr => ∃ q : Nat,vi = .int .i64 q ∧ q ≤ m ∧ Hid (∀ u ∈ V.take q,u.1 ≠ 4) ∧ Hid (Below z.heap.size z wr)) (fun vi _ => m - (intOf vi).toNat)
    case atStart => exact ⟨0,rfl,Nat.zero_le _,(fun u hu => by simp at hu),Below.refl _ _⟩
    case round =>
     obtain ⟨q,rfl,hq,HNB,HB⟩ := hrel
     by_cases hqn : q < m
     ·have j1 : (q : Int) < (m : Int) := by omega
      have j2 : (0 : Int) ≤ (q : Int) := by omega
      have j3 : ¬ (m : Int) ≤ (q : Int) := by omega
      obtain ⟨⟨kd,it⟩,hu⟩ : ∃ u,V[q]? = some u := ⟨_,List.getElem?_eq_getElem (by rw [HM.out];omega)⟩
      obtain ⟨b,off,rfl,hb,c1,c2,_⟩ := vs_cells HV.out hu
      simp only at c1 c2
      have d1 : wr.cell? ⟨b,off + q * 2,none⟩ = some (.int .i64 kd) := ((bcell (below_on HBW.out (below_on EX.out HB.out))).1 _ _ hb).trans c1
      have d2 : wr.cell? ⟨b,off + q * 2 + 1,none⟩ = some (.int .i64 it) := ((bcell (below_on HBW.out (below_on EX.out HB.out))).1 _ _ hb).trans c2
      have HU := hide hu
      clear c1 c2 hu hb
      by_cases ek : kd = 4
      ·subst ek
       go_wp2_with fail
       go_ret
       exact ⟨rfl,below_on (below_on HBW.out EX.out) (by first | exact HB.out | exact HB.out.drew | exact below_drewN HB.out _ | exact below_on HB.out ((Below.refl _ _).alloc (Nat.le_refl _) _))⟩
      ·have y5 : (kd == 4) = false := by simpa using ek
       go_wp2_with fail
       go_roundw
       case rel => exact ⟨q + 1,by go_num,by omega,(fun u hu => by rw [take_snoc HU.out] at hu;rcases List.mem_append.1 hu with h | h;exact HNB.out u h;simp at h;subst h;exact ek),(by first | exact HB.out | exact HB.out.drew | exact below_drewN HB.out _ | exact below_on HB.out ((Below.refl _ _).alloc (Nat.le_refl _) _))⟩
       case measure => simp [intOf];omega
     ·have j1 : ¬ (q : Int) < (m : Int) := by omega
      have hqe : m = q := by omega
      subst hqe
      have HNV : Hid (∀ u ∈ V,u.1 ≠ 4) := fun u hu => HNB.out u (by rw [List.take_of_length_le (by rw [HM.out];omega)];exact hu)
      clear HNB
      have E3 := hide (below_on EX.out HB.out)
      clear HB
      rename World => z2
      have qb10 : z2.cell? ⟨vb,voff + k * 11 + 10,none⟩ = some (.slice ba lb bc) := ((bcell (below_on HBW.out E3.out)).1 _ _ HHB.out).trans c10v
      obtain ⟨pc0,pc1,pc2,pc3,pc4,pc5,pc6,pc7⟩ := Mn.c8 (fun j => ((bcell E3.out).1 _ j HLW.out).trans (HC.out j))
      go_wp2_with fail
      have HU0 := brk_fit (i := i) (j := j) HL.out HK.out HNV.out HLB.out hij (by rw [HM.out];exact hjm)
      obtain ⟨U,hU⟩ : ∃ z,setM V ((([i,j] : List Nat).take lb).map fun z : Nat => (z : Int)) = z := ⟨_,rfl⟩
      rw [hU] at HU0
      obtain ⟨e1,he1⟩ : ∃ z,ofE p (k : Int) U = z := ⟨_,rfl⟩
      obtain ⟨P1,hP1⟩ : ∃ z,ofP p (k : Int) U = z := ⟨_,rfl⟩
      obtain ⟨er,her⟩ : ∃ z,fitE p (k : Int) V = z := ⟨_,rfl⟩
      obtain ⟨pr,hpr⟩ : ∃ z,fitP p (k : Int) V = z := ⟨_,rfl⟩
      rw [he1,hP1,her,hpr] at HU0
      have HFIN := hide HU0
      have He1 := hide he1
      have HP1 := hide hP1
      have Her := hide her
      have Hpr := hide hpr
      have hlb2 : lb ≤ 2 := by rw [← HLB.out];exact (veh_ok (law_veh HL.out HK.out)).two
      have HUL : Hid (U.length = m + lb) := by
       show _ = _
       rw [← hU,setM_len,HM.out,List.length_map,List.length_take]
       simp
       omega
      obtain ⟨n9,hn9⟩ : ∃ z,m + lb = z := ⟨_,rfl⟩
      have hn9b : n9 ≤ 32 := by omega
      rw [hn9] at HUL
      have H45 : Hid (∀ W2 g c ax,VsV W2 (.slice (some ⟨g,0,none⟩) m c) V → m ≤ c → IntsAt W2 (some ax) [(i : Int),(j : Int)] → Calls Try.prog 45 #[.slice (some ⟨g,0,none⟩) m c,.slice (some ax) lb 2] W2 fun e w' => ∃ a c',e = .returned (.slice a n9 c') ∧ (VsV w' (.slice a n9 c') U ∧ (a = none → c' = 0)) ∧ Below W2.heap.size W2 w') := fun W2 g c ax hv hc hx => by
       have h9 := set_any (n := lb) (ac := 2) hv HM.out (by omega) hc (ints_take (i := i) (j := j) (n := lb) hx hlb2) (by rw [List.length_map,List.length_take];simp;omega) (by omega)
       rw [hU] at h9
       refine h9.mono ?_
       rintro e w' ⟨v,rfl,hr,k9⟩
       obtain ⟨a,c,rfl,hac⟩ := hr.shape
       have hvs := hr.vs (by rw [HUL.out];omega)
       rw [HUL.out] at hvs ⊢
       exact ⟨a,c,rfl,⟨hvs,hac⟩,k9⟩
      clear hU he1 hP1 her hpr hn9
      have H17 : Hid (∀ W2,Below w.heap.size w W2 → Calls Try.prog 17 #[.agg #[.int .i64 p.dims,.int .i64 p.time.n,.slice ta p.time.cells.length tc,.int .i64 p.dist.n,.slice da p.dist.cells.length dc,.slice (some ⟨vb,voff,none⟩) nv vc',.slice ja p.js.length jc,.slice sa p.ss.length sc]] W2 fun e w' => ∃ x',e = .returned (.agg (prbE p x')) ∧ PrbV w' x' p ∧ Below W2.heap.size W2 w') := fun W2 hf => by
       have h9 := copied_any (HP.out.on hf)
       rw [HTE.out] at h9
       refine h9.mono ?_
       rintro e w' ⟨x',rfl,hq,k9⟩
       exact ⟨x',rfl,hq.prb,k9⟩
      have H37 : Hid (∀ W2,Below w.heap.size w W2 → Calls Try.prog 37 #[.slice va m vc] W2 fun e w' => ∃ g c,e = .returned (.slice (some ⟨g,0,none⟩) m c) ∧ (VRow w' W2.heap.size (.slice (some ⟨g,0,none⟩) m c) V ∧ m ≤ c) ∧ Below W2.heap.size W2 w') := fun W2 hf => by have h9 := copiedV_any (PrV.on HV.out hf) HM.out (by omega) HZ.out;exact h9
      have H36 : Hid (∀ W2 x' a n c U E1 P1,PrbV W2 x' p → VsV W2 (.slice a n c) U → (a = none → c = 0) → U.length = n → n ≤ 100 → ofE p (k : Int) U = E1 → ofP p (k : Int) U = P1 → Calls Try.prog 36 #[.agg (prbE p x'),.int .i64 (k : Int),.slice a n c] W2 fun e w' => ∃ pa pn pc,e = .returned (.tuple #[.agg #[.int .i64 P1.veh,.slice pa pn pc,.int .i64 P1.time,.int .i64 P1.dist,.int .i64 P1.wait,.int .i64 P1.serv,.int .i64 P1.cost],.int .i64 E1]) ∧ PlanV w' W2.heap.size (.agg #[.int .i64 P1.veh,.slice pa pn pc,.int .i64 P1.time,.int .i64 P1.dist,.int .i64 P1.wait,.int .i64 P1.serv,.int .i64 P1.cost]) P1 ∧ Below W2.heap.size W2 w') := fun W2 x' a n c U E1 P1 hp hv hz hn hn2 he hP => by
       have h9 := pof_any (vi := (k : Int)) hp HL.out hv hn hn2 hz
       rw [he,hP] at h9
       refine h9.mono ?_
       rintro e w' ⟨u,rfl,hu,k9⟩
       obtain ⟨pa,pn,pc,ys,rfl,_,_,_⟩ := id hu
       exact ⟨pa,pn,pc,rfl,hu,k9⟩
      have H40 : Hid (∀ W2 x' g c,PrbV W2 x' p → VsV W2 (.slice (some ⟨g,0,none⟩) m c) V → m ≤ c → Calls Try.prog 40 #[.agg (prbE p x'),.int .i64 (k : Int),.slice (some ⟨g,0,none⟩) m c] W2 fun e w' => ∃ pa pn pc,e = .returned (.tuple #[.agg #[.int .i64 pr.veh,.slice pa pn pc,.int .i64 pr.time,.int .i64 pr.dist,.int .i64 pr.wait,.int .i64 pr.serv,.int .i64 pr.cost],.int .i64 er]) ∧ PlanV w' W2.heap.size (.agg #[.int .i64 pr.veh,.slice pa pn pc,.int .i64 pr.time,.int .i64 pr.dist,.int .i64 pr.wait,.int .i64 pr.serv,.int .i64 pr.cost]) pr ∧ Below W2.heap.size W2 w') := fun W2 x' g c hp hv hc => by
       have h9 := fit_any (vi := (k : Int)) hp HL.out hv HM.out (by omega) hc
       rw [Her.out,Hpr.out] at h9
       refine h9.mono ?_
       rintro e w' ⟨u,rfl,hu,k9⟩
       obtain ⟨pa,pn,pc,ys,rfl,_,_,_⟩ := id hu
       exact ⟨pa,pn,pc,rfl,hu,k9⟩
      have HS : Hid (∀ w',Below z2.heap.size z2 w' → w'.cell? ⟨w.heap.size,0,none⟩ = some (.int .i64 p.dims) ∧ w'.cell? ⟨w.heap.size,1,none⟩ = some (.int .i64 p.time.n) ∧ w'.cell? ⟨w.heap.size,2,none⟩ = some (.slice ta p.time.cells.length tc) ∧ w'.cell? ⟨w.heap.size,3,none⟩ = some (.int .i64 p.dist.n) ∧ w'.cell? ⟨w.heap.size,4,none⟩ = some (.slice da p.dist.cells.length dc) ∧ w'.cell? ⟨w.heap.size,5,none⟩ = some (.slice (some ⟨vb,voff,none⟩) nv vc') ∧ w'.cell? ⟨w.heap.size,6,none⟩ = some (.slice ja p.js.length jc) ∧ w'.cell? ⟨w.heap.size,7,none⟩ = some (.slice sa p.ss.length sc)) := fun w' hb => ⟨((bcell hb).1 _ 0 (Nat.lt_of_lt_of_le HLW.out E3.out.size)).trans pc0,((bcell hb).1 _ 1 (Nat.lt_of_lt_of_le HLW.out E3.out.size)).trans pc1,((bcell hb).1 _ 2 (Nat.lt_of_lt_of_le HLW.out E3.out.size)).trans pc2,((bcell hb).1 _ 3 (Nat.lt_of_lt_of_le HLW.out E3.out.size)).trans pc3,((bcell hb).1 _ 4 (Nat.lt_of_lt_of_le HLW.out E3.out.size)).trans pc4,((bcell hb).1 _ 5 (Nat.lt_of_lt_of_le HLW.out E3.out.size)).trans pc5,((bcell hb).1 _ 6 (Nat.lt_of_lt_of_le HLW.out E3.out.size)).trans pc6,((bcell hb).1 _ 7 (Nat.lt_of_lt_of_le HLW.out E3.out.size)).trans pc7⟩
      have HLT : Hid (w.heap.size < z2.heap.size) := Nat.lt_of_lt_of_le HLW.out E3.out.size
      clear qb10 pc0 pc1 pc2 pc3 pc4 pc5 pc6 pc7
      have EB := hide E3.out
      have l2 : ((lb : Nat) : Int) ≤ 2 := by omega
      have l0 : (0 : Int) ≤ ((lb : Nat) : Int) := by omega
      go_cut [14,15] from 79 to 93 (fun v14 v15 wx => ∃ (x14 : Nat) (pa2 : Option Addr) (pn2 pc2 : Nat),v14 = .pointer (some ⟨x14,0,none⟩) ∧ v15 = .int .i64 e1 ∧ z2.heap.size ≤ x14 ∧ Hid (wx.heap[x14]? = some (.cells #[.int .i64 P1.veh,.slice pa2 pn2 pc2,.int .i64 P1.time,.int .i64 P1.dist,.int .i64 P1.wait,.int .i64 P1.serv,.int .i64 P1.cost] 71 (0,0))) ∧ Hid (Below z2.heap.size z2 wx))
      case first =>
       refine wp_region_held_drew (S := (fun w' => w'.cell? ⟨w.heap.size,0,none⟩ = some (.int .i64 p.dims) ∧ w'.cell? ⟨w.heap.size,1,none⟩ = some (.int .i64 p.time.n) ∧ w'.cell? ⟨w.heap.size,2,none⟩ = some (.slice ta p.time.cells.length tc) ∧ w'.cell? ⟨w.heap.size,3,none⟩ = some (.int .i64 p.dist.n) ∧ w'.cell? ⟨w.heap.size,4,none⟩ = some (.slice da p.dist.cells.length dc) ∧ w'.cell? ⟨w.heap.size,5,none⟩ = some (.slice (some ⟨vb,voff,none⟩) nv vc') ∧ w'.cell? ⟨w.heap.size,6,none⟩ = some (.slice ja p.js.length jc) ∧ w'.cell? ⟨w.heap.size,7,none⟩ = some (.slice sa p.ss.length sc))) (by kernel_rfl) ?_ (fun hHeld0 => ?_)
       ·(try dsimp only);first | fail | exact HS.out _ (Below.refl _ _) | exact HS.out _ ((Below.refl _ _).drew) | (go_keep;done)
       obtain ⟨u0,hu0⟩ : ∃ u,z2.drew = u := ⟨_,rfl⟩
       rw [hu0]
       rw [hu0] at hHeld0
       have K0 : Hid (Below z2.heap.size z2 u0) := by show Below _ _ _;rw [← hu0];exact ((Below.refl _ _).drew)
       clear hu0
       refine Mn.t 0 (oi := ⟨some 80,.load 29 (.tmp 4),29,"law.go:145",#[],none⟩) ?_
       try simp only [Act.put,List.setIfInBounds_toArray]
       refine Mn.t 2 (oi := ⟨some 82,.move (.tmp 1),3,"law.go:145",#[],none⟩) ?_
       try simp only [Act.put,List.setIfInBounds_toArray]
       refine Mn.t 3 (oi := ⟨some 83,.move (.tmp 2),55,"law.go:145",#[],none⟩) ?_
       try simp only [Act.put,List.setIfInBounds_toArray]
       refine Mn.t 5 (oi := ⟨some 85,.move (.tmp 9),3,"law.go:145",#[],none⟩) ?_
       try simp only [Act.put,List.setIfInBounds_toArray]
       refine Mn.t 6 (oi := ⟨some 86,.move (.tmp 10),3,"law.go:145",#[],none⟩) ?_
       try simp only [Act.put,List.setIfInBounds_toArray]
       refine Mn.t 8 (oi := ⟨some 88,.move (.tmp 13),3,"law.go:145",#[],none⟩) ?_
       try simp only [Act.put,List.setIfInBounds_toArray]
       refine wpAnyH_ready (rs := [1,7,15]) (by kernel_rfl) (by simp) ?_
       refine AllReadyH.cons (o := ⟨some 81,.call { callee := .value (.func 17),args := #[.tmp 80],argTypes := #[29] },29,"law.go:145",#[⟨0,.data⟩],none⟩) rfl (fun K hK => ?_) ?_
       ·refine held_call (by rfl) 17 _ _ (by rfl) hent17 [.agg #[.int .i64 p.dims,.int .i64 p.time.n,.slice ta p.time.cells.length tc,.int .i64 p.dist.n,.slice da p.dist.cells.length dc,.slice (some ⟨vb,voff,none⟩) nv vc',.slice ja p.js.length jc,.slice sa p.ss.length sc]] (by rfl) ?_;refine (H17.out _ (below_on HBW.out (below_on EB.out K0.out))).mono ?_;rintro e u1 ⟨x3,rfl,q9,k9⟩;refine ⟨_,rfl,?_⟩;have E1 := hide k9;have K1 := hide (below_on K0.out k9);clear k9
        have HP1 := hide (q9)
        refine hK.out _ _ ?_ (fun hHeld1 => ?_)
        ·(try dsimp only);exact HS.out _ K1.out
        clear hK K
        try simp only [Act.put,List.setIfInBounds_toArray]
        clear hHeld0
        refine wpAnyH_ready (rs := [4,7,15]) (by kernel_rfl) (by simp) ?_
        refine AllReadyH.cons (o := ⟨some 84,.call { callee := .value (.func 37),args := #[.tmp 83],argTypes := #[55] },55,"law.go:145",#[⟨3,.data⟩,⟨1,.chain⟩],none⟩) rfl (fun K hK => ?_) ?_
        ·refine held_call (by rfl) 37 _ _ (by rfl) hent37 [.slice va m vc] (by rfl) ?_;refine (H37.out _ (below_on HBW.out (below_on EB.out K1.out))).mono ?_;rintro e u2 ⟨g3,cc3,rfl,⟨R9,q8⟩,k9⟩;refine ⟨_,rfl,?_⟩;have E2 := hide k9;have K2 := hide (below_on K1.out k9);clear k9
         have HP2 := hide (HP1.out.on E2.out)
         clear HP1
         have HV2 := hide (R9.vs (by rw [HM.out];omega))
         have HC2 := hide (q8)
         refine hK.out _ _ ?_ (fun hHeld2 => ?_)
         ·(try dsimp only);exact HS.out _ K2.out
         clear hK K
         try simp only [Act.put,List.setIfInBounds_toArray]
         clear hHeld1
         refine wpAnyH_ready (rs := [7,15]) (by kernel_rfl) (by simp) ?_
         refine AllReadyH.cons (o := ⟨some 87,.buildSlice 22 2 #[(0,.tmp 85),(1,.tmp 86)],22,"law.go:145",#[⟨5,.data⟩,⟨6,.data⟩],none⟩) rfl (fun K hK => ?_) ?_
         ·go_simp
          refine hK.out _ _ ?_ (fun hHeld3 => ?_)
          ·(try dsimp only);exact HS.out _ (below_on K2.out ((Below.refl _ _).alloc (Nat.le_refl _) _))
          clear hK K
          try simp only [Act.put,List.setIfInBounds_toArray]
          clear hHeld2
          have LT3 : Hid (u2.heap.size < (u2.alloc (.cells #[.int .i64 (i : Int),.int .i64 (j : Int)] 3)).heap.size) := (by show _ < _;simp)
          obtain ⟨u3,hu3⟩ : ∃ u,u2.alloc (.cells #[.int .i64 (i : Int),.int .i64 (j : Int)] 3) = u := ⟨_,rfl⟩
          rw [hu3]
          rw [hu3] at hHeld3 LT3
          have E3 : Hid (Below u2.heap.size u2 u3) := by show Below _ _ _;rw [← hu3];exact ((Below.refl _ _).alloc (Nat.le_refl _) _)
          have K3 := hide (below_on K2.out E3.out)
          have HP3 := hide (HP2.out.on E3.out)
          have HV3 := hide (PrV.on HV2.out E3.out)
          have HC3 := hide (HC2.out)
          clear HP2 HV2 HC2
          have HA3 : Hid (IntsAt u3 (some ⟨u2.heap.size,0,none⟩) [(i : Int),(j : Int)]) := by show IntsAt u3 (some ⟨u2.heap.size,0,none⟩) [(i : Int),(j : Int)];rw [← hu3];exact two_ints
          clear hu3
          refine Mn.t 9 (oi := ⟨some 89,.slice 22 (.tmp 87) none (some (.tmp 88)) none,22,"law.go:145",#[⟨7,.data⟩,⟨8,.data⟩],none⟩) ?_
          try simp only [Act.put,List.setIfInBounds_toArray]
          refine wpAnyH_ready (rs := [10,15]) (by kernel_rfl) (by simp) ?_
          refine AllReadyH.cons (o := ⟨some 90,.call { callee := .value (.func 45),args := #[.tmp 84,.tmp 89],argTypes := #[55,22] },55,"law.go:145",#[⟨4,.data⟩,⟨9,.data⟩,⟨4,.chain⟩],none⟩) rfl (fun K hK => ?_) ?_
          ·refine held_call (by rfl) 45 _ _ (by rfl) hent45 [.slice (some ⟨g3,0,none⟩) m cc3,.slice (some ⟨u2.heap.size,0,none⟩) lb 2] (by rfl) ?_;refine (H45.out _ _ _ _ HV3.out HC3.out HA3.out).mono ?_;rintro e u4 ⟨a4,c4,rfl,⟨q9,q8⟩,k9⟩;refine ⟨_,rfl,?_⟩;have E4 := hide k9;have K4 := hide (below_on K3.out k9);clear k9
           have HP4 := hide (HP3.out.on E4.out)
           have HV4 := hide (PrV.on HV3.out E4.out)
           have HC4 := hide (HC3.out)
           have HA4 := hide (IntsAt.later HA3.out E4.out)
           clear HP3 HV3 HC3 HA3
           have HU4 := hide (q9)
           have HZ4 := hide (q8)
           refine hK.out _ _ ?_ (fun hHeld4 => ?_)
           ·(try dsimp only);exact HS.out _ K4.out
           clear hK K
           try simp only [Act.put,List.setIfInBounds_toArray]
           clear hHeld3
           refine wpAnyH_ready (rs := [11,15]) (by kernel_rfl) (by simp) ?_
           refine AllReadyH.cons (o := ⟨some 91,.call { callee := .value (.func 36),args := #[.tmp 81,.tmp 82,.tmp 90],argTypes := #[29,3,55] },72,"law.go:145",#[⟨1,.data⟩,⟨2,.data⟩,⟨10,.data⟩,⟨10,.chain⟩],none⟩) rfl (fun K hK => ?_) ?_
           ·refine held_call (by rfl) 36 _ _ (by rfl) hent36 [.agg (prbE p x3),.int .i64 (k : Int),.slice a4 n9 c4] (by rfl) ?_;refine (H36.out _ _ _ _ _ _ _ _ HP4.out HU4.out HZ4.out HUL.out (by omega) He1.out HP1.out).mono ?_;rintro e u5 ⟨pa2,pn2,pc2,rfl,_,k9⟩;refine ⟨_,rfl,?_⟩;have E5 := hide k9;have K5 := hide (below_on K4.out k9);clear k9
            have HP5 := hide (HP4.out.on E5.out)
            have HV5 := hide (PrV.on HV4.out E5.out)
            have HC5 := hide (HC4.out)
            have HA5 := hide (IntsAt.later HA4.out E5.out)
            have HU5 := hide (PrV.on HU4.out E5.out)
            have HZ5 := hide (HZ4.out)
            clear HP4 HV4 HC4 HA4 HU4 HZ4
            refine hK.out _ _ ?_ (fun hHeld5 => ?_)
            ·(try dsimp only);exact HS.out _ K5.out
            clear hK K
            try simp only [Act.put,List.setIfInBounds_toArray]
            clear hHeld4
            refine Mn.t 12 (oi := ⟨some 79,.move (.tmp 91),72,"law.go:145",#[⟨11,.data⟩],none⟩) ?_
            try simp only [Act.put,List.setIfInBounds_toArray]
            refine Mn.t 13 (oi := ⟨some 92,.extract (.tmp 79) 0,71,"law.go:145",#[⟨12,.data⟩],none⟩) ?_
            try simp only [Act.put,List.setIfInBounds_toArray]
            refine Mn.t 14 (oi := ⟨some 93,.extract (.tmp 79) 1,62,"law.go:145",#[⟨12,.data⟩,⟨16,.gcOnly .lateStores⟩],none⟩) ?_
            try simp only [Act.put,List.setIfInBounds_toArray]
            refine wpAnyH_ready (rs := [15]) (by kernel_rfl) (by simp) ?_
            refine AllReadyH.cons (o := ⟨some 14,.alloc 71,0,"law.go:145",#[],none⟩) rfl (fun K hK => ?_) ?_
            ·go_simp
             refine hK.out _ _ ?_ (fun hHeld6 => ?_)
             ·(try dsimp only);exact HS.out _ (below_on K5.out ((Below.refl _ _).alloc (Nat.le_refl _) _))
             clear hK K
             try simp only [Act.put,List.setIfInBounds_toArray]
             clear hHeld5
             have LT6 : Hid (u5.heap.size < (u5.alloc (.cells #[.int .i64 0,.slice none 0 0,.int .i64 0,.int .i64 0,.int .i64 0,.int .i64 0,.int .i64 0] 71)).heap.size) := (by show _ < _;simp)
             obtain ⟨u6,hu6⟩ : ∃ u,u5.alloc (.cells #[.int .i64 0,.slice none 0 0,.int .i64 0,.int .i64 0,.int .i64 0,.int .i64 0,.int .i64 0] 71) = u := ⟨_,rfl⟩
             rw [hu6]
             rw [hu6] at hHeld6 LT6
             have E6 : Hid (Below u5.heap.size u5 u6) := by show Below _ _ _;rw [← hu6];exact ((Below.refl _ _).alloc (Nat.le_refl _) _)
             have K6 := hide (below_on K5.out E6.out)
             have HP6 := hide (HP5.out.on E6.out)
             have HV6 := hide (PrV.on HV5.out E6.out)
             have HC6 := hide (HC5.out)
             have HA6 := hide (IntsAt.later HA5.out E6.out)
             have HU6 := hide (PrV.on HU5.out E6.out)
             have HZ6 := hide (HZ5.out)
             clear HP5 HV5 HC5 HA5 HU5 HZ5
             have HX6 : Hid (u6.heap[u5.heap.size]? = some (.cells #[.int .i64 0,.slice none 0 0,.int .i64 0,.int .i64 0,.int .i64 0,.int .i64 0,.int .i64 0] 71)) := by show _ = _;rw [← hu6];exact new_block _ _
             clear hu6
             refine wpAnyH_ready (rs := [16]) (by kernel_rfl) (by simp) ?_
             refine AllReadyH.cons (o := ⟨none,.store 71 (.tmp 14) (.tmp 92),0,"law.go:145",#[⟨15,.data⟩,⟨13,.data⟩,⟨11,.chain⟩,⟨0,.phase⟩,⟨1,.phase⟩,⟨2,.phase⟩,⟨3,.phase⟩,⟨4,.phase⟩,⟨5,.phase⟩,⟨6,.phase⟩,⟨7,.phase⟩,⟨8,.phase⟩,⟨9,.phase⟩,⟨10,.phase⟩,⟨11,.phase⟩,⟨12,.phase⟩,⟨13,.phase⟩,⟨14,.textOnly .lateStores⟩,⟨15,.phase⟩],none⟩) rfl (fun K hK => ?_) ?_
             ·refine held_store (by rfl) 71 (.tmp 14) (.tmp 92) (by rfl) (u5.heap.size) #[.int .i64 P1.veh,.slice pa2 pn2 pc2,.int .i64 P1.time,.int .i64 P1.dist,.int .i64 P1.wait,.int .i64 P1.serv,.int .i64 P1.cost] (by rfl) (by rfl) 71 _ HX6.out (by kernel_rfl) (by rfl) (by simp [Value.oneCell']) ?_
              obtain ⟨wz,hwz⟩ : ∃ z,(u6).setRow (u5.heap.size) #[.int .i64 P1.veh,.slice pa2 pn2 pc2,.int .i64 P1.time,.int .i64 P1.dist,.int .i64 P1.wait,.int .i64 P1.serv,.int .i64 P1.cost] = z := ⟨_,rfl⟩
              have hz1 : wz.heap[u5.heap.size]? = some (.cells #[.int .i64 P1.veh,.slice pa2 pn2 pc2,.int .i64 P1.time,.int .i64 P1.dist,.int .i64 P1.wait,.int .i64 P1.serv,.int .i64 P1.cost] 71 (0,0)) := by rw [← hwz];exact setRow_heap _ _ _ _ _ _ HX6.out
              have hz2 : (u6).grownBy wz (some (u5.heap.size)) := by rw [← hwz];exact grw_row _ _ _
              rw [hwz]
              have HZ1 := hide hz1
              have HZ2 := hide hz2
              clear hwz hz1 hz2
              refine hK.out _ _ ?_ (fun hHeld7 => ?_)
              ·(try dsimp only);exact HS.out _ (K6.out.trans (grw_low HZ2.out K5.out.size K6.out.size))
              clear hK K
              try simp only [Act.put]
              clear hHeld6
              refine Mn.t 17 (oi := ⟨some 15,.assign (.tmp 93),62,"law.go:145",#[⟨14,.data⟩,⟨16,.chain⟩,⟨0,.phase⟩,⟨1,.phase⟩,⟨2,.phase⟩,⟨3,.phase⟩,⟨4,.phase⟩,⟨5,.phase⟩,⟨6,.phase⟩,⟨7,.phase⟩,⟨8,.phase⟩,⟨9,.phase⟩,⟨10,.phase⟩,⟨11,.phase⟩,⟨12,.phase⟩,⟨13,.phase⟩,⟨14,.phase⟩,⟨15,.phase⟩,⟨16,.phase⟩],none⟩) ?_
              try simp only [Act.put,List.setIfInBounds_toArray]
              refine wpAnyH_done (by kernel_rfl) ?_ _
              clear hHeld7
              go_wp2_with fail
              go_meet
              case rel => exact ⟨u5.heap.size,pa2,pn2,pc2,rfl,rfl,K5.out.size,HZ1.out,K6.out.trans (grw_low HZ2.out K5.out.size K6.out.size)⟩
             exact AllReadyH.nil
            exact AllReadyH.nil
           refine AllReadyH.cons (o := ⟨some 14,.alloc 71,0,"law.go:145",#[],none⟩) rfl (fun K hK => ?_) ?_
           ·go_simp
            refine hK.out _ _ ?_ (fun hHeld8 => ?_)
            ·(try dsimp only);exact HS.out _ (below_on K4.out ((Below.refl _ _).alloc (Nat.le_refl _) _))
            clear hK K
            try simp only [Act.put,List.setIfInBounds_toArray]
            clear hHeld4
            have LT5 : Hid (u4.heap.size < (u4.alloc (.cells #[.int .i64 0,.slice none 0 0,.int .i64 0,.int .i64 0,.int .i64 0,.int .i64 0,.int .i64 0] 71)).heap.size) := (by show _ < _;simp)
            obtain ⟨u5,hu5⟩ : ∃ u,u4.alloc (.cells #[.int .i64 0,.slice none 0 0,.int .i64 0,.int .i64 0,.int .i64 0,.int .i64 0,.int .i64 0] 71) = u := ⟨_,rfl⟩
            rw [hu5]
            rw [hu5] at hHeld8 LT5
            have E5 : Hid (Below u4.heap.size u4 u5) := by show Below _ _ _;rw [← hu5];exact ((Below.refl _ _).alloc (Nat.le_refl _) _)
            have K5 := hide (below_on K4.out E5.out)
            have HP5 := hide (HP4.out.on E5.out)
            have HV5 := hide (PrV.on HV4.out E5.out)
            have HC5 := hide (HC4.out)
            have HA5 := hide (IntsAt.later HA4.out E5.out)
            have HU5 := hide (PrV.on HU4.out E5.out)
            have HZ5 := hide (HZ4.out)
            clear HP4 HV4 HC4 HA4 HU4 HZ4
            have HX5 : Hid (u5.heap[u4.heap.size]? = some (.cells #[.int .i64 0,.slice none 0 0,.int .i64 0,.int .i64 0,.int .i64 0,.int .i64 0,.int .i64 0] 71)) := by show _ = _;rw [← hu5];exact new_block _ _
            clear hu5
            refine wpAnyH_ready (rs := [11]) (by kernel_rfl) (by simp) ?_
            refine AllReadyH.cons (o := ⟨some 91,.call { callee := .value (.func 36),args := #[.tmp 81,.tmp 82,.tmp 90],argTypes := #[29,3,55] },72,"law.go:145",#[⟨1,.data⟩,⟨2,.data⟩,⟨10,.data⟩,⟨10,.chain⟩],none⟩) rfl (fun K hK => ?_) ?_
            ·refine held_call (by rfl) 36 _ _ (by rfl) hent36 [.agg (prbE p x3),.int .i64 (k : Int),.slice a4 n9 c4] (by rfl) ?_;refine (H36.out _ _ _ _ _ _ _ _ HP5.out HU5.out HZ5.out HUL.out (by omega) He1.out HP1.out).mono ?_;rintro e u6 ⟨pa2,pn2,pc2,rfl,_,k9⟩;refine ⟨_,rfl,?_⟩;have E6 := hide k9;have K6 := hide (below_on K5.out k9);clear k9
             have HP6 := hide (HP5.out.on E6.out)
             have HV6 := hide (PrV.on HV5.out E6.out)
             have HC6 := hide (HC5.out)
             have HA6 := hide (IntsAt.later HA5.out E6.out)
             have HU6 := hide (PrV.on HU5.out E6.out)
             have HZ6 := hide (HZ5.out)
             have HX6 := hide ((E6.out.block _ (lt_of_block HX5.out)).trans HX5.out)
             clear HP5 HV5 HC5 HA5 HU5 HZ5 HX5
             refine hK.out _ _ ?_ (fun hHeld9 => ?_)
             ·(try dsimp only);exact HS.out _ K6.out
             clear hK K
             try simp only [Act.put,List.setIfInBounds_toArray]
             clear hHeld8
             refine Mn.t 12 (oi := ⟨some 79,.move (.tmp 91),72,"law.go:145",#[⟨11,.data⟩],none⟩) ?_
             try simp only [Act.put,List.setIfInBounds_toArray]
             refine Mn.t 13 (oi := ⟨some 92,.extract (.tmp 79) 0,71,"law.go:145",#[⟨12,.data⟩],none⟩) ?_
             try simp only [Act.put,List.setIfInBounds_toArray]
             refine Mn.t 14 (oi := ⟨some 93,.extract (.tmp 79) 1,62,"law.go:145",#[⟨12,.data⟩,⟨16,.gcOnly .lateStores⟩],none⟩) ?_
             try simp only [Act.put,List.setIfInBounds_toArray]
             refine wpAnyH_ready (rs := [16]) (by kernel_rfl) (by simp) ?_
             refine AllReadyH.cons (o := ⟨none,.store 71 (.tmp 14) (.tmp 92),0,"law.go:145",#[⟨15,.data⟩,⟨13,.data⟩,⟨11,.chain⟩,⟨0,.phase⟩,⟨1,.phase⟩,⟨2,.phase⟩,⟨3,.phase⟩,⟨4,.phase⟩,⟨5,.phase⟩,⟨6,.phase⟩,⟨7,.phase⟩,⟨8,.phase⟩,⟨9,.phase⟩,⟨10,.phase⟩,⟨11,.phase⟩,⟨12,.phase⟩,⟨13,.phase⟩,⟨14,.textOnly .lateStores⟩,⟨15,.phase⟩],none⟩) rfl (fun K hK => ?_) ?_
             ·refine held_store (by rfl) 71 (.tmp 14) (.tmp 92) (by rfl) (u4.heap.size) #[.int .i64 P1.veh,.slice pa2 pn2 pc2,.int .i64 P1.time,.int .i64 P1.dist,.int .i64 P1.wait,.int .i64 P1.serv,.int .i64 P1.cost] (by rfl) (by rfl) 71 _ HX6.out (by kernel_rfl) (by rfl) (by simp [Value.oneCell']) ?_
              obtain ⟨wz,hwz⟩ : ∃ z,(u6).setRow (u4.heap.size) #[.int .i64 P1.veh,.slice pa2 pn2 pc2,.int .i64 P1.time,.int .i64 P1.dist,.int .i64 P1.wait,.int .i64 P1.serv,.int .i64 P1.cost] = z := ⟨_,rfl⟩
              have hz1 : wz.heap[u4.heap.size]? = some (.cells #[.int .i64 P1.veh,.slice pa2 pn2 pc2,.int .i64 P1.time,.int .i64 P1.dist,.int .i64 P1.wait,.int .i64 P1.serv,.int .i64 P1.cost] 71 (0,0)) := by rw [← hwz];exact setRow_heap _ _ _ _ _ _ HX6.out
              have hz2 : (u6).grownBy wz (some (u4.heap.size)) := by rw [← hwz];exact grw_row _ _ _
              rw [hwz]
              have HZ1 := hide hz1
              have HZ2 := hide hz2
              clear hwz hz1 hz2
              refine hK.out _ _ ?_ (fun hHeld10 => ?_)
              ·(try dsimp only);exact HS.out _ (K6.out.trans (grw_low HZ2.out K4.out.size K6.out.size))
              clear hK K
              try simp only [Act.put]
              clear hHeld9
              refine Mn.t 17 (oi := ⟨some 15,.assign (.tmp 93),62,"law.go:145",#[⟨14,.data⟩,⟨16,.chain⟩,⟨0,.phase⟩,⟨1,.phase⟩,⟨2,.phase⟩,⟨3,.phase⟩,⟨4,.phase⟩,⟨5,.phase⟩,⟨6,.phase⟩,⟨7,.phase⟩,⟨8,.phase⟩,⟨9,.phase⟩,⟨10,.phase⟩,⟨11,.phase⟩,⟨12,.phase⟩,⟨13,.phase⟩,⟨14,.phase⟩,⟨15,.phase⟩,⟨16,.phase⟩],none⟩) ?_
              try simp only [Act.put,List.setIfInBounds_toArray]
              refine wpAnyH_done (by kernel_rfl) ?_ _
              clear hHeld10
              go_wp2_with fail
              go_meet
              case rel => exact ⟨u4.heap.size,pa2,pn2,pc2,rfl,rfl,K4.out.size,HZ1.out,K6.out.trans (grw_low HZ2.out K4.out.size K6.out.size)⟩
             exact AllReadyH.nil
            exact AllReadyH.nil
           exact AllReadyH.nil
          refine AllReadyH.cons (o := ⟨some 14,.alloc 71,0,"law.go:145",#[],none⟩) rfl (fun K hK => ?_) ?_
          ·go_simp
           refine hK.out _ _ ?_ (fun hHeld11 => ?_)
           ·(try dsimp only);exact HS.out _ (below_on K3.out ((Below.refl _ _).alloc (Nat.le_refl _) _))
           clear hK K
           try simp only [Act.put,List.setIfInBounds_toArray]
           clear hHeld3
           have LT4 : Hid (u3.heap.size < (u3.alloc (.cells #[.int .i64 0,.slice none 0 0,.int .i64 0,.int .i64 0,.int .i64 0,.int .i64 0,.int .i64 0] 71)).heap.size) := (by show _ < _;simp)
           obtain ⟨u4,hu4⟩ : ∃ u,u3.alloc (.cells #[.int .i64 0,.slice none 0 0,.int .i64 0,.int .i64 0,.int .i64 0,.int .i64 0,.int .i64 0] 71) = u := ⟨_,rfl⟩
           rw [hu4]
           rw [hu4] at hHeld11 LT4
           have E4 : Hid (Below u3.heap.size u3 u4) := by show Below _ _ _;rw [← hu4];exact ((Below.refl _ _).alloc (Nat.le_refl _) _)
           have K4 := hide (below_on K3.out E4.out)
           have HP4 := hide (HP3.out.on E4.out)
           have HV4 := hide (PrV.on HV3.out E4.out)
           have HC4 := hide (HC3.out)
           have HA4 := hide (IntsAt.later HA3.out E4.out)
           clear HP3 HV3 HC3 HA3
           have HX4 : Hid (u4.heap[u3.heap.size]? = some (.cells #[.int .i64 0,.slice none 0 0,.int .i64 0,.int .i64 0,.int .i64 0,.int .i64 0,.int .i64 0] 71)) := by show _ = _;rw [← hu4];exact new_block _ _
           clear hu4
           refine wpAnyH_ready (rs := [10]) (by kernel_rfl) (by simp) ?_
           refine AllReadyH.cons (o := ⟨some 90,.call { callee := .value (.func 45),args := #[.tmp 84,.tmp 89],argTypes := #[55,22] },55,"law.go:145",#[⟨4,.data⟩,⟨9,.data⟩,⟨4,.chain⟩],none⟩) rfl (fun K hK => ?_) ?_
           ·refine held_call (by rfl) 45 _ _ (by rfl) hent45 [.slice (some ⟨g3,0,none⟩) m cc3,.slice (some ⟨u2.heap.size,0,none⟩) lb 2] (by rfl) ?_;refine (H45.out _ _ _ _ HV4.out HC4.out HA4.out).mono ?_;rintro e u5 ⟨a4,c4,rfl,⟨q9,q8⟩,k9⟩;refine ⟨_,rfl,?_⟩;have E5 := hide k9;have K5 := hide (below_on K4.out k9);clear k9
            have HP5 := hide (HP4.out.on E5.out)
            have HV5 := hide (PrV.on HV4.out E5.out)
            have HC5 := hide (HC4.out)
            have HA5 := hide (IntsAt.later HA4.out E5.out)
            have HX5 := hide ((E5.out.block _ (lt_of_block HX4.out)).trans HX4.out)
            clear HP4 HV4 HC4 HA4 HX4
            have HU5 := hide (q9)
            have HZ5 := hide (q8)
            refine hK.out _ _ ?_ (fun hHeld12 => ?_)
            ·(try dsimp only);exact HS.out _ K5.out
            clear hK K
            try simp only [Act.put,List.setIfInBounds_toArray]
            clear hHeld11
            refine wpAnyH_ready (rs := [11]) (by kernel_rfl) (by simp) ?_
            refine AllReadyH.cons (o := ⟨some 91,.call { callee := .value (.func 36),args := #[.tmp 81,.tmp 82,.tmp 90],argTypes := #[29,3,55] },72,"law.go:145",#[⟨1,.data⟩,⟨2,.data⟩,⟨10,.data⟩,⟨10,.chain⟩],none⟩) rfl (fun K hK => ?_) ?_
            ·refine held_call (by rfl) 36 _ _ (by rfl) hent36 [.agg (prbE p x3),.int .i64 (k : Int),.slice a4 n9 c4] (by rfl) ?_;refine (H36.out _ _ _ _ _ _ _ _ HP5.out HU5.out HZ5.out HUL.out (by omega) He1.out HP1.out).mono ?_;rintro e u6 ⟨pa2,pn2,pc2,rfl,_,k9⟩;refine ⟨_,rfl,?_⟩;have E6 := hide k9;have K6 := hide (below_on K5.out k9);clear k9
             have HP6 := hide (HP5.out.on E6.out)
             have HV6 := hide (PrV.on HV5.out E6.out)
             have HC6 := hide (HC5.out)
             have HA6 := hide (IntsAt.later HA5.out E6.out)
             have HX6 := hide ((E6.out.block _ (lt_of_block HX5.out)).trans HX5.out)
             have HU6 := hide (PrV.on HU5.out E6.out)
             have HZ6 := hide (HZ5.out)
             clear HP5 HV5 HC5 HA5 HX5 HU5 HZ5
             refine hK.out _ _ ?_ (fun hHeld13 => ?_)
             ·(try dsimp only);exact HS.out _ K6.out
             clear hK K
             try simp only [Act.put,List.setIfInBounds_toArray]
             clear hHeld12
             refine Mn.t 12 (oi := ⟨some 79,.move (.tmp 91),72,"law.go:145",#[⟨11,.data⟩],none⟩) ?_
             try simp only [Act.put,List.setIfInBounds_toArray]
             refine Mn.t 13 (oi := ⟨some 92,.extract (.tmp 79) 0,71,"law.go:145",#[⟨12,.data⟩],none⟩) ?_
             try simp only [Act.put,List.setIfInBounds_toArray]
             refine Mn.t 14 (oi := ⟨some 93,.extract (.tmp 79) 1,62,"law.go:145",#[⟨12,.data⟩,⟨16,.gcOnly .lateStores⟩],none⟩) ?_
             try simp only [Act.put,List.setIfInBounds_toArray]
             refine wpAnyH_ready (rs := [16]) (by kernel_rfl) (by simp) ?_
             refine AllReadyH.cons (o := ⟨none,.store 71 (.tmp 14) (.tmp 92),0,"law.go:145",#[⟨15,.data⟩,⟨13,.data⟩,⟨11,.chain⟩,⟨0,.phase⟩,⟨1,.phase⟩,⟨2,.phase⟩,⟨3,.phase⟩,⟨4,.phase⟩,⟨5,.phase⟩,⟨6,.phase⟩,⟨7,.phase⟩,⟨8,.phase⟩,⟨9,.phase⟩,⟨10,.phase⟩,⟨11,.phase⟩,⟨12,.phase⟩,⟨13,.phase⟩,⟨14,.textOnly .lateStores⟩,⟨15,.phase⟩],none⟩) rfl (fun K hK => ?_) ?_
             ·refine held_store (by rfl) 71 (.tmp 14) (.tmp 92) (by rfl) (u3.heap.size) #[.int .i64 P1.veh,.slice pa2 pn2 pc2,.int .i64 P1.time,.int .i64 P1.dist,.int .i64 P1.wait,.int .i64 P1.serv,.int .i64 P1.cost] (by rfl) (by rfl) 71 _ HX6.out (by kernel_rfl) (by rfl) (by simp [Value.oneCell']) ?_
              obtain ⟨wz,hwz⟩ : ∃ z,(u6).setRow (u3.heap.size) #[.int .i64 P1.veh,.slice pa2 pn2 pc2,.int .i64 P1.time,.int .i64 P1.dist,.int .i64 P1.wait,.int .i64 P1.serv,.int .i64 P1.cost] = z := ⟨_,rfl⟩
              have hz1 : wz.heap[u3.heap.size]? = some (.cells #[.int .i64 P1.veh,.slice pa2 pn2 pc2,.int .i64 P1.time,.int .i64 P1.dist,.int .i64 P1.wait,.int .i64 P1.serv,.int .i64 P1.cost] 71 (0,0)) := by rw [← hwz];exact setRow_heap _ _ _ _ _ _ HX6.out
              have hz2 : (u6).grownBy wz (some (u3.heap.size)) := by rw [← hwz];exact grw_row _ _ _
              rw [hwz]
              have HZ1 := hide hz1
              have HZ2 := hide hz2
              clear hwz hz1 hz2
              refine hK.out _ _ ?_ (fun hHeld14 => ?_)
              ·(try dsimp only);exact HS.out _ (K6.out.trans (grw_low HZ2.out K3.out.size K6.out.size))
              clear hK K
              try simp only [Act.put]
              clear hHeld13
              refine Mn.t 17 (oi := ⟨some 15,.assign (.tmp 93),62,"law.go:145",#[⟨14,.data⟩,⟨16,.chain⟩,⟨0,.phase⟩,⟨1,.phase⟩,⟨2,.phase⟩,⟨3,.phase⟩,⟨4,.phase⟩,⟨5,.phase⟩,⟨6,.phase⟩,⟨7,.phase⟩,⟨8,.phase⟩,⟨9,.phase⟩,⟨10,.phase⟩,⟨11,.phase⟩,⟨12,.phase⟩,⟨13,.phase⟩,⟨14,.phase⟩,⟨15,.phase⟩,⟨16,.phase⟩],none⟩) ?_
              try simp only [Act.put,List.setIfInBounds_toArray]
              refine wpAnyH_done (by kernel_rfl) ?_ _
              clear hHeld14
              go_wp2_with fail
              go_meet
              case rel => exact ⟨u3.heap.size,pa2,pn2,pc2,rfl,rfl,K3.out.size,HZ1.out,K6.out.trans (grw_low HZ2.out K3.out.size K6.out.size)⟩
             exact AllReadyH.nil
            exact AllReadyH.nil
           exact AllReadyH.nil
          exact AllReadyH.nil
         refine AllReadyH.cons (o := ⟨some 14,.alloc 71,0,"law.go:145",#[],none⟩) rfl (fun K hK => ?_) ?_
         ·go_simp
          refine hK.out _ _ ?_ (fun hHeld15 => ?_)
          ·(try dsimp only);exact HS.out _ (below_on K2.out ((Below.refl _ _).alloc (Nat.le_refl _) _))
          clear hK K
          try simp only [Act.put,List.setIfInBounds_toArray]
          clear hHeld2
          have LT3 : Hid (u2.heap.size < (u2.alloc (.cells #[.int .i64 0,.slice none 0 0,.int .i64 0,.int .i64 0,.int .i64 0,.int .i64 0,.int .i64 0] 71)).heap.size) := (by show _ < _;simp)
          obtain ⟨u3,hu3⟩ : ∃ u,u2.alloc (.cells #[.int .i64 0,.slice none 0 0,.int .i64 0,.int .i64 0,.int .i64 0,.int .i64 0,.int .i64 0] 71) = u := ⟨_,rfl⟩
          rw [hu3]
          rw [hu3] at hHeld15 LT3
          have E3 : Hid (Below u2.heap.size u2 u3) := by show Below _ _ _;rw [← hu3];exact ((Below.refl _ _).alloc (Nat.le_refl _) _)
          have K3 := hide (below_on K2.out E3.out)
          have HP3 := hide (HP2.out.on E3.out)
          have HV3 := hide (PrV.on HV2.out E3.out)
          have HC3 := hide (HC2.out)
          clear HP2 HV2 HC2
          have HX3 : Hid (u3.heap[u2.heap.size]? = some (.cells #[.int .i64 0,.slice none 0 0,.int .i64 0,.int .i64 0,.int .i64 0,.int .i64 0,.int .i64 0] 71)) := by show _ = _;rw [← hu3];exact new_block _ _
          clear hu3
          refine wpAnyH_ready (rs := [7]) (by kernel_rfl) (by simp) ?_
          refine AllReadyH.cons (o := ⟨some 87,.buildSlice 22 2 #[(0,.tmp 85),(1,.tmp 86)],22,"law.go:145",#[⟨5,.data⟩,⟨6,.data⟩],none⟩) rfl (fun K hK => ?_) ?_
          ·go_simp
           refine hK.out _ _ ?_ (fun hHeld16 => ?_)
           ·(try dsimp only);exact HS.out _ (below_on K3.out ((Below.refl _ _).alloc (Nat.le_refl _) _))
           clear hK K
           try simp only [Act.put,List.setIfInBounds_toArray]
           clear hHeld15
           have LT4 : Hid (u3.heap.size < (u3.alloc (.cells #[.int .i64 (i : Int),.int .i64 (j : Int)] 3)).heap.size) := (by show _ < _;simp)
           obtain ⟨u4,hu4⟩ : ∃ u,u3.alloc (.cells #[.int .i64 (i : Int),.int .i64 (j : Int)] 3) = u := ⟨_,rfl⟩
           rw [hu4]
           rw [hu4] at hHeld16 LT4
           have E4 : Hid (Below u3.heap.size u3 u4) := by show Below _ _ _;rw [← hu4];exact ((Below.refl _ _).alloc (Nat.le_refl _) _)
           have K4 := hide (below_on K3.out E4.out)
           have HP4 := hide (HP3.out.on E4.out)
           have HV4 := hide (PrV.on HV3.out E4.out)
           have HC4 := hide (HC3.out)
           have HX4 := hide ((E4.out.block _ (lt_of_block HX3.out)).trans HX3.out)
           clear HP3 HV3 HC3 HX3
           have HA4 : Hid (IntsAt u4 (some ⟨u3.heap.size,0,none⟩) [(i : Int),(j : Int)]) := by show IntsAt u4 (some ⟨u3.heap.size,0,none⟩) [(i : Int),(j : Int)];rw [← hu4];exact two_ints
           clear hu4
           refine Mn.t 9 (oi := ⟨some 89,.slice 22 (.tmp 87) none (some (.tmp 88)) none,22,"law.go:145",#[⟨7,.data⟩,⟨8,.data⟩],none⟩) ?_
           try simp only [Act.put,List.setIfInBounds_toArray]
           refine wpAnyH_ready (rs := [10]) (by kernel_rfl) (by simp) ?_
           refine AllReadyH.cons (o := ⟨some 90,.call { callee := .value (.func 45),args := #[.tmp 84,.tmp 89],argTypes := #[55,22] },55,"law.go:145",#[⟨4,.data⟩,⟨9,.data⟩,⟨4,.chain⟩],none⟩) rfl (fun K hK => ?_) ?_
           ·refine held_call (by rfl) 45 _ _ (by rfl) hent45 [.slice (some ⟨g3,0,none⟩) m cc3,.slice (some ⟨u3.heap.size,0,none⟩) lb 2] (by rfl) ?_;refine (H45.out _ _ _ _ HV4.out HC4.out HA4.out).mono ?_;rintro e u5 ⟨a4,c4,rfl,⟨q9,q8⟩,k9⟩;refine ⟨_,rfl,?_⟩;have E5 := hide k9;have K5 := hide (below_on K4.out k9);clear k9
            have HP5 := hide (HP4.out.on E5.out)
            have HV5 := hide (PrV.on HV4.out E5.out)
            have HC5 := hide (HC4.out)
            have HX5 := hide ((E5.out.block _ (lt_of_block HX4.out)).trans HX4.out)
            have HA5 := hide (IntsAt.later HA4.out E5.out)
            clear HP4 HV4 HC4 HX4 HA4
            have HU5 := hide (q9)
            have HZ5 := hide (q8)
            refine hK.out _ _ ?_ (fun hHeld17 => ?_)
            ·(try dsimp only);exact HS.out _ K5.out
            clear hK K
            try simp only [Act.put,List.setIfInBounds_toArray]
            clear hHeld16
            refine wpAnyH_ready (rs := [11]) (by kernel_rfl) (by simp) ?_
            refine AllReadyH.cons (o := ⟨some 91,.call { callee := .value (.func 36),args := #[.tmp 81,.tmp 82,.tmp 90],argTypes := #[29,3,55] },72,"law.go:145",#[⟨1,.data⟩,⟨2,.data⟩,⟨10,.data⟩,⟨10,.chain⟩],none⟩) rfl (fun K hK => ?_) ?_
            ·refine held_call (by rfl) 36 _ _ (by rfl) hent36 [.agg (prbE p x3),.int .i64 (k : Int),.slice a4 n9 c4] (by rfl) ?_;refine (H36.out _ _ _ _ _ _ _ _ HP5.out HU5.out HZ5.out HUL.out (by omega) He1.out HP1.out).mono ?_;rintro e u6 ⟨pa2,pn2,pc2,rfl,_,k9⟩;refine ⟨_,rfl,?_⟩;have E6 := hide k9;have K6 := hide (below_on K5.out k9);clear k9
             have HP6 := hide (HP5.out.on E6.out)
             have HV6 := hide (PrV.on HV5.out E6.out)
             have HC6 := hide (HC5.out)
             have HX6 := hide ((E6.out.block _ (lt_of_block HX5.out)).trans HX5.out)
             have HA6 := hide (IntsAt.later HA5.out E6.out)
             have HU6 := hide (PrV.on HU5.out E6.out)
             have HZ6 := hide (HZ5.out)
             clear HP5 HV5 HC5 HX5 HA5 HU5 HZ5
             refine hK.out _ _ ?_ (fun hHeld18 => ?_)
             ·(try dsimp only);exact HS.out _ K6.out
             clear hK K
             try simp only [Act.put,List.setIfInBounds_toArray]
             clear hHeld17
             refine Mn.t 12 (oi := ⟨some 79,.move (.tmp 91),72,"law.go:145",#[⟨11,.data⟩],none⟩) ?_
             try simp only [Act.put,List.setIfInBounds_toArray]
             refine Mn.t 13 (oi := ⟨some 92,.extract (.tmp 79) 0,71,"law.go:145",#[⟨12,.data⟩],none⟩) ?_
             try simp only [Act.put,List.setIfInBounds_toArray]
             refine Mn.t 14 (oi := ⟨some 93,.extract (.tmp 79) 1,62,"law.go:145",#[⟨12,.data⟩,⟨16,.gcOnly .lateStores⟩],none⟩) ?_
             try simp only [Act.put,List.setIfInBounds_toArray]
             refine wpAnyH_ready (rs := [16]) (by kernel_rfl) (by simp) ?_
             refine AllReadyH.cons (o := ⟨none,.store 71 (.tmp 14) (.tmp 92),0,"law.go:145",#[⟨15,.data⟩,⟨13,.data⟩,⟨11,.chain⟩,⟨0,.phase⟩,⟨1,.phase⟩,⟨2,.phase⟩,⟨3,.phase⟩,⟨4,.phase⟩,⟨5,.phase⟩,⟨6,.phase⟩,⟨7,.phase⟩,⟨8,.phase⟩,⟨9,.phase⟩,⟨10,.phase⟩,⟨11,.phase⟩,⟨12,.phase⟩,⟨13,.phase⟩,⟨14,.textOnly .lateStores⟩,⟨15,.phase⟩],none⟩) rfl (fun K hK => ?_) ?_
             ·refine held_store (by rfl) 71 (.tmp 14) (.tmp 92) (by rfl) (u2.heap.size) #[.int .i64 P1.veh,.slice pa2 pn2 pc2,.int .i64 P1.time,.int .i64 P1.dist,.int .i64 P1.wait,.int .i64 P1.serv,.int .i64 P1.cost] (by rfl) (by rfl) 71 _ HX6.out (by kernel_rfl) (by rfl) (by simp [Value.oneCell']) ?_
              obtain ⟨wz,hwz⟩ : ∃ z,(u6).setRow (u2.heap.size) #[.int .i64 P1.veh,.slice pa2 pn2 pc2,.int .i64 P1.time,.int .i64 P1.dist,.int .i64 P1.wait,.int .i64 P1.serv,.int .i64 P1.cost] = z := ⟨_,rfl⟩
              have hz1 : wz.heap[u2.heap.size]? = some (.cells #[.int .i64 P1.veh,.slice pa2 pn2 pc2,.int .i64 P1.time,.int .i64 P1.dist,.int .i64 P1.wait,.int .i64 P1.serv,.int .i64 P1.cost] 71 (0,0)) := by rw [← hwz];exact setRow_heap _ _ _ _ _ _ HX6.out
              have hz2 : (u6).grownBy wz (some (u2.heap.size)) := by rw [← hwz];exact grw_row _ _ _
              rw [hwz]
              have HZ1 := hide hz1
              have HZ2 := hide hz2
              clear hwz hz1 hz2
              refine hK.out _ _ ?_ (fun hHeld19 => ?_)
              ·(try dsimp only);exact HS.out _ (K6.out.trans (grw_low HZ2.out K2.out.size K6.out.size))
              clear hK K
              try simp only [Act.put]
              clear hHeld18
              refine Mn.t 17 (oi := ⟨some 15,.assign (.tmp 93),62,"law.go:145",#[⟨14,.data⟩,⟨16,.chain⟩,⟨0,.phase⟩,⟨1,.phase⟩,⟨2,.phase⟩,⟨3,.phase⟩,⟨4,.phase⟩,⟨5,.phase⟩,⟨6,.phase⟩,⟨7,.phase⟩,⟨8,.phase⟩,⟨9,.phase⟩,⟨10,.phase⟩,⟨11,.phase⟩,⟨12,.phase⟩,⟨13,.phase⟩,⟨14,.phase⟩,⟨15,.phase⟩,⟨16,.phase⟩],none⟩) ?_
              try simp only [Act.put,List.setIfInBounds_toArray]
              refine wpAnyH_done (by kernel_rfl) ?_ _
              clear hHeld19
              go_wp2_with fail
              go_meet
              case rel => exact ⟨u2.heap.size,pa2,pn2,pc2,rfl,rfl,K2.out.size,HZ1.out,K6.out.trans (grw_low HZ2.out K2.out.size K6.out.size)⟩
             exact AllReadyH.nil
            exact AllReadyH.nil
           exact AllReadyH.nil
          exact AllReadyH.nil
         exact AllReadyH.nil
        refine AllReadyH.cons (o := ⟨some 87,.buildSlice 22 2 #[(0,.tmp 85),(1,.tmp 86)],22,"law.go:145",#[⟨5,.data⟩,⟨6,.data⟩],none⟩) rfl (fun K hK => ?_) ?_
        ·go_simp
         refine hK.out _ _ ?_ (fun hHeld20 => ?_)
         ·(try dsimp only);exact HS.out _ (below_on K1.out ((Below.refl _ _).alloc (Nat.le_refl _) _))
         clear hK K
         try simp only [Act.put,List.setIfInBounds_toArray]
         clear hHeld1
         have LT2 : Hid (u1.heap.size < (u1.alloc (.cells #[.int .i64 (i : Int),.int .i64 (j : Int)] 3)).heap.size) := (by show _ < _;simp)
         obtain ⟨u2,hu2⟩ : ∃ u,u1.alloc (.cells #[.int .i64 (i : Int),.int .i64 (j : Int)] 3) = u := ⟨_,rfl⟩
         rw [hu2]
         rw [hu2] at hHeld20 LT2
         have E2 : Hid (Below u1.heap.size u1 u2) := by show Below _ _ _;rw [← hu2];exact ((Below.refl _ _).alloc (Nat.le_refl _) _)
         have K2 := hide (below_on K1.out E2.out)
         have HP2 := hide (HP1.out.on E2.out)
         clear HP1
         have HA2 : Hid (IntsAt u2 (some ⟨u1.heap.size,0,none⟩) [(i : Int),(j : Int)]) := by show IntsAt u2 (some ⟨u1.heap.size,0,none⟩) [(i : Int),(j : Int)];rw [← hu2];exact two_ints
         clear hu2
         refine Mn.t 9 (oi := ⟨some 89,.slice 22 (.tmp 87) none (some (.tmp 88)) none,22,"law.go:145",#[⟨7,.data⟩,⟨8,.data⟩],none⟩) ?_
         try simp only [Act.put,List.setIfInBounds_toArray]
         refine wpAnyH_ready (rs := [4,15]) (by kernel_rfl) (by simp) ?_
         refine AllReadyH.cons (o := ⟨some 84,.call { callee := .value (.func 37),args := #[.tmp 83],argTypes := #[55] },55,"law.go:145",#[⟨3,.data⟩,⟨1,.chain⟩],none⟩) rfl (fun K hK => ?_) ?_
         ·refine held_call (by rfl) 37 _ _ (by rfl) hent37 [.slice va m vc] (by rfl) ?_;refine (H37.out _ (below_on HBW.out (below_on EB.out K2.out))).mono ?_;rintro e u3 ⟨g3,cc3,rfl,⟨R9,q8⟩,k9⟩;refine ⟨_,rfl,?_⟩;have E3 := hide k9;have K3 := hide (below_on K2.out k9);clear k9
          have HP3 := hide (HP2.out.on E3.out)
          have HA3 := hide (IntsAt.later HA2.out E3.out)
          clear HP2 HA2
          have HV3 := hide (R9.vs (by rw [HM.out];omega))
          have HC3 := hide (q8)
          refine hK.out _ _ ?_ (fun hHeld21 => ?_)
          ·(try dsimp only);exact HS.out _ K3.out
          clear hK K
          try simp only [Act.put,List.setIfInBounds_toArray]
          clear hHeld20
          refine wpAnyH_ready (rs := [10,15]) (by kernel_rfl) (by simp) ?_
          refine AllReadyH.cons (o := ⟨some 90,.call { callee := .value (.func 45),args := #[.tmp 84,.tmp 89],argTypes := #[55,22] },55,"law.go:145",#[⟨4,.data⟩,⟨9,.data⟩,⟨4,.chain⟩],none⟩) rfl (fun K hK => ?_) ?_
          ·refine held_call (by rfl) 45 _ _ (by rfl) hent45 [.slice (some ⟨g3,0,none⟩) m cc3,.slice (some ⟨u1.heap.size,0,none⟩) lb 2] (by rfl) ?_;refine (H45.out _ _ _ _ HV3.out HC3.out HA3.out).mono ?_;rintro e u4 ⟨a4,c4,rfl,⟨q9,q8⟩,k9⟩;refine ⟨_,rfl,?_⟩;have E4 := hide k9;have K4 := hide (below_on K3.out k9);clear k9
           have HP4 := hide (HP3.out.on E4.out)
           have HA4 := hide (IntsAt.later HA3.out E4.out)
           have HV4 := hide (PrV.on HV3.out E4.out)
           have HC4 := hide (HC3.out)
           clear HP3 HA3 HV3 HC3
           have HU4 := hide (q9)
           have HZ4 := hide (q8)
           refine hK.out _ _ ?_ (fun hHeld22 => ?_)
           ·(try dsimp only);exact HS.out _ K4.out
           clear hK K
           try simp only [Act.put,List.setIfInBounds_toArray]
           clear hHeld21
           refine wpAnyH_ready (rs := [11,15]) (by kernel_rfl) (by simp) ?_
           refine AllReadyH.cons (o := ⟨some 91,.call { callee := .value (.func 36),args := #[.tmp 81,.tmp 82,.tmp 90],argTypes := #[29,3,55] },72,"law.go:145",#[⟨1,.data⟩,⟨2,.data⟩,⟨10,.data⟩,⟨10,.chain⟩],none⟩) rfl (fun K hK => ?_) ?_
           ·refine held_call (by rfl) 36 _ _ (by rfl) hent36 [.agg (prbE p x3),.int .i64 (k : Int),.slice a4 n9 c4] (by rfl) ?_;refine (H36.out _ _ _ _ _ _ _ _ HP4.out HU4.out HZ4.out HUL.out (by omega) He1.out HP1.out).mono ?_;rintro e u5 ⟨pa2,pn2,pc2,rfl,_,k9⟩;refine ⟨_,rfl,?_⟩;have E5 := hide k9;have K5 := hide (below_on K4.out k9);clear k9
            have HP5 := hide (HP4.out.on E5.out)
            have HA5 := hide (IntsAt.later HA4.out E5.out)
            have HV5 := hide (PrV.on HV4.out E5.out)
            have HC5 := hide (HC4.out)
            have HU5 := hide (PrV.on HU4.out E5.out)
            have HZ5 := hide (HZ4.out)
            clear HP4 HA4 HV4 HC4 HU4 HZ4
            refine hK.out _ _ ?_ (fun hHeld23 => ?_)
            ·(try dsimp only);exact HS.out _ K5.out
            clear hK K
            try simp only [Act.put,List.setIfInBounds_toArray]
            clear hHeld22
            refine Mn.t 12 (oi := ⟨some 79,.move (.tmp 91),72,"law.go:145",#[⟨11,.data⟩],none⟩) ?_
            try simp only [Act.put,List.setIfInBounds_toArray]
            refine Mn.t 13 (oi := ⟨some 92,.extract (.tmp 79) 0,71,"law.go:145",#[⟨12,.data⟩],none⟩) ?_
            try simp only [Act.put,List.setIfInBounds_toArray]
            refine Mn.t 14 (oi := ⟨some 93,.extract (.tmp 79) 1,62,"law.go:145",#[⟨12,.data⟩,⟨16,.gcOnly .lateStores⟩],none⟩) ?_
            try simp only [Act.put,List.setIfInBounds_toArray]
            refine wpAnyH_ready (rs := [15]) (by kernel_rfl) (by simp) ?_
            refine AllReadyH.cons (o := ⟨some 14,.alloc 71,0,"law.go:145",#[],none⟩) rfl (fun K hK => ?_) ?_
            ·go_simp
             refine hK.out _ _ ?_ (fun hHeld24 => ?_)
             ·(try dsimp only);exact HS.out _ (below_on K5.out ((Below.refl _ _).alloc (Nat.le_refl _) _))
             clear hK K
             try simp only [Act.put,List.setIfInBounds_toArray]
             clear hHeld23
             have LT6 : Hid (u5.heap.size < (u5.alloc (.cells #[.int .i64 0,.slice none 0 0,.int .i64 0,.int .i64 0,.int .i64 0,.int .i64 0,.int .i64 0] 71)).heap.size) := (by show _ < _;simp)
             obtain ⟨u6,hu6⟩ : ∃ u,u5.alloc (.cells #[.int .i64 0,.slice none 0 0,.int .i64 0,.int .i64 0,.int .i64 0,.int .i64 0,.int .i64 0] 71) = u := ⟨_,rfl⟩
             rw [hu6]
             rw [hu6] at hHeld24 LT6
             have E6 : Hid (Below u5.heap.size u5 u6) := by show Below _ _ _;rw [← hu6];exact ((Below.refl _ _).alloc (Nat.le_refl _) _)
             have K6 := hide (below_on K5.out E6.out)
             have HP6 := hide (HP5.out.on E6.out)
             have HA6 := hide (IntsAt.later HA5.out E6.out)
             have HV6 := hide (PrV.on HV5.out E6.out)
             have HC6 := hide (HC5.out)
             have HU6 := hide (PrV.on HU5.out E6.out)
             have HZ6 := hide (HZ5.out)
             clear HP5 HA5 HV5 HC5 HU5 HZ5
             have HX6 : Hid (u6.heap[u5.heap.size]? = some (.cells #[.int .i64 0,.slice none 0 0,.int .i64 0,.int .i64 0,.int .i64 0,.int .i64 0,.int .i64 0] 71)) := by show _ = _;rw [← hu6];exact new_block _ _
             clear hu6
             refine wpAnyH_ready (rs := [16]) (by kernel_rfl) (by simp) ?_
             refine AllReadyH.cons (o := ⟨none,.store 71 (.tmp 14) (.tmp 92),0,"law.go:145",#[⟨15,.data⟩,⟨13,.data⟩,⟨11,.chain⟩,⟨0,.phase⟩,⟨1,.phase⟩,⟨2,.phase⟩,⟨3,.phase⟩,⟨4,.phase⟩,⟨5,.phase⟩,⟨6,.phase⟩,⟨7,.phase⟩,⟨8,.phase⟩,⟨9,.phase⟩,⟨10,.phase⟩,⟨11,.phase⟩,⟨12,.phase⟩,⟨13,.phase⟩,⟨14,.textOnly .lateStores⟩,⟨15,.phase⟩],none⟩) rfl (fun K hK => ?_) ?_
             ·refine held_store (by rfl) 71 (.tmp 14) (.tmp 92) (by rfl) (u5.heap.size) #[.int .i64 P1.veh,.slice pa2 pn2 pc2,.int .i64 P1.time,.int .i64 P1.dist,.int .i64 P1.wait,.int .i64 P1.serv,.int .i64 P1.cost] (by rfl) (by rfl) 71 _ HX6.out (by kernel_rfl) (by rfl) (by simp [Value.oneCell']) ?_
              obtain ⟨wz,hwz⟩ : ∃ z,(u6).setRow (u5.heap.size) #[.int .i64 P1.veh,.slice pa2 pn2 pc2,.int .i64 P1.time,.int .i64 P1.dist,.int .i64 P1.wait,.int .i64 P1.serv,.int .i64 P1.cost] = z := ⟨_,rfl⟩
              have hz1 : wz.heap[u5.heap.size]? = some (.cells #[.int .i64 P1.veh,.slice pa2 pn2 pc2,.int .i64 P1.time,.int .i64 P1.dist,.int .i64 P1.wait,.int .i64 P1.serv,.int .i64 P1.cost] 71 (0,0)) := by rw [← hwz];exact setRow_heap _ _ _ _ _ _ HX6.out
              have hz2 : (u6).grownBy wz (some (u5.heap.size)) := by rw [← hwz];exact grw_row _ _ _
              rw [hwz]
              have HZ1 := hide hz1
              have HZ2 := hide hz2
              clear hwz hz1 hz2
              refine hK.out _ _ ?_ (fun hHeld25 => ?_)
              ·(try dsimp only);exact HS.out _ (K6.out.trans (grw_low HZ2.out K5.out.size K6.out.size))
              clear hK K
              try simp only [Act.put]
              clear hHeld24
              refine Mn.t 17 (oi := ⟨some 15,.assign (.tmp 93),62,"law.go:145",#[⟨14,.data⟩,⟨16,.chain⟩,⟨0,.phase⟩,⟨1,.phase⟩,⟨2,.phase⟩,⟨3,.phase⟩,⟨4,.phase⟩,⟨5,.phase⟩,⟨6,.phase⟩,⟨7,.phase⟩,⟨8,.phase⟩,⟨9,.phase⟩,⟨10,.phase⟩,⟨11,.phase⟩,⟨12,.phase⟩,⟨13,.phase⟩,⟨14,.phase⟩,⟨15,.phase⟩,⟨16,.phase⟩],none⟩) ?_
              try simp only [Act.put,List.setIfInBounds_toArray]
              refine wpAnyH_done (by kernel_rfl) ?_ _
              clear hHeld25
              go_wp2_with fail
              go_meet
              case rel => exact ⟨u5.heap.size,pa2,pn2,pc2,rfl,rfl,K5.out.size,HZ1.out,K6.out.trans (grw_low HZ2.out K5.out.size K6.out.size)⟩
             exact AllReadyH.nil
            exact AllReadyH.nil
           refine AllReadyH.cons (o := ⟨some 14,.alloc 71,0,"law.go:145",#[],none⟩) rfl (fun K hK => ?_) ?_
           ·go_simp
            refine hK.out _ _ ?_ (fun hHeld26 => ?_)
            ·(try dsimp only);exact HS.out _ (below_on K4.out ((Below.refl _ _).alloc (Nat.le_refl _) _))
            clear hK K
            try simp only [Act.put,List.setIfInBounds_toArray]
            clear hHeld22
            have LT5 : Hid (u4.heap.size < (u4.alloc (.cells #[.int .i64 0,.slice none 0 0,.int .i64 0,.int .i64 0,.int .i64 0,.int .i64 0,.int .i64 0] 71)).heap.size) := (by show _ < _;simp)
            obtain ⟨u5,hu5⟩ : ∃ u,u4.alloc (.cells #[.int .i64 0,.slice none 0 0,.int .i64 0,.int .i64 0,.int .i64 0,.int .i64 0,.int .i64 0] 71) = u := ⟨_,rfl⟩
            rw [hu5]
            rw [hu5] at hHeld26 LT5
            have E5 : Hid (Below u4.heap.size u4 u5) := by show Below _ _ _;rw [← hu5];exact ((Below.refl _ _).alloc (Nat.le_refl _) _)
            have K5 := hide (below_on K4.out E5.out)
            have HP5 := hide (HP4.out.on E5.out)
            have HA5 := hide (IntsAt.later HA4.out E5.out)
            have HV5 := hide (PrV.on HV4.out E5.out)
            have HC5 := hide (HC4.out)
            have HU5 := hide (PrV.on HU4.out E5.out)
            have HZ5 := hide (HZ4.out)
            clear HP4 HA4 HV4 HC4 HU4 HZ4
            have HX5 : Hid (u5.heap[u4.heap.size]? = some (.cells #[.int .i64 0,.slice none 0 0,.int .i64 0,.int .i64 0,.int .i64 0,.int .i64 0,.int .i64 0] 71)) := by show _ = _;rw [← hu5];exact new_block _ _
            clear hu5
            refine wpAnyH_ready (rs := [11]) (by kernel_rfl) (by simp) ?_
            refine AllReadyH.cons (o := ⟨some 91,.call { callee := .value (.func 36),args := #[.tmp 81,.tmp 82,.tmp 90],argTypes := #[29,3,55] },72,"law.go:145",#[⟨1,.data⟩,⟨2,.data⟩,⟨10,.data⟩,⟨10,.chain⟩],none⟩) rfl (fun K hK => ?_) ?_
            ·refine held_call (by rfl) 36 _ _ (by rfl) hent36 [.agg (prbE p x3),.int .i64 (k : Int),.slice a4 n9 c4] (by rfl) ?_;refine (H36.out _ _ _ _ _ _ _ _ HP5.out HU5.out HZ5.out HUL.out (by omega) He1.out HP1.out).mono ?_;rintro e u6 ⟨pa2,pn2,pc2,rfl,_,k9⟩;refine ⟨_,rfl,?_⟩;have E6 := hide k9;have K6 := hide (below_on K5.out k9);clear k9
             have HP6 := hide (HP5.out.on E6.out)
             have HA6 := hide (IntsAt.later HA5.out E6.out)
             have HV6 := hide (PrV.on HV5.out E6.out)
             have HC6 := hide (HC5.out)
             have HU6 := hide (PrV.on HU5.out E6.out)
             have HZ6 := hide (HZ5.out)
             have HX6 := hide ((E6.out.block _ (lt_of_block HX5.out)).trans HX5.out)
             clear HP5 HA5 HV5 HC5 HU5 HZ5 HX5
             refine hK.out _ _ ?_ (fun hHeld27 => ?_)
             ·(try dsimp only);exact HS.out _ K6.out
             clear hK K
             try simp only [Act.put,List.setIfInBounds_toArray]
             clear hHeld26
             refine Mn.t 12 (oi := ⟨some 79,.move (.tmp 91),72,"law.go:145",#[⟨11,.data⟩],none⟩) ?_
             try simp only [Act.put,List.setIfInBounds_toArray]
             refine Mn.t 13 (oi := ⟨some 92,.extract (.tmp 79) 0,71,"law.go:145",#[⟨12,.data⟩],none⟩) ?_
             try simp only [Act.put,List.setIfInBounds_toArray]
             refine Mn.t 14 (oi := ⟨some 93,.extract (.tmp 79) 1,62,"law.go:145",#[⟨12,.data⟩,⟨16,.gcOnly .lateStores⟩],none⟩) ?_
             try simp only [Act.put,List.setIfInBounds_toArray]
             refine wpAnyH_ready (rs := [16]) (by kernel_rfl) (by simp) ?_
             refine AllReadyH.cons (o := ⟨none,.store 71 (.tmp 14) (.tmp 92),0,"law.go:145",#[⟨15,.data⟩,⟨13,.data⟩,⟨11,.chain⟩,⟨0,.phase⟩,⟨1,.phase⟩,⟨2,.phase⟩,⟨3,.phase⟩,⟨4,.phase⟩,⟨5,.phase⟩,⟨6,.phase⟩,⟨7,.phase⟩,⟨8,.phase⟩,⟨9,.phase⟩,⟨10,.phase⟩,⟨11,.phase⟩,⟨12,.phase⟩,⟨13,.phase⟩,⟨14,.textOnly .lateStores⟩,⟨15,.phase⟩],none⟩) rfl (fun K hK => ?_) ?_
             ·refine held_store (by rfl) 71 (.tmp 14) (.tmp 92) (by rfl) (u4.heap.size) #[.int .i64 P1.veh,.slice pa2 pn2 pc2,.int .i64 P1.time,.int .i64 P1.dist,.int .i64 P1.wait,.int .i64 P1.serv,.int .i64 P1.cost] (by rfl) (by rfl) 71 _ HX6.out (by kernel_rfl) (by rfl) (by simp [Value.oneCell']) ?_
              obtain ⟨wz,hwz⟩ : ∃ z,(u6).setRow (u4.heap.size) #[.int .i64 P1.veh,.slice pa2 pn2 pc2,.int .i64 P1.time,.int .i64 P1.dist,.int .i64 P1.wait,.int .i64 P1.serv,.int .i64 P1.cost] = z := ⟨_,rfl⟩
              have hz1 : wz.heap[u4.heap.size]? = some (.cells #[.int .i64 P1.veh,.slice pa2 pn2 pc2,.int .i64 P1.time,.int .i64 P1.dist,.int .i64 P1.wait,.int .i64 P1.serv,.int .i64 P1.cost] 71 (0,0)) := by rw [← hwz];exact setRow_heap _ _ _ _ _ _ HX6.out
              have hz2 : (u6).grownBy wz (some (u4.heap.size)) := by rw [← hwz];exact grw_row _ _ _
              rw [hwz]
              have HZ1 := hide hz1
              have HZ2 := hide hz2
              clear hwz hz1 hz2
              refine hK.out _ _ ?_ (fun hHeld28 => ?_)
              ·(try dsimp only);exact HS.out _ (K6.out.trans (grw_low HZ2.out K4.out.size K6.out.size))
              clear hK K
              try simp only [Act.put]
              clear hHeld27
              refine Mn.t 17 (oi := ⟨some 15,.assign (.tmp 93),62,"law.go:145",#[⟨14,.data⟩,⟨16,.chain⟩,⟨0,.phase⟩,⟨1,.phase⟩,⟨2,.phase⟩,⟨3,.phase⟩,⟨4,.phase⟩,⟨5,.phase⟩,⟨6,.phase⟩,⟨7,.phase⟩,⟨8,.phase⟩,⟨9,.phase⟩,⟨10,.phase⟩,⟨11,.phase⟩,⟨12,.phase⟩,⟨13,.phase⟩,⟨14,.phase⟩,⟨15,.phase⟩,⟨16,.phase⟩],none⟩) ?_
              try simp only [Act.put,List.setIfInBounds_toArray]
              refine wpAnyH_done (by kernel_rfl) ?_ _
              clear hHeld28
              go_wp2_with fail
              go_meet
              case rel => exact ⟨u4.heap.size,pa2,pn2,pc2,rfl,rfl,K4.out.size,HZ1.out,K6.out.trans (grw_low HZ2.out K4.out.size K6.out.size)⟩
             exact AllReadyH.nil
            exact AllReadyH.nil
           exact AllReadyH.nil
          refine AllReadyH.cons (o := ⟨some 14,.alloc 71,0,"law.go:145",#[],none⟩) rfl (fun K hK => ?_) ?_
          ·go_simp
           refine hK.out _ _ ?_ (fun hHeld29 => ?_)
           ·(try dsimp only);exact HS.out _ (below_on K3.out ((Below.refl _ _).alloc (Nat.le_refl _) _))
           clear hK K
           try simp only [Act.put,List.setIfInBounds_toArray]
           clear hHeld21
           have LT4 : Hid (u3.heap.size < (u3.alloc (.cells #[.int .i64 0,.slice none 0 0,.int .i64 0,.int .i64 0,.int .i64 0,.int .i64 0,.int .i64 0] 71)).heap.size) := (by show _ < _;simp)
           obtain ⟨u4,hu4⟩ : ∃ u,u3.alloc (.cells #[.int .i64 0,.slice none 0 0,.int .i64 0,.int .i64 0,.int .i64 0,.int .i64 0,.int .i64 0] 71) = u := ⟨_,rfl⟩
           rw [hu4]
           rw [hu4] at hHeld29 LT4
           have E4 : Hid (Below u3.heap.size u3 u4) := by show Below _ _ _;rw [← hu4];exact ((Below.refl _ _).alloc (Nat.le_refl _) _)
           have K4 := hide (below_on K3.out E4.out)
           have HP4 := hide (HP3.out.on E4.out)
           have HA4 := hide (IntsAt.later HA3.out E4.out)
           have HV4 := hide (PrV.on HV3.out E4.out)
           have HC4 := hide (HC3.out)
           clear HP3 HA3 HV3 HC3
           have HX4 : Hid (u4.heap[u3.heap.size]? = some (.cells #[.int .i64 0,.slice none 0 0,.int .i64 0,.int .i64 0,.int .i64 0,.int .i64 0,.int .i64 0] 71)) := by show _ = _;rw [← hu4];exact new_block _ _
           clear hu4
           refine wpAnyH_ready (rs := [10]) (by kernel_rfl) (by simp) ?_
           refine AllReadyH.cons (o := ⟨some 90,.call { callee := .value (.func 45),args := #[.tmp 84,.tmp 89],argTypes := #[55,22] },55,"law.go:145",#[⟨4,.data⟩,⟨9,.data⟩,⟨4,.chain⟩],none⟩) rfl (fun K hK => ?_) ?_
           ·refine held_call (by rfl) 45 _ _ (by rfl) hent45 [.slice (some ⟨g3,0,none⟩) m cc3,.slice (some ⟨u1.heap.size,0,none⟩) lb 2] (by rfl) ?_;refine (H45.out _ _ _ _ HV4.out HC4.out HA4.out).mono ?_;rintro e u5 ⟨a4,c4,rfl,⟨q9,q8⟩,k9⟩;refine ⟨_,rfl,?_⟩;have E5 := hide k9;have K5 := hide (below_on K4.out k9);clear k9
            have HP5 := hide (HP4.out.on E5.out)
            have HA5 := hide (IntsAt.later HA4.out E5.out)
            have HV5 := hide (PrV.on HV4.out E5.out)
            have HC5 := hide (HC4.out)
            have HX5 := hide ((E5.out.block _ (lt_of_block HX4.out)).trans HX4.out)
            clear HP4 HA4 HV4 HC4 HX4
            have HU5 := hide (q9)
            have HZ5 := hide (q8)
            refine hK.out _ _ ?_ (fun hHeld30 => ?_)
            ·(try dsimp only);exact HS.out _ K5.out
            clear hK K
            try simp only [Act.put,List.setIfInBounds_toArray]
            clear hHeld29
            refine wpAnyH_ready (rs := [11]) (by kernel_rfl) (by simp) ?_
            refine AllReadyH.cons (o := ⟨some 91,.call { callee := .value (.func 36),args := #[.tmp 81,.tmp 82,.tmp 90],argTypes := #[29,3,55] },72,"law.go:145",#[⟨1,.data⟩,⟨2,.data⟩,⟨10,.data⟩,⟨10,.chain⟩],none⟩) rfl (fun K hK => ?_) ?_
            ·refine held_call (by rfl) 36 _ _ (by rfl) hent36 [.agg (prbE p x3),.int .i64 (k : Int),.slice a4 n9 c4] (by rfl) ?_;refine (H36.out _ _ _ _ _ _ _ _ HP5.out HU5.out HZ5.out HUL.out (by omega) He1.out HP1.out).mono ?_;rintro e u6 ⟨pa2,pn2,pc2,rfl,_,k9⟩;refine ⟨_,rfl,?_⟩;have E6 := hide k9;have K6 := hide (below_on K5.out k9);clear k9
             have HP6 := hide (HP5.out.on E6.out)
             have HA6 := hide (IntsAt.later HA5.out E6.out)
             have HV6 := hide (PrV.on HV5.out E6.out)
             have HC6 := hide (HC5.out)
             have HX6 := hide ((E6.out.block _ (lt_of_block HX5.out)).trans HX5.out)
             have HU6 := hide (PrV.on HU5.out E6.out)
             have HZ6 := hide (HZ5.out)
             clear HP5 HA5 HV5 HC5 HX5 HU5 HZ5
             refine hK.out _ _ ?_ (fun hHeld31 => ?_)
             ·(try dsimp only);exact HS.out _ K6.out
             clear hK K
             try simp only [Act.put,List.setIfInBounds_toArray]
             clear hHeld30
             refine Mn.t 12 (oi := ⟨some 79,.move (.tmp 91),72,"law.go:145",#[⟨11,.data⟩],none⟩) ?_
             try simp only [Act.put,List.setIfInBounds_toArray]
             refine Mn.t 13 (oi := ⟨some 92,.extract (.tmp 79) 0,71,"law.go:145",#[⟨12,.data⟩],none⟩) ?_
             try simp only [Act.put,List.setIfInBounds_toArray]
             refine Mn.t 14 (oi := ⟨some 93,.extract (.tmp 79) 1,62,"law.go:145",#[⟨12,.data⟩,⟨16,.gcOnly .lateStores⟩],none⟩) ?_
             try simp only [Act.put,List.setIfInBounds_toArray]
             refine wpAnyH_ready (rs := [16]) (by kernel_rfl) (by simp) ?_
             refine AllReadyH.cons (o := ⟨none,.store 71 (.tmp 14) (.tmp 92),0,"law.go:145",#[⟨15,.data⟩,⟨13,.data⟩,⟨11,.chain⟩,⟨0,.phase⟩,⟨1,.phase⟩,⟨2,.phase⟩,⟨3,.phase⟩,⟨4,.phase⟩,⟨5,.phase⟩,⟨6,.phase⟩,⟨7,.phase⟩,⟨8,.phase⟩,⟨9,.phase⟩,⟨10,.phase⟩,⟨11,.phase⟩,⟨12,.phase⟩,⟨13,.phase⟩,⟨14,.textOnly .lateStores⟩,⟨15,.phase⟩],none⟩) rfl (fun K hK => ?_) ?_
             ·refine held_store (by rfl) 71 (.tmp 14) (.tmp 92) (by rfl) (u3.heap.size) #[.int .i64 P1.veh,.slice pa2 pn2 pc2,.int .i64 P1.time,.int .i64 P1.dist,.int .i64 P1.wait,.int .i64 P1.serv,.int .i64 P1.cost] (by rfl) (by rfl) 71 _ HX6.out (by kernel_rfl) (by rfl) (by simp [Value.oneCell']) ?_
              obtain ⟨wz,hwz⟩ : ∃ z,(u6).setRow (u3.heap.size) #[.int .i64 P1.veh,.slice pa2 pn2 pc2,.int .i64 P1.time,.int .i64 P1.dist,.int .i64 P1.wait,.int .i64 P1.serv,.int .i64 P1.cost] = z := ⟨_,rfl⟩
              have hz1 : wz.heap[u3.heap.size]? = some (.cells #[.int .i64 P1.veh,.slice pa2 pn2 pc2,.int .i64 P1.time,.int .i64 P1.dist,.int .i64 P1.wait,.int .i64 P1.serv,.int .i64 P1.cost] 71 (0,0)) := by rw [← hwz];exact setRow_heap _ _ _ _ _ _ HX6.out
              have hz2 : (u6).grownBy wz (some (u3.heap.size)) := by rw [← hwz];exact grw_row _ _ _
              rw [hwz]
              have HZ1 := hide hz1
              have HZ2 := hide hz2
              clear hwz hz1 hz2
              refine hK.out _ _ ?_ (fun hHeld32 => ?_)
              ·(try dsimp only);exact HS.out _ (K6.out.trans (grw_low HZ2.out K3.out.size K6.out.size))
              clear hK K
              try simp only [Act.put]
              clear hHeld31
              refine Mn.t 17 (oi := ⟨some 15,.assign (.tmp 93),62,"law.go:145",#[⟨14,.data⟩,⟨16,.chain⟩,⟨0,.phase⟩,⟨1,.phase⟩,⟨2,.phase⟩,⟨3,.phase⟩,⟨4,.phase⟩,⟨5,.phase⟩,⟨6,.phase⟩,⟨7,.phase⟩,⟨8,.phase⟩,⟨9,.phase⟩,⟨10,.phase⟩,⟨11,.phase⟩,⟨12,.phase⟩,⟨13,.phase⟩,⟨14,.phase⟩,⟨15,.phase⟩,⟨16,.phase⟩],none⟩) ?_
              try simp only [Act.put,List.setIfInBounds_toArray]
              refine wpAnyH_done (by kernel_rfl) ?_ _
              clear hHeld32
              go_wp2_with fail
              go_meet
              case rel => exact ⟨u3.heap.size,pa2,pn2,pc2,rfl,rfl,K3.out.size,HZ1.out,K6.out.trans (grw_low HZ2.out K3.out.size K6.out.size)⟩
             exact AllReadyH.nil
            exact AllReadyH.nil
           exact AllReadyH.nil
          exact AllReadyH.nil
         refine AllReadyH.cons (o := ⟨some 14,.alloc 71,0,"law.go:145",#[],none⟩) rfl (fun K hK => ?_) ?_
         ·go_simp
          refine hK.out _ _ ?_ (fun hHeld33 => ?_)
          ·(try dsimp only);exact HS.out _ (below_on K2.out ((Below.refl _ _).alloc (Nat.le_refl _) _))
          clear hK K
          try simp only [Act.put,List.setIfInBounds_toArray]
          clear hHeld20
          have LT3 : Hid (u2.heap.size < (u2.alloc (.cells #[.int .i64 0,.slice none 0 0,.int .i64 0,.int .i64 0,.int .i64 0,.int .i64 0,.int .i64 0] 71)).heap.size) := (by show _ < _;simp)
          obtain ⟨u3,hu3⟩ : ∃ u,u2.alloc (.cells #[.int .i64 0,.slice none 0 0,.int .i64 0,.int .i64 0,.int .i64 0,.int .i64 0,.int .i64 0] 71) = u := ⟨_,rfl⟩
          rw [hu3]
          rw [hu3] at hHeld33 LT3
          have E3 : Hid (Below u2.heap.size u2 u3) := by show Below _ _ _;rw [← hu3];exact ((Below.refl _ _).alloc (Nat.le_refl _) _)
          have K3 := hide (below_on K2.out E3.out)
          have HP3 := hide (HP2.out.on E3.out)
          have HA3 := hide (IntsAt.later HA2.out E3.out)
          clear HP2 HA2
          have HX3 : Hid (u3.heap[u2.heap.size]? = some (.cells #[.int .i64 0,.slice none 0 0,.int .i64 0,.int .i64 0,.int .i64 0,.int .i64 0,.int .i64 0] 71)) := by show _ = _;rw [← hu3];exact new_block _ _
          clear hu3
          refine wpAnyH_ready (rs := [4]) (by kernel_rfl) (by simp) ?_
          refine AllReadyH.cons (o := ⟨some 84,.call { callee := .value (.func 37),args := #[.tmp 83],argTypes := #[55] },55,"law.go:145",#[⟨3,.data⟩,⟨1,.chain⟩],none⟩) rfl (fun K hK => ?_) ?_
          ·refine held_call (by rfl) 37 _ _ (by rfl) hent37 [.slice va m vc] (by rfl) ?_;refine (H37.out _ (below_on HBW.out (below_on EB.out K3.out))).mono ?_;rintro e u4 ⟨g3,cc3,rfl,⟨R9,q8⟩,k9⟩;refine ⟨_,rfl,?_⟩;have E4 := hide k9;have K4 := hide (below_on K3.out k9);clear k9
           have HP4 := hide (HP3.out.on E4.out)
           have HA4 := hide (IntsAt.later HA3.out E4.out)
           have HX4 := hide ((E4.out.block _ (lt_of_block HX3.out)).trans HX3.out)
           clear HP3 HA3 HX3
           have HV4 := hide (R9.vs (by rw [HM.out];omega))
           have HC4 := hide (q8)
           refine hK.out _ _ ?_ (fun hHeld34 => ?_)
           ·(try dsimp only);exact HS.out _ K4.out
           clear hK K
           try simp only [Act.put,List.setIfInBounds_toArray]
           clear hHeld33
           refine wpAnyH_ready (rs := [10]) (by kernel_rfl) (by simp) ?_
           refine AllReadyH.cons (o := ⟨some 90,.call { callee := .value (.func 45),args := #[.tmp 84,.tmp 89],argTypes := #[55,22] },55,"law.go:145",#[⟨4,.data⟩,⟨9,.data⟩,⟨4,.chain⟩],none⟩) rfl (fun K hK => ?_) ?_
           ·refine held_call (by rfl) 45 _ _ (by rfl) hent45 [.slice (some ⟨g3,0,none⟩) m cc3,.slice (some ⟨u1.heap.size,0,none⟩) lb 2] (by rfl) ?_;refine (H45.out _ _ _ _ HV4.out HC4.out HA4.out).mono ?_;rintro e u5 ⟨a4,c4,rfl,⟨q9,q8⟩,k9⟩;refine ⟨_,rfl,?_⟩;have E5 := hide k9;have K5 := hide (below_on K4.out k9);clear k9
            have HP5 := hide (HP4.out.on E5.out)
            have HA5 := hide (IntsAt.later HA4.out E5.out)
            have HX5 := hide ((E5.out.block _ (lt_of_block HX4.out)).trans HX4.out)
            have HV5 := hide (PrV.on HV4.out E5.out)
            have HC5 := hide (HC4.out)
            clear HP4 HA4 HX4 HV4 HC4
            have HU5 := hide (q9)
            have HZ5 := hide (q8)
            refine hK.out _ _ ?_ (fun hHeld35 => ?_)
            ·(try dsimp only);exact HS.out _ K5.out
            clear hK K
            try simp only [Act.put,List.setIfInBounds_toArray]
            clear hHeld34
            refine wpAnyH_ready (rs := [11]) (by kernel_rfl) (by simp) ?_
            refine AllReadyH.cons (o := ⟨some 91,.call { callee := .value (.func 36),args := #[.tmp 81,.tmp 82,.tmp 90],argTypes := #[29,3,55] },72,"law.go:145",#[⟨1,.data⟩,⟨2,.data⟩,⟨10,.data⟩,⟨10,.chain⟩],none⟩) rfl (fun K hK => ?_) ?_
            ·refine held_call (by rfl) 36 _ _ (by rfl) hent36 [.agg (prbE p x3),.int .i64 (k : Int),.slice a4 n9 c4] (by rfl) ?_;refine (H36.out _ _ _ _ _ _ _ _ HP5.out HU5.out HZ5.out HUL.out (by omega) He1.out HP1.out).mono ?_;rintro e u6 ⟨pa2,pn2,pc2,rfl,_,k9⟩;refine ⟨_,rfl,?_⟩;have E6 := hide k9;have K6 := hide (below_on K5.out k9);clear k9
             have HP6 := hide (HP5.out.on E6.out)
             have HA6 := hide (IntsAt.later HA5.out E6.out)
             have HX6 := hide ((E6.out.block _ (lt_of_block HX5.out)).trans HX5.out)
             have HV6 := hide (PrV.on HV5.out E6.out)
             have HC6 := hide (HC5.out)
             have HU6 := hide (PrV.on HU5.out E6.out)
             have HZ6 := hide (HZ5.out)
             clear HP5 HA5 HX5 HV5 HC5 HU5 HZ5
             refine hK.out _ _ ?_ (fun hHeld36 => ?_)
             ·(try dsimp only);exact HS.out _ K6.out
             clear hK K
             try simp only [Act.put,List.setIfInBounds_toArray]
             clear hHeld35
             refine Mn.t 12 (oi := ⟨some 79,.move (.tmp 91),72,"law.go:145",#[⟨11,.data⟩],none⟩) ?_
             try simp only [Act.put,List.setIfInBounds_toArray]
             refine Mn.t 13 (oi := ⟨some 92,.extract (.tmp 79) 0,71,"law.go:145",#[⟨12,.data⟩],none⟩) ?_
             try simp only [Act.put,List.setIfInBounds_toArray]
             refine Mn.t 14 (oi := ⟨some 93,.extract (.tmp 79) 1,62,"law.go:145",#[⟨12,.data⟩,⟨16,.gcOnly .lateStores⟩],none⟩) ?_
             try simp only [Act.put,List.setIfInBounds_toArray]
             refine wpAnyH_ready (rs := [16]) (by kernel_rfl) (by simp) ?_
             refine AllReadyH.cons (o := ⟨none,.store 71 (.tmp 14) (.tmp 92),0,"law.go:145",#[⟨15,.data⟩,⟨13,.data⟩,⟨11,.chain⟩,⟨0,.phase⟩,⟨1,.phase⟩,⟨2,.phase⟩,⟨3,.phase⟩,⟨4,.phase⟩,⟨5,.phase⟩,⟨6,.phase⟩,⟨7,.phase⟩,⟨8,.phase⟩,⟨9,.phase⟩,⟨10,.phase⟩,⟨11,.phase⟩,⟨12,.phase⟩,⟨13,.phase⟩,⟨14,.textOnly .lateStores⟩,⟨15,.phase⟩],none⟩) rfl (fun K hK => ?_) ?_
             ·refine held_store (by rfl) 71 (.tmp 14) (.tmp 92) (by rfl) (u2.heap.size) #[.int .i64 P1.veh,.slice pa2 pn2 pc2,.int .i64 P1.time,.int .i64 P1.dist,.int .i64 P1.wait,.int .i64 P1.serv,.int .i64 P1.cost] (by rfl) (by rfl) 71 _ HX6.out (by kernel_rfl) (by rfl) (by simp [Value.oneCell']) ?_
              obtain ⟨wz,hwz⟩ : ∃ z,(u6).setRow (u2.heap.size) #[.int .i64 P1.veh,.slice pa2 pn2 pc2,.int .i64 P1.time,.int .i64 P1.dist,.int .i64 P1.wait,.int .i64 P1.serv,.int .i64 P1.cost] = z := ⟨_,rfl⟩
              have hz1 : wz.heap[u2.heap.size]? = some (.cells #[.int .i64 P1.veh,.slice pa2 pn2 pc2,.int .i64 P1.time,.int .i64 P1.dist,.int .i64 P1.wait,.int .i64 P1.serv,.int .i64 P1.cost] 71 (0,0)) := by rw [← hwz];exact setRow_heap _ _ _ _ _ _ HX6.out
              have hz2 : (u6).grownBy wz (some (u2.heap.size)) := by rw [← hwz];exact grw_row _ _ _
              rw [hwz]
              have HZ1 := hide hz1
              have HZ2 := hide hz2
              clear hwz hz1 hz2
              refine hK.out _ _ ?_ (fun hHeld37 => ?_)
              ·(try dsimp only);exact HS.out _ (K6.out.trans (grw_low HZ2.out K2.out.size K6.out.size))
              clear hK K
              try simp only [Act.put]
              clear hHeld36
              refine Mn.t 17 (oi := ⟨some 15,.assign (.tmp 93),62,"law.go:145",#[⟨14,.data⟩,⟨16,.chain⟩,⟨0,.phase⟩,⟨1,.phase⟩,⟨2,.phase⟩,⟨3,.phase⟩,⟨4,.phase⟩,⟨5,.phase⟩,⟨6,.phase⟩,⟨7,.phase⟩,⟨8,.phase⟩,⟨9,.phase⟩,⟨10,.phase⟩,⟨11,.phase⟩,⟨12,.phase⟩,⟨13,.phase⟩,⟨14,.phase⟩,⟨15,.phase⟩,⟨16,.phase⟩],none⟩) ?_
              try simp only [Act.put,List.setIfInBounds_toArray]
              refine wpAnyH_done (by kernel_rfl) ?_ _
              clear hHeld37
              go_wp2_with fail
              go_meet
              case rel => exact ⟨u2.heap.size,pa2,pn2,pc2,rfl,rfl,K2.out.size,HZ1.out,K6.out.trans (grw_low HZ2.out K2.out.size K6.out.size)⟩
             exact AllReadyH.nil
            exact AllReadyH.nil
           exact AllReadyH.nil
          exact AllReadyH.nil
         exact AllReadyH.nil
        refine AllReadyH.cons (o := ⟨some 14,.alloc 71,0,"law.go:145",#[],none⟩) rfl (fun K hK => ?_) ?_
        ·go_simp
         refine hK.out _ _ ?_ (fun hHeld38 => ?_)
         ·(try dsimp only);exact HS.out _ (below_on K1.out ((Below.refl _ _).alloc (Nat.le_refl _) _))
         clear hK K
         try simp only [Act.put,List.setIfInBounds_toArray]
         clear hHeld1
         have LT2 : Hid (u1.heap.size < (u1.alloc (.cells #[.int .i64 0,.slice none 0 0,.int .i64 0,.int .i64 0,.int .i64 0,.int .i64 0,.int .i64 0] 71)).heap.size) := (by show _ < _;simp)
         obtain ⟨u2,hu2⟩ : ∃ u,u1.alloc (.cells #[.int .i64 0,.slice none 0 0,.int .i64 0,.int .i64 0,.int .i64 0,.int .i64 0,.int .i64 0] 71) = u := ⟨_,rfl⟩
         rw [hu2]
         rw [hu2] at hHeld38 LT2
         have E2 : Hid (Below u1.heap.size u1 u2) := by show Below _ _ _;rw [← hu2];exact ((Below.refl _ _).alloc (Nat.le_refl _) _)
         have K2 := hide (below_on K1.out E2.out)
         have HP2 := hide (HP1.out.on E2.out)
         clear HP1
         have HX2 : Hid (u2.heap[u1.heap.size]? = some (.cells #[.int .i64 0,.slice none 0 0,.int .i64 0,.int .i64 0,.int .i64 0,.int .i64 0,.int .i64 0] 71)) := by show _ = _;rw [← hu2];exact new_block _ _
         clear hu2
         refine wpAnyH_ready (rs := [4,7]) (by kernel_rfl) (by simp) ?_
         refine AllReadyH.cons (o := ⟨some 84,.call { callee := .value (.func 37),args := #[.tmp 83],argTypes := #[55] },55,"law.go:145",#[⟨3,.data⟩,⟨1,.chain⟩],none⟩) rfl (fun K hK => ?_) ?_
         ·refine held_call (by rfl) 37 _ _ (by rfl) hent37 [.slice va m vc] (by rfl) ?_;refine (H37.out _ (below_on HBW.out (below_on EB.out K2.out))).mono ?_;rintro e u3 ⟨g3,cc3,rfl,⟨R9,q8⟩,k9⟩;refine ⟨_,rfl,?_⟩;have E3 := hide k9;have K3 := hide (below_on K2.out k9);clear k9
          have HP3 := hide (HP2.out.on E3.out)
          have HX3 := hide ((E3.out.block _ (lt_of_block HX2.out)).trans HX2.out)
          clear HP2 HX2
          have HV3 := hide (R9.vs (by rw [HM.out];omega))
          have HC3 := hide (q8)
          refine hK.out _ _ ?_ (fun hHeld39 => ?_)
          ·(try dsimp only);exact HS.out _ K3.out
          clear hK K
          try simp only [Act.put,List.setIfInBounds_toArray]
          clear hHeld38
          refine wpAnyH_ready (rs := [7]) (by kernel_rfl) (by simp) ?_
          refine AllReadyH.cons (o := ⟨some 87,.buildSlice 22 2 #[(0,.tmp 85),(1,.tmp 86)],22,"law.go:145",#[⟨5,.data⟩,⟨6,.data⟩],none⟩) rfl (fun K hK => ?_) ?_
          ·go_simp
           refine hK.out _ _ ?_ (fun hHeld40 => ?_)
           ·(try dsimp only);exact HS.out _ (below_on K3.out ((Below.refl _ _).alloc (Nat.le_refl _) _))
           clear hK K
           try simp only [Act.put,List.setIfInBounds_toArray]
           clear hHeld39
           have LT4 : Hid (u3.heap.size < (u3.alloc (.cells #[.int .i64 (i : Int),.int .i64 (j : Int)] 3)).heap.size) := (by show _ < _;simp)
           obtain ⟨u4,hu4⟩ : ∃ u,u3.alloc (.cells #[.int .i64 (i : Int),.int .i64 (j : Int)] 3) = u := ⟨_,rfl⟩
           rw [hu4]
           rw [hu4] at hHeld40 LT4
           have E4 : Hid (Below u3.heap.size u3 u4) := by show Below _ _ _;rw [← hu4];exact ((Below.refl _ _).alloc (Nat.le_refl _) _)
           have K4 := hide (below_on K3.out E4.out)
           have HP4 := hide (HP3.out.on E4.out)
           have HX4 := hide ((E4.out.block _ (lt_of_block HX3.out)).trans HX3.out)
           have HV4 := hide (PrV.on HV3.out E4.out)
           have HC4 := hide (HC3.out)
           clear HP3 HX3 HV3 HC3
           have HA4 : Hid (IntsAt u4 (some ⟨u3.heap.size,0,none⟩) [(i : Int),(j : Int)]) := by show IntsAt u4 (some ⟨u3.heap.size,0,none⟩) [(i : Int),(j : Int)];rw [← hu4];exact two_ints
           clear hu4
           refine Mn.t 9 (oi := ⟨some 89,.slice 22 (.tmp 87) none (some (.tmp 88)) none,22,"law.go:145",#[⟨7,.data⟩,⟨8,.data⟩],none⟩) ?_
           try simp only [Act.put,List.setIfInBounds_toArray]
           refine wpAnyH_ready (rs := [10]) (by kernel_rfl) (by simp) ?_
           refine AllReadyH.cons (o := ⟨some 90,.call { callee := .value (.func 45),args := #[.tmp 84,.tmp 89],argTypes := #[55,22] },55,"law.go:145",#[⟨4,.data⟩,⟨9,.data⟩,⟨4,.chain⟩],none⟩) rfl (fun K hK => ?_) ?_
           ·refine held_call (by rfl) 45 _ _ (by rfl) hent45 [.slice (some ⟨g3,0,none⟩) m cc3,.slice (some ⟨u3.heap.size,0,none⟩) lb 2] (by rfl) ?_;refine (H45.out _ _ _ _ HV4.out HC4.out HA4.out).mono ?_;rintro e u5 ⟨a4,c4,rfl,⟨q9,q8⟩,k9⟩;refine ⟨_,rfl,?_⟩;have E5 := hide k9;have K5 := hide (below_on K4.out k9);clear k9
            have HP5 := hide (HP4.out.on E5.out)
            have HX5 := hide ((E5.out.block _ (lt_of_block HX4.out)).trans HX4.out)
            have HV5 := hide (PrV.on HV4.out E5.out)
            have HC5 := hide (HC4.out)
            have HA5 := hide (IntsAt.later HA4.out E5.out)
            clear HP4 HX4 HV4 HC4 HA4
            have HU5 := hide (q9)
            have HZ5 := hide (q8)
            refine hK.out _ _ ?_ (fun hHeld41 => ?_)
            ·(try dsimp only);exact HS.out _ K5.out
            clear hK K
            try simp only [Act.put,List.setIfInBounds_toArray]
            clear hHeld40
            refine wpAnyH_ready (rs := [11]) (by kernel_rfl) (by simp) ?_
            refine AllReadyH.cons (o := ⟨some 91,.call { callee := .value (.func 36),args := #[.tmp 81,.tmp 82,.tmp 90],argTypes := #[29,3,55] },72,"law.go:145",#[⟨1,.data⟩,⟨2,.data⟩,⟨10,.data⟩,⟨10,.chain⟩],none⟩) rfl (fun K hK => ?_) ?_
            ·refine held_call (by rfl) 36 _ _ (by rfl) hent36 [.agg (prbE p x3),.int .i64 (k : Int),.slice a4 n9 c4] (by rfl) ?_;refine (H36.out _ _ _ _ _ _ _ _ HP5.out HU5.out HZ5.out HUL.out (by omega) He1.out HP1.out).mono ?_;rintro e u6 ⟨pa2,pn2,pc2,rfl,_,k9⟩;refine ⟨_,rfl,?_⟩;have E6 := hide k9;have K6 := hide (below_on K5.out k9);clear k9
             have HP6 := hide (HP5.out.on E6.out)
             have HX6 := hide ((E6.out.block _ (lt_of_block HX5.out)).trans HX5.out)
             have HV6 := hide (PrV.on HV5.out E6.out)
             have HC6 := hide (HC5.out)
             have HA6 := hide (IntsAt.later HA5.out E6.out)
             have HU6 := hide (PrV.on HU5.out E6.out)
             have HZ6 := hide (HZ5.out)
             clear HP5 HX5 HV5 HC5 HA5 HU5 HZ5
             refine hK.out _ _ ?_ (fun hHeld42 => ?_)
             ·(try dsimp only);exact HS.out _ K6.out
             clear hK K
             try simp only [Act.put,List.setIfInBounds_toArray]
             clear hHeld41
             refine Mn.t 12 (oi := ⟨some 79,.move (.tmp 91),72,"law.go:145",#[⟨11,.data⟩],none⟩) ?_
             try simp only [Act.put,List.setIfInBounds_toArray]
             refine Mn.t 13 (oi := ⟨some 92,.extract (.tmp 79) 0,71,"law.go:145",#[⟨12,.data⟩],none⟩) ?_
             try simp only [Act.put,List.setIfInBounds_toArray]
             refine Mn.t 14 (oi := ⟨some 93,.extract (.tmp 79) 1,62,"law.go:145",#[⟨12,.data⟩,⟨16,.gcOnly .lateStores⟩],none⟩) ?_
             try simp only [Act.put,List.setIfInBounds_toArray]
             refine wpAnyH_ready (rs := [16]) (by kernel_rfl) (by simp) ?_
             refine AllReadyH.cons (o := ⟨none,.store 71 (.tmp 14) (.tmp 92),0,"law.go:145",#[⟨15,.data⟩,⟨13,.data⟩,⟨11,.chain⟩,⟨0,.phase⟩,⟨1,.phase⟩,⟨2,.phase⟩,⟨3,.phase⟩,⟨4,.phase⟩,⟨5,.phase⟩,⟨6,.phase⟩,⟨7,.phase⟩,⟨8,.phase⟩,⟨9,.phase⟩,⟨10,.phase⟩,⟨11,.phase⟩,⟨12,.phase⟩,⟨13,.phase⟩,⟨14,.textOnly .lateStores⟩,⟨15,.phase⟩],none⟩) rfl (fun K hK => ?_) ?_
             ·refine held_store (by rfl) 71 (.tmp 14) (.tmp 92) (by rfl) (u1.heap.size) #[.int .i64 P1.veh,.slice pa2 pn2 pc2,.int .i64 P1.time,.int .i64 P1.dist,.int .i64 P1.wait,.int .i64 P1.serv,.int .i64 P1.cost] (by rfl) (by rfl) 71 _ HX6.out (by kernel_rfl) (by rfl) (by simp [Value.oneCell']) ?_
              obtain ⟨wz,hwz⟩ : ∃ z,(u6).setRow (u1.heap.size) #[.int .i64 P1.veh,.slice pa2 pn2 pc2,.int .i64 P1.time,.int .i64 P1.dist,.int .i64 P1.wait,.int .i64 P1.serv,.int .i64 P1.cost] = z := ⟨_,rfl⟩
              have hz1 : wz.heap[u1.heap.size]? = some (.cells #[.int .i64 P1.veh,.slice pa2 pn2 pc2,.int .i64 P1.time,.int .i64 P1.dist,.int .i64 P1.wait,.int .i64 P1.serv,.int .i64 P1.cost] 71 (0,0)) := by rw [← hwz];exact setRow_heap _ _ _ _ _ _ HX6.out
              have hz2 : (u6).grownBy wz (some (u1.heap.size)) := by rw [← hwz];exact grw_row _ _ _
              rw [hwz]
              have HZ1 := hide hz1
              have HZ2 := hide hz2
              clear hwz hz1 hz2
              refine hK.out _ _ ?_ (fun hHeld43 => ?_)
              ·(try dsimp only);exact HS.out _ (K6.out.trans (grw_low HZ2.out K1.out.size K6.out.size))
              clear hK K
              try simp only [Act.put]
              clear hHeld42
              refine Mn.t 17 (oi := ⟨some 15,.assign (.tmp 93),62,"law.go:145",#[⟨14,.data⟩,⟨16,.chain⟩,⟨0,.phase⟩,⟨1,.phase⟩,⟨2,.phase⟩,⟨3,.phase⟩,⟨4,.phase⟩,⟨5,.phase⟩,⟨6,.phase⟩,⟨7,.phase⟩,⟨8,.phase⟩,⟨9,.phase⟩,⟨10,.phase⟩,⟨11,.phase⟩,⟨12,.phase⟩,⟨13,.phase⟩,⟨14,.phase⟩,⟨15,.phase⟩,⟨16,.phase⟩],none⟩) ?_
              try simp only [Act.put,List.setIfInBounds_toArray]
              refine wpAnyH_done (by kernel_rfl) ?_ _
              clear hHeld43
              go_wp2_with fail
              go_meet
              case rel => exact ⟨u1.heap.size,pa2,pn2,pc2,rfl,rfl,K1.out.size,HZ1.out,K6.out.trans (grw_low HZ2.out K1.out.size K6.out.size)⟩
             exact AllReadyH.nil
            exact AllReadyH.nil
           exact AllReadyH.nil
          exact AllReadyH.nil
         refine AllReadyH.cons (o := ⟨some 87,.buildSlice 22 2 #[(0,.tmp 85),(1,.tmp 86)],22,"law.go:145",#[⟨5,.data⟩,⟨6,.data⟩],none⟩) rfl (fun K hK => ?_) ?_
         ·go_simp
          refine hK.out _ _ ?_ (fun hHeld44 => ?_)
          ·(try dsimp only);exact HS.out _ (below_on K2.out ((Below.refl _ _).alloc (Nat.le_refl _) _))
          clear hK K
          try simp only [Act.put,List.setIfInBounds_toArray]
          clear hHeld38
          have LT3 : Hid (u2.heap.size < (u2.alloc (.cells #[.int .i64 (i : Int),.int .i64 (j : Int)] 3)).heap.size) := (by show _ < _;simp)
          obtain ⟨u3,hu3⟩ : ∃ u,u2.alloc (.cells #[.int .i64 (i : Int),.int .i64 (j : Int)] 3) = u := ⟨_,rfl⟩
          rw [hu3]
          rw [hu3] at hHeld44 LT3
          have E3 : Hid (Below u2.heap.size u2 u3) := by show Below _ _ _;rw [← hu3];exact ((Below.refl _ _).alloc (Nat.le_refl _) _)
          have K3 := hide (below_on K2.out E3.out)
          have HP3 := hide (HP2.out.on E3.out)
          have HX3 := hide ((E3.out.block _ (lt_of_block HX2.out)).trans HX2.out)
          clear HP2 HX2
          have HA3 : Hid (IntsAt u3 (some ⟨u2.heap.size,0,none⟩) [(i : Int),(j : Int)]) := by show IntsAt u3 (some ⟨u2.heap.size,0,none⟩) [(i : Int),(j : Int)];rw [← hu3];exact two_ints
          clear hu3
          refine Mn.t 9 (oi := ⟨some 89,.slice 22 (.tmp 87) none (some (.tmp 88)) none,22,"law.go:145",#[⟨7,.data⟩,⟨8,.data⟩],none⟩) ?_
          try simp only [Act.put,List.setIfInBounds_toArray]
          refine wpAnyH_ready (rs := [4]) (by kernel_rfl) (by simp) ?_
          refine AllReadyH.cons (o := ⟨some 84,.call { callee := .value (.func 37),args := #[.tmp 83],argTypes := #[55] },55,"law.go:145",#[⟨3,.data⟩,⟨1,.chain⟩],none⟩) rfl (fun K hK => ?_) ?_
          ·refine held_call (by rfl) 37 _ _ (by rfl) hent37 [.slice va m vc] (by rfl) ?_;refine (H37.out _ (below_on HBW.out (below_on EB.out K3.out))).mono ?_;rintro e u4 ⟨g3,cc3,rfl,⟨R9,q8⟩,k9⟩;refine ⟨_,rfl,?_⟩;have E4 := hide k9;have K4 := hide (below_on K3.out k9);clear k9
           have HP4 := hide (HP3.out.on E4.out)
           have HX4 := hide ((E4.out.block _ (lt_of_block HX3.out)).trans HX3.out)
           have HA4 := hide (IntsAt.later HA3.out E4.out)
           clear HP3 HX3 HA3
           have HV4 := hide (R9.vs (by rw [HM.out];omega))
           have HC4 := hide (q8)
           refine hK.out _ _ ?_ (fun hHeld45 => ?_)
           ·(try dsimp only);exact HS.out _ K4.out
           clear hK K
           try simp only [Act.put,List.setIfInBounds_toArray]
           clear hHeld44
           refine wpAnyH_ready (rs := [10]) (by kernel_rfl) (by simp) ?_
           refine AllReadyH.cons (o := ⟨some 90,.call { callee := .value (.func 45),args := #[.tmp 84,.tmp 89],argTypes := #[55,22] },55,"law.go:145",#[⟨4,.data⟩,⟨9,.data⟩,⟨4,.chain⟩],none⟩) rfl (fun K hK => ?_) ?_
           ·refine held_call (by rfl) 45 _ _ (by rfl) hent45 [.slice (some ⟨g3,0,none⟩) m cc3,.slice (some ⟨u2.heap.size,0,none⟩) lb 2] (by rfl) ?_;refine (H45.out _ _ _ _ HV4.out HC4.out HA4.out).mono ?_;rintro e u5 ⟨a4,c4,rfl,⟨q9,q8⟩,k9⟩;refine ⟨_,rfl,?_⟩;have E5 := hide k9;have K5 := hide (below_on K4.out k9);clear k9
            have HP5 := hide (HP4.out.on E5.out)
            have HX5 := hide ((E5.out.block _ (lt_of_block HX4.out)).trans HX4.out)
            have HA5 := hide (IntsAt.later HA4.out E5.out)
            have HV5 := hide (PrV.on HV4.out E5.out)
            have HC5 := hide (HC4.out)
            clear HP4 HX4 HA4 HV4 HC4
            have HU5 := hide (q9)
            have HZ5 := hide (q8)
            refine hK.out _ _ ?_ (fun hHeld46 => ?_)
            ·(try dsimp only);exact HS.out _ K5.out
            clear hK K
            try simp only [Act.put,List.setIfInBounds_toArray]
            clear hHeld45
            refine wpAnyH_ready (rs := [11]) (by kernel_rfl) (by simp) ?_
            refine AllReadyH.cons (o := ⟨some 91,.call { callee := .value (.func 36),args := #[.tmp 81,.tmp 82,.tmp 90],argTypes := #[29,3,55] },72,"law.go:145",#[⟨1,.data⟩,⟨2,.data⟩,⟨10,.data⟩,⟨10,.chain⟩],none⟩) rfl (fun K hK => ?_) ?_
            ·refine held_call (by rfl) 36 _ _ (by rfl) hent36 [.agg (prbE p x3),.int .i64 (k : Int),.slice a4 n9 c4] (by rfl) ?_;refine (H36.out _ _ _ _ _ _ _ _ HP5.out HU5.out HZ5.out HUL.out (by omega) He1.out HP1.out).mono ?_;rintro e u6 ⟨pa2,pn2,pc2,rfl,_,k9⟩;refine ⟨_,rfl,?_⟩;have E6 := hide k9;have K6 := hide (below_on K5.out k9);clear k9
             have HP6 := hide (HP5.out.on E6.out)
             have HX6 := hide ((E6.out.block _ (lt_of_block HX5.out)).trans HX5.out)
             have HA6 := hide (IntsAt.later HA5.out E6.out)
             have HV6 := hide (PrV.on HV5.out E6.out)
             have HC6 := hide (HC5.out)
             have HU6 := hide (PrV.on HU5.out E6.out)
             have HZ6 := hide (HZ5.out)
             clear HP5 HX5 HA5 HV5 HC5 HU5 HZ5
             refine hK.out _ _ ?_ (fun hHeld47 => ?_)
             ·(try dsimp only);exact HS.out _ K6.out
             clear hK K
             try simp only [Act.put,List.setIfInBounds_toArray]
             clear hHeld46
             refine Mn.t 12 (oi := ⟨some 79,.move (.tmp 91),72,"law.go:145",#[⟨11,.data⟩],none⟩) ?_
             try simp only [Act.put,List.setIfInBounds_toArray]
             refine Mn.t 13 (oi := ⟨some 92,.extract (.tmp 79) 0,71,"law.go:145",#[⟨12,.data⟩],none⟩) ?_
             try simp only [Act.put,List.setIfInBounds_toArray]
             refine Mn.t 14 (oi := ⟨some 93,.extract (.tmp 79) 1,62,"law.go:145",#[⟨12,.data⟩,⟨16,.gcOnly .lateStores⟩],none⟩) ?_
             try simp only [Act.put,List.setIfInBounds_toArray]
             refine wpAnyH_ready (rs := [16]) (by kernel_rfl) (by simp) ?_
             refine AllReadyH.cons (o := ⟨none,.store 71 (.tmp 14) (.tmp 92),0,"law.go:145",#[⟨15,.data⟩,⟨13,.data⟩,⟨11,.chain⟩,⟨0,.phase⟩,⟨1,.phase⟩,⟨2,.phase⟩,⟨3,.phase⟩,⟨4,.phase⟩,⟨5,.phase⟩,⟨6,.phase⟩,⟨7,.phase⟩,⟨8,.phase⟩,⟨9,.phase⟩,⟨10,.phase⟩,⟨11,.phase⟩,⟨12,.phase⟩,⟨13,.phase⟩,⟨14,.textOnly .lateStores⟩,⟨15,.phase⟩],none⟩) rfl (fun K hK => ?_) ?_
             ·refine held_store (by rfl) 71 (.tmp 14) (.tmp 92) (by rfl) (u1.heap.size) #[.int .i64 P1.veh,.slice pa2 pn2 pc2,.int .i64 P1.time,.int .i64 P1.dist,.int .i64 P1.wait,.int .i64 P1.serv,.int .i64 P1.cost] (by rfl) (by rfl) 71 _ HX6.out (by kernel_rfl) (by rfl) (by simp [Value.oneCell']) ?_
              obtain ⟨wz,hwz⟩ : ∃ z,(u6).setRow (u1.heap.size) #[.int .i64 P1.veh,.slice pa2 pn2 pc2,.int .i64 P1.time,.int .i64 P1.dist,.int .i64 P1.wait,.int .i64 P1.serv,.int .i64 P1.cost] = z := ⟨_,rfl⟩
              have hz1 : wz.heap[u1.heap.size]? = some (.cells #[.int .i64 P1.veh,.slice pa2 pn2 pc2,.int .i64 P1.time,.int .i64 P1.dist,.int .i64 P1.wait,.int .i64 P1.serv,.int .i64 P1.cost] 71 (0,0)) := by rw [← hwz];exact setRow_heap _ _ _ _ _ _ HX6.out
              have hz2 : (u6).grownBy wz (some (u1.heap.size)) := by rw [← hwz];exact grw_row _ _ _
              rw [hwz]
              have HZ1 := hide hz1
              have HZ2 := hide hz2
              clear hwz hz1 hz2
              refine hK.out _ _ ?_ (fun hHeld48 => ?_)
              ·(try dsimp only);exact HS.out _ (K6.out.trans (grw_low HZ2.out K1.out.size K6.out.size))
              clear hK K
              try simp only [Act.put]
              clear hHeld47
              refine Mn.t 17 (oi := ⟨some 15,.assign (.tmp 93),62,"law.go:145",#[⟨14,.data⟩,⟨16,.chain⟩,⟨0,.phase⟩,⟨1,.phase⟩,⟨2,.phase⟩,⟨3,.phase⟩,⟨4,.phase⟩,⟨5,.phase⟩,⟨6,.phase⟩,⟨7,.phase⟩,⟨8,.phase⟩,⟨9,.phase⟩,⟨10,.phase⟩,⟨11,.phase⟩,⟨12,.phase⟩,⟨13,.phase⟩,⟨14,.phase⟩,⟨15,.phase⟩,⟨16,.phase⟩],none⟩) ?_
              try simp only [Act.put,List.setIfInBounds_toArray]
              refine wpAnyH_done (by kernel_rfl) ?_ _
              clear hHeld48
              go_wp2_with fail
              go_meet
              case rel => exact ⟨u1.heap.size,pa2,pn2,pc2,rfl,rfl,K1.out.size,HZ1.out,K6.out.trans (grw_low HZ2.out K1.out.size K6.out.size)⟩
             exact AllReadyH.nil
            exact AllReadyH.nil
           exact AllReadyH.nil
          exact AllReadyH.nil
         exact AllReadyH.nil
        exact AllReadyH.nil
       refine AllReadyH.cons (o := ⟨some 87,.buildSlice 22 2 #[(0,.tmp 85),(1,.tmp 86)],22,"law.go:145",#[⟨5,.data⟩,⟨6,.data⟩],none⟩) rfl (fun K hK => ?_) ?_
       ·go_simp
        refine hK.out _ _ ?_ (fun hHeld49 => ?_)
        ·(try dsimp only);exact HS.out _ (below_on K0.out ((Below.refl _ _).alloc (Nat.le_refl _) _))
        clear hK K
        try simp only [Act.put,List.setIfInBounds_toArray]
        clear hHeld0
        have LT1 : Hid (u0.heap.size < (u0.alloc (.cells #[.int .i64 (i : Int),.int .i64 (j : Int)] 3)).heap.size) := (by show _ < _;simp)
        obtain ⟨u1,hu1⟩ : ∃ u,u0.alloc (.cells #[.int .i64 (i : Int),.int .i64 (j : Int)] 3) = u := ⟨_,rfl⟩
        rw [hu1]
        rw [hu1] at hHeld49 LT1
        have E1 : Hid (Below u0.heap.size u0 u1) := by show Below _ _ _;rw [← hu1];exact ((Below.refl _ _).alloc (Nat.le_refl _) _)
        have K1 := hide (below_on K0.out E1.out)
        have HA1 : Hid (IntsAt u1 (some ⟨u0.heap.size,0,none⟩) [(i : Int),(j : Int)]) := by show IntsAt u1 (some ⟨u0.heap.size,0,none⟩) [(i : Int),(j : Int)];rw [← hu1];exact two_ints
        clear hu1
        refine Mn.t 9 (oi := ⟨some 89,.slice 22 (.tmp 87) none (some (.tmp 88)) none,22,"law.go:145",#[⟨7,.data⟩,⟨8,.data⟩],none⟩) ?_
        try simp only [Act.put,List.setIfInBounds_toArray]
        refine wpAnyH_ready (rs := [1,15]) (by kernel_rfl) (by simp) ?_
        refine AllReadyH.cons (o := ⟨some 81,.call { callee := .value (.func 17),args := #[.tmp 80],argTypes := #[29] },29,"law.go:145",#[⟨0,.data⟩],none⟩) rfl (fun K hK => ?_) ?_
        ·refine held_call (by rfl) 17 _ _ (by rfl) hent17 [.agg #[.int .i64 p.dims,.int .i64 p.time.n,.slice ta p.time.cells.length tc,.int .i64 p.dist.n,.slice da p.dist.cells.length dc,.slice (some ⟨vb,voff,none⟩) nv vc',.slice ja p.js.length jc,.slice sa p.ss.length sc]] (by rfl) ?_;refine (H17.out _ (below_on HBW.out (below_on EB.out K1.out))).mono ?_;rintro e u2 ⟨x3,rfl,q9,k9⟩;refine ⟨_,rfl,?_⟩;have E2 := hide k9;have K2 := hide (below_on K1.out k9);clear k9
         have HA2 := hide (IntsAt.later HA1.out E2.out)
         clear HA1
         have HP2 := hide (q9)
         refine hK.out _ _ ?_ (fun hHeld50 => ?_)
         ·(try dsimp only);exact HS.out _ K2.out
         clear hK K
         try simp only [Act.put,List.setIfInBounds_toArray]
         clear hHeld49
         refine wpAnyH_ready (rs := [4,15]) (by kernel_rfl) (by simp) ?_
         refine AllReadyH.cons (o := ⟨some 84,.call { callee := .value (.func 37),args := #[.tmp 83],argTypes := #[55] },55,"law.go:145",#[⟨3,.data⟩,⟨1,.chain⟩],none⟩) rfl (fun K hK => ?_) ?_
         ·refine held_call (by rfl) 37 _ _ (by rfl) hent37 [.slice va m vc] (by rfl) ?_;refine (H37.out _ (below_on HBW.out (below_on EB.out K2.out))).mono ?_;rintro e u3 ⟨g3,cc3,rfl,⟨R9,q8⟩,k9⟩;refine ⟨_,rfl,?_⟩;have E3 := hide k9;have K3 := hide (below_on K2.out k9);clear k9
          have HA3 := hide (IntsAt.later HA2.out E3.out)
          have HP3 := hide (HP2.out.on E3.out)
          clear HA2 HP2
          have HV3 := hide (R9.vs (by rw [HM.out];omega))
          have HC3 := hide (q8)
          refine hK.out _ _ ?_ (fun hHeld51 => ?_)
          ·(try dsimp only);exact HS.out _ K3.out
          clear hK K
          try simp only [Act.put,List.setIfInBounds_toArray]
          clear hHeld50
          refine wpAnyH_ready (rs := [10,15]) (by kernel_rfl) (by simp) ?_
          refine AllReadyH.cons (o := ⟨some 90,.call { callee := .value (.func 45),args := #[.tmp 84,.tmp 89],argTypes := #[55,22] },55,"law.go:145",#[⟨4,.data⟩,⟨9,.data⟩,⟨4,.chain⟩],none⟩) rfl (fun K hK => ?_) ?_
          ·refine held_call (by rfl) 45 _ _ (by rfl) hent45 [.slice (some ⟨g3,0,none⟩) m cc3,.slice (some ⟨u0.heap.size,0,none⟩) lb 2] (by rfl) ?_;refine (H45.out _ _ _ _ HV3.out HC3.out HA3.out).mono ?_;rintro e u4 ⟨a4,c4,rfl,⟨q9,q8⟩,k9⟩;refine ⟨_,rfl,?_⟩;have E4 := hide k9;have K4 := hide (below_on K3.out k9);clear k9
           have HA4 := hide (IntsAt.later HA3.out E4.out)
           have HP4 := hide (HP3.out.on E4.out)
           have HV4 := hide (PrV.on HV3.out E4.out)
           have HC4 := hide (HC3.out)
           clear HA3 HP3 HV3 HC3
           have HU4 := hide (q9)
           have HZ4 := hide (q8)
           refine hK.out _ _ ?_ (fun hHeld52 => ?_)
           ·(try dsimp only);exact HS.out _ K4.out
           clear hK K
           try simp only [Act.put,List.setIfInBounds_toArray]
           clear hHeld51
           refine wpAnyH_ready (rs := [11,15]) (by kernel_rfl) (by simp) ?_
           refine AllReadyH.cons (o := ⟨some 91,.call { callee := .value (.func 36),args := #[.tmp 81,.tmp 82,.tmp 90],argTypes := #[29,3,55] },72,"law.go:145",#[⟨1,.data⟩,⟨2,.data⟩,⟨10,.data⟩,⟨10,.chain⟩],none⟩) rfl (fun K hK => ?_) ?_
           ·refine held_call (by rfl) 36 _ _ (by rfl) hent36 [.agg (prbE p x3),.int .i64 (k : Int),.slice a4 n9 c4] (by rfl) ?_;refine (H36.out _ _ _ _ _ _ _ _ HP4.out HU4.out HZ4.out HUL.out (by omega) He1.out HP1.out).mono ?_;rintro e u5 ⟨pa2,pn2,pc2,rfl,_,k9⟩;refine ⟨_,rfl,?_⟩;have E5 := hide k9;have K5 := hide (below_on K4.out k9);clear k9
            have HA5 := hide (IntsAt.later HA4.out E5.out)
            have HP5 := hide (HP4.out.on E5.out)
            have HV5 := hide (PrV.on HV4.out E5.out)
            have HC5 := hide (HC4.out)
            have HU5 := hide (PrV.on HU4.out E5.out)
            have HZ5 := hide (HZ4.out)
            clear HA4 HP4 HV4 HC4 HU4 HZ4
            refine hK.out _ _ ?_ (fun hHeld53 => ?_)
            ·(try dsimp only);exact HS.out _ K5.out
            clear hK K
            try simp only [Act.put,List.setIfInBounds_toArray]
            clear hHeld52
            refine Mn.t 12 (oi := ⟨some 79,.move (.tmp 91),72,"law.go:145",#[⟨11,.data⟩],none⟩) ?_
            try simp only [Act.put,List.setIfInBounds_toArray]
            refine Mn.t 13 (oi := ⟨some 92,.extract (.tmp 79) 0,71,"law.go:145",#[⟨12,.data⟩],none⟩) ?_
            try simp only [Act.put,List.setIfInBounds_toArray]
            refine Mn.t 14 (oi := ⟨some 93,.extract (.tmp 79) 1,62,"law.go:145",#[⟨12,.data⟩,⟨16,.gcOnly .lateStores⟩],none⟩) ?_
            try simp only [Act.put,List.setIfInBounds_toArray]
            refine wpAnyH_ready (rs := [15]) (by kernel_rfl) (by simp) ?_
            refine AllReadyH.cons (o := ⟨some 14,.alloc 71,0,"law.go:145",#[],none⟩) rfl (fun K hK => ?_) ?_
            ·go_simp
             refine hK.out _ _ ?_ (fun hHeld54 => ?_)
             ·(try dsimp only);exact HS.out _ (below_on K5.out ((Below.refl _ _).alloc (Nat.le_refl _) _))
             clear hK K
             try simp only [Act.put,List.setIfInBounds_toArray]
             clear hHeld53
             have LT6 : Hid (u5.heap.size < (u5.alloc (.cells #[.int .i64 0,.slice none 0 0,.int .i64 0,.int .i64 0,.int .i64 0,.int .i64 0,.int .i64 0] 71)).heap.size) := (by show _ < _;simp)
             obtain ⟨u6,hu6⟩ : ∃ u,u5.alloc (.cells #[.int .i64 0,.slice none 0 0,.int .i64 0,.int .i64 0,.int .i64 0,.int .i64 0,.int .i64 0] 71) = u := ⟨_,rfl⟩
             rw [hu6]
             rw [hu6] at hHeld54 LT6
             have E6 : Hid (Below u5.heap.size u5 u6) := by show Below _ _ _;rw [← hu6];exact ((Below.refl _ _).alloc (Nat.le_refl _) _)
             have K6 := hide (below_on K5.out E6.out)
             have HA6 := hide (IntsAt.later HA5.out E6.out)
             have HP6 := hide (HP5.out.on E6.out)
             have HV6 := hide (PrV.on HV5.out E6.out)
             have HC6 := hide (HC5.out)
             have HU6 := hide (PrV.on HU5.out E6.out)
             have HZ6 := hide (HZ5.out)
             clear HA5 HP5 HV5 HC5 HU5 HZ5
             have HX6 : Hid (u6.heap[u5.heap.size]? = some (.cells #[.int .i64 0,.slice none 0 0,.int .i64 0,.int .i64 0,.int .i64 0,.int .i64 0,.int .i64 0] 71)) := by show _ = _;rw [← hu6];exact new_block _ _
             clear hu6
             refine wpAnyH_ready (rs := [16]) (by kernel_rfl) (by simp) ?_
             refine AllReadyH.cons (o := ⟨none,.store 71 (.tmp 14) (.tmp 92),0,"law.go:145",#[⟨15,.data⟩,⟨13,.data⟩,⟨11,.chain⟩,⟨0,.phase⟩,⟨1,.phase⟩,⟨2,.phase⟩,⟨3,.phase⟩,⟨4,.phase⟩,⟨5,.phase⟩,⟨6,.phase⟩,⟨7,.phase⟩,⟨8,.phase⟩,⟨9,.phase⟩,⟨10,.phase⟩,⟨11,.phase⟩,⟨12,.phase⟩,⟨13,.phase⟩,⟨14,.textOnly .lateStores⟩,⟨15,.phase⟩],none⟩) rfl (fun K hK => ?_) ?_
             ·refine held_store (by rfl) 71 (.tmp 14) (.tmp 92) (by rfl) (u5.heap.size) #[.int .i64 P1.veh,.slice pa2 pn2 pc2,.int .i64 P1.time,.int .i64 P1.dist,.int .i64 P1.wait,.int .i64 P1.serv,.int .i64 P1.cost] (by rfl) (by rfl) 71 _ HX6.out (by kernel_rfl) (by rfl) (by simp [Value.oneCell']) ?_
              obtain ⟨wz,hwz⟩ : ∃ z,(u6).setRow (u5.heap.size) #[.int .i64 P1.veh,.slice pa2 pn2 pc2,.int .i64 P1.time,.int .i64 P1.dist,.int .i64 P1.wait,.int .i64 P1.serv,.int .i64 P1.cost] = z := ⟨_,rfl⟩
              have hz1 : wz.heap[u5.heap.size]? = some (.cells #[.int .i64 P1.veh,.slice pa2 pn2 pc2,.int .i64 P1.time,.int .i64 P1.dist,.int .i64 P1.wait,.int .i64 P1.serv,.int .i64 P1.cost] 71 (0,0)) := by rw [← hwz];exact setRow_heap _ _ _ _ _ _ HX6.out
              have hz2 : (u6).grownBy wz (some (u5.heap.size)) := by rw [← hwz];exact grw_row _ _ _
              rw [hwz]
              have HZ1 := hide hz1
              have HZ2 := hide hz2
              clear hwz hz1 hz2
              refine hK.out _ _ ?_ (fun hHeld55 => ?_)
              ·(try dsimp only);exact HS.out _ (K6.out.trans (grw_low HZ2.out K5.out.size K6.out.size))
              clear hK K
              try simp only [Act.put]
              clear hHeld54
              refine Mn.t 17 (oi := ⟨some 15,.assign (.tmp 93),62,"law.go:145",#[⟨14,.data⟩,⟨16,.chain⟩,⟨0,.phase⟩,⟨1,.phase⟩,⟨2,.phase⟩,⟨3,.phase⟩,⟨4,.phase⟩,⟨5,.phase⟩,⟨6,.phase⟩,⟨7,.phase⟩,⟨8,.phase⟩,⟨9,.phase⟩,⟨10,.phase⟩,⟨11,.phase⟩,⟨12,.phase⟩,⟨13,.phase⟩,⟨14,.phase⟩,⟨15,.phase⟩,⟨16,.phase⟩],none⟩) ?_
              try simp only [Act.put,List.setIfInBounds_toArray]
              refine wpAnyH_done (by kernel_rfl) ?_ _
              clear hHeld55
              go_wp2_with fail
              go_meet
              case rel => exact ⟨u5.heap.size,pa2,pn2,pc2,rfl,rfl,K5.out.size,HZ1.out,K6.out.trans (grw_low HZ2.out K5.out.size K6.out.size)⟩
             exact AllReadyH.nil
            exact AllReadyH.nil
           refine AllReadyH.cons (o := ⟨some 14,.alloc 71,0,"law.go:145",#[],none⟩) rfl (fun K hK => ?_) ?_
           ·go_simp
            refine hK.out _ _ ?_ (fun hHeld56 => ?_)
            ·(try dsimp only);exact HS.out _ (below_on K4.out ((Below.refl _ _).alloc (Nat.le_refl _) _))
            clear hK K
            try simp only [Act.put,List.setIfInBounds_toArray]
            clear hHeld52
            have LT5 : Hid (u4.heap.size < (u4.alloc (.cells #[.int .i64 0,.slice none 0 0,.int .i64 0,.int .i64 0,.int .i64 0,.int .i64 0,.int .i64 0] 71)).heap.size) := (by show _ < _;simp)
            obtain ⟨u5,hu5⟩ : ∃ u,u4.alloc (.cells #[.int .i64 0,.slice none 0 0,.int .i64 0,.int .i64 0,.int .i64 0,.int .i64 0,.int .i64 0] 71) = u := ⟨_,rfl⟩
            rw [hu5]
            rw [hu5] at hHeld56 LT5
            have E5 : Hid (Below u4.heap.size u4 u5) := by show Below _ _ _;rw [← hu5];exact ((Below.refl _ _).alloc (Nat.le_refl _) _)
            have K5 := hide (below_on K4.out E5.out)
            have HA5 := hide (IntsAt.later HA4.out E5.out)
            have HP5 := hide (HP4.out.on E5.out)
            have HV5 := hide (PrV.on HV4.out E5.out)
            have HC5 := hide (HC4.out)
            have HU5 := hide (PrV.on HU4.out E5.out)
            have HZ5 := hide (HZ4.out)
            clear HA4 HP4 HV4 HC4 HU4 HZ4
            have HX5 : Hid (u5.heap[u4.heap.size]? = some (.cells #[.int .i64 0,.slice none 0 0,.int .i64 0,.int .i64 0,.int .i64 0,.int .i64 0,.int .i64 0] 71)) := by show _ = _;rw [← hu5];exact new_block _ _
            clear hu5
            refine wpAnyH_ready (rs := [11]) (by kernel_rfl) (by simp) ?_
            refine AllReadyH.cons (o := ⟨some 91,.call { callee := .value (.func 36),args := #[.tmp 81,.tmp 82,.tmp 90],argTypes := #[29,3,55] },72,"law.go:145",#[⟨1,.data⟩,⟨2,.data⟩,⟨10,.data⟩,⟨10,.chain⟩],none⟩) rfl (fun K hK => ?_) ?_
            ·refine held_call (by rfl) 36 _ _ (by rfl) hent36 [.agg (prbE p x3),.int .i64 (k : Int),.slice a4 n9 c4] (by rfl) ?_;refine (H36.out _ _ _ _ _ _ _ _ HP5.out HU5.out HZ5.out HUL.out (by omega) He1.out HP1.out).mono ?_;rintro e u6 ⟨pa2,pn2,pc2,rfl,_,k9⟩;refine ⟨_,rfl,?_⟩;have E6 := hide k9;have K6 := hide (below_on K5.out k9);clear k9
             have HA6 := hide (IntsAt.later HA5.out E6.out)
             have HP6 := hide (HP5.out.on E6.out)
             have HV6 := hide (PrV.on HV5.out E6.out)
             have HC6 := hide (HC5.out)
             have HU6 := hide (PrV.on HU5.out E6.out)
             have HZ6 := hide (HZ5.out)
             have HX6 := hide ((E6.out.block _ (lt_of_block HX5.out)).trans HX5.out)
             clear HA5 HP5 HV5 HC5 HU5 HZ5 HX5
             refine hK.out _ _ ?_ (fun hHeld57 => ?_)
             ·(try dsimp only);exact HS.out _ K6.out
             clear hK K
             try simp only [Act.put,List.setIfInBounds_toArray]
             clear hHeld56
             refine Mn.t 12 (oi := ⟨some 79,.move (.tmp 91),72,"law.go:145",#[⟨11,.data⟩],none⟩) ?_
             try simp only [Act.put,List.setIfInBounds_toArray]
             refine Mn.t 13 (oi := ⟨some 92,.extract (.tmp 79) 0,71,"law.go:145",#[⟨12,.data⟩],none⟩) ?_
             try simp only [Act.put,List.setIfInBounds_toArray]
             refine Mn.t 14 (oi := ⟨some 93,.extract (.tmp 79) 1,62,"law.go:145",#[⟨12,.data⟩,⟨16,.gcOnly .lateStores⟩],none⟩) ?_
             try simp only [Act.put,List.setIfInBounds_toArray]
             refine wpAnyH_ready (rs := [16]) (by kernel_rfl) (by simp) ?_
             refine AllReadyH.cons (o := ⟨none,.store 71 (.tmp 14) (.tmp 92),0,"law.go:145",#[⟨15,.data⟩,⟨13,.data⟩,⟨11,.chain⟩,⟨0,.phase⟩,⟨1,.phase⟩,⟨2,.phase⟩,⟨3,.phase⟩,⟨4,.phase⟩,⟨5,.phase⟩,⟨6,.phase⟩,⟨7,.phase⟩,⟨8,.phase⟩,⟨9,.phase⟩,⟨10,.phase⟩,⟨11,.phase⟩,⟨12,.phase⟩,⟨13,.phase⟩,⟨14,.textOnly .lateStores⟩,⟨15,.phase⟩],none⟩) rfl (fun K hK => ?_) ?_
             ·refine held_store (by rfl) 71 (.tmp 14) (.tmp 92) (by rfl) (u4.heap.size) #[.int .i64 P1.veh,.slice pa2 pn2 pc2,.int .i64 P1.time,.int .i64 P1.dist,.int .i64 P1.wait,.int .i64 P1.serv,.int .i64 P1.cost] (by rfl) (by rfl) 71 _ HX6.out (by kernel_rfl) (by rfl) (by simp [Value.oneCell']) ?_
              obtain ⟨wz,hwz⟩ : ∃ z,(u6).setRow (u4.heap.size) #[.int .i64 P1.veh,.slice pa2 pn2 pc2,.int .i64 P1.time,.int .i64 P1.dist,.int .i64 P1.wait,.int .i64 P1.serv,.int .i64 P1.cost] = z := ⟨_,rfl⟩
              have hz1 : wz.heap[u4.heap.size]? = some (.cells #[.int .i64 P1.veh,.slice pa2 pn2 pc2,.int .i64 P1.time,.int .i64 P1.dist,.int .i64 P1.wait,.int .i64 P1.serv,.int .i64 P1.cost] 71 (0,0)) := by rw [← hwz];exact setRow_heap _ _ _ _ _ _ HX6.out
              have hz2 : (u6).grownBy wz (some (u4.heap.size)) := by rw [← hwz];exact grw_row _ _ _
              rw [hwz]
              have HZ1 := hide hz1
              have HZ2 := hide hz2
              clear hwz hz1 hz2
              refine hK.out _ _ ?_ (fun hHeld58 => ?_)
              ·(try dsimp only);exact HS.out _ (K6.out.trans (grw_low HZ2.out K4.out.size K6.out.size))
              clear hK K
              try simp only [Act.put]
              clear hHeld57
              refine Mn.t 17 (oi := ⟨some 15,.assign (.tmp 93),62,"law.go:145",#[⟨14,.data⟩,⟨16,.chain⟩,⟨0,.phase⟩,⟨1,.phase⟩,⟨2,.phase⟩,⟨3,.phase⟩,⟨4,.phase⟩,⟨5,.phase⟩,⟨6,.phase⟩,⟨7,.phase⟩,⟨8,.phase⟩,⟨9,.phase⟩,⟨10,.phase⟩,⟨11,.phase⟩,⟨12,.phase⟩,⟨13,.phase⟩,⟨14,.phase⟩,⟨15,.phase⟩,⟨16,.phase⟩],none⟩) ?_
              try simp only [Act.put,List.setIfInBounds_toArray]
              refine wpAnyH_done (by kernel_rfl) ?_ _
              clear hHeld58
              go_wp2_with fail
              go_meet
              case rel => exact ⟨u4.heap.size,pa2,pn2,pc2,rfl,rfl,K4.out.size,HZ1.out,K6.out.trans (grw_low HZ2.out K4.out.size K6.out.size)⟩
             exact AllReadyH.nil
            exact AllReadyH.nil
           exact AllReadyH.nil
          refine AllReadyH.cons (o := ⟨some 14,.alloc 71,0,"law.go:145",#[],none⟩) rfl (fun K hK => ?_) ?_
          ·go_simp
           refine hK.out _ _ ?_ (fun hHeld59 => ?_)
           ·(try dsimp only);exact HS.out _ (below_on K3.out ((Below.refl _ _).alloc (Nat.le_refl _) _))
           clear hK K
           try simp only [Act.put,List.setIfInBounds_toArray]
           clear hHeld51
           have LT4 : Hid (u3.heap.size < (u3.alloc (.cells #[.int .i64 0,.slice none 0 0,.int .i64 0,.int .i64 0,.int .i64 0,.int .i64 0,.int .i64 0] 71)).heap.size) := (by show _ < _;simp)
           obtain ⟨u4,hu4⟩ : ∃ u,u3.alloc (.cells #[.int .i64 0,.slice none 0 0,.int .i64 0,.int .i64 0,.int .i64 0,.int .i64 0,.int .i64 0] 71) = u := ⟨_,rfl⟩
           rw [hu4]
           rw [hu4] at hHeld59 LT4
           have E4 : Hid (Below u3.heap.size u3 u4) := by show Below _ _ _;rw [← hu4];exact ((Below.refl _ _).alloc (Nat.le_refl _) _)
           have K4 := hide (below_on K3.out E4.out)
           have HA4 := hide (IntsAt.later HA3.out E4.out)
           have HP4 := hide (HP3.out.on E4.out)
           have HV4 := hide (PrV.on HV3.out E4.out)
           have HC4 := hide (HC3.out)
           clear HA3 HP3 HV3 HC3
           have HX4 : Hid (u4.heap[u3.heap.size]? = some (.cells #[.int .i64 0,.slice none 0 0,.int .i64 0,.int .i64 0,.int .i64 0,.int .i64 0,.int .i64 0] 71)) := by show _ = _;rw [← hu4];exact new_block _ _
           clear hu4
           refine wpAnyH_ready (rs := [10]) (by kernel_rfl) (by simp) ?_
           refine AllReadyH.cons (o := ⟨some 90,.call { callee := .value (.func 45),args := #[.tmp 84,.tmp 89],argTypes := #[55,22] },55,"law.go:145",#[⟨4,.data⟩,⟨9,.data⟩,⟨4,.chain⟩],none⟩) rfl (fun K hK => ?_) ?_
           ·refine held_call (by rfl) 45 _ _ (by rfl) hent45 [.slice (some ⟨g3,0,none⟩) m cc3,.slice (some ⟨u0.heap.size,0,none⟩) lb 2] (by rfl) ?_;refine (H45.out _ _ _ _ HV4.out HC4.out HA4.out).mono ?_;rintro e u5 ⟨a4,c4,rfl,⟨q9,q8⟩,k9⟩;refine ⟨_,rfl,?_⟩;have E5 := hide k9;have K5 := hide (below_on K4.out k9);clear k9
            have HA5 := hide (IntsAt.later HA4.out E5.out)
            have HP5 := hide (HP4.out.on E5.out)
            have HV5 := hide (PrV.on HV4.out E5.out)
            have HC5 := hide (HC4.out)
            have HX5 := hide ((E5.out.block _ (lt_of_block HX4.out)).trans HX4.out)
            clear HA4 HP4 HV4 HC4 HX4
            have HU5 := hide (q9)
            have HZ5 := hide (q8)
            refine hK.out _ _ ?_ (fun hHeld60 => ?_)
            ·(try dsimp only);exact HS.out _ K5.out
            clear hK K
            try simp only [Act.put,List.setIfInBounds_toArray]
            clear hHeld59
            refine wpAnyH_ready (rs := [11]) (by kernel_rfl) (by simp) ?_
            refine AllReadyH.cons (o := ⟨some 91,.call { callee := .value (.func 36),args := #[.tmp 81,.tmp 82,.tmp 90],argTypes := #[29,3,55] },72,"law.go:145",#[⟨1,.data⟩,⟨2,.data⟩,⟨10,.data⟩,⟨10,.chain⟩],none⟩) rfl (fun K hK => ?_) ?_
            ·refine held_call (by rfl) 36 _ _ (by rfl) hent36 [.agg (prbE p x3),.int .i64 (k : Int),.slice a4 n9 c4] (by rfl) ?_;refine (H36.out _ _ _ _ _ _ _ _ HP5.out HU5.out HZ5.out HUL.out (by omega) He1.out HP1.out).mono ?_;rintro e u6 ⟨pa2,pn2,pc2,rfl,_,k9⟩;refine ⟨_,rfl,?_⟩;have E6 := hide k9;have K6 := hide (below_on K5.out k9);clear k9
             have HA6 := hide (IntsAt.later HA5.out E6.out)
             have HP6 := hide (HP5.out.on E6.out)
             have HV6 := hide (PrV.on HV5.out E6.out)
             have HC6 := hide (HC5.out)
             have HX6 := hide ((E6.out.block _ (lt_of_block HX5.out)).trans HX5.out)
             have HU6 := hide (PrV.on HU5.out E6.out)
             have HZ6 := hide (HZ5.out)
             clear HA5 HP5 HV5 HC5 HX5 HU5 HZ5
             refine hK.out _ _ ?_ (fun hHeld61 => ?_)
             ·(try dsimp only);exact HS.out _ K6.out
             clear hK K
             try simp only [Act.put,List.setIfInBounds_toArray]
             clear hHeld60
             refine Mn.t 12 (oi := ⟨some 79,.move (.tmp 91),72,"law.go:145",#[⟨11,.data⟩],none⟩) ?_
             try simp only [Act.put,List.setIfInBounds_toArray]
             refine Mn.t 13 (oi := ⟨some 92,.extract (.tmp 79) 0,71,"law.go:145",#[⟨12,.data⟩],none⟩) ?_
             try simp only [Act.put,List.setIfInBounds_toArray]
             refine Mn.t 14 (oi := ⟨some 93,.extract (.tmp 79) 1,62,"law.go:145",#[⟨12,.data⟩,⟨16,.gcOnly .lateStores⟩],none⟩) ?_
             try simp only [Act.put,List.setIfInBounds_toArray]
             refine wpAnyH_ready (rs := [16]) (by kernel_rfl) (by simp) ?_
             refine AllReadyH.cons (o := ⟨none,.store 71 (.tmp 14) (.tmp 92),0,"law.go:145",#[⟨15,.data⟩,⟨13,.data⟩,⟨11,.chain⟩,⟨0,.phase⟩,⟨1,.phase⟩,⟨2,.phase⟩,⟨3,.phase⟩,⟨4,.phase⟩,⟨5,.phase⟩,⟨6,.phase⟩,⟨7,.phase⟩,⟨8,.phase⟩,⟨9,.phase⟩,⟨10,.phase⟩,⟨11,.phase⟩,⟨12,.phase⟩,⟨13,.phase⟩,⟨14,.textOnly .lateStores⟩,⟨15,.phase⟩],none⟩) rfl (fun K hK => ?_) ?_
             ·refine held_store (by rfl) 71 (.tmp 14) (.tmp 92) (by rfl) (u3.heap.size) #[.int .i64 P1.veh,.slice pa2 pn2 pc2,.int .i64 P1.time,.int .i64 P1.dist,.int .i64 P1.wait,.int .i64 P1.serv,.int .i64 P1.cost] (by rfl) (by rfl) 71 _ HX6.out (by kernel_rfl) (by rfl) (by simp [Value.oneCell']) ?_
              obtain ⟨wz,hwz⟩ : ∃ z,(u6).setRow (u3.heap.size) #[.int .i64 P1.veh,.slice pa2 pn2 pc2,.int .i64 P1.time,.int .i64 P1.dist,.int .i64 P1.wait,.int .i64 P1.serv,.int .i64 P1.cost] = z := ⟨_,rfl⟩
              have hz1 : wz.heap[u3.heap.size]? = some (.cells #[.int .i64 P1.veh,.slice pa2 pn2 pc2,.int .i64 P1.time,.int .i64 P1.dist,.int .i64 P1.wait,.int .i64 P1.serv,.int .i64 P1.cost] 71 (0,0)) := by rw [← hwz];exact setRow_heap _ _ _ _ _ _ HX6.out
              have hz2 : (u6).grownBy wz (some (u3.heap.size)) := by rw [← hwz];exact grw_row _ _ _
              rw [hwz]
              have HZ1 := hide hz1
              have HZ2 := hide hz2
              clear hwz hz1 hz2
              refine hK.out _ _ ?_ (fun hHeld62 => ?_)
              ·(try dsimp only);exact HS.out _ (K6.out.trans (grw_low HZ2.out K3.out.size K6.out.size))
              clear hK K
              try simp only [Act.put]
              clear hHeld61
              refine Mn.t 17 (oi := ⟨some 15,.assign (.tmp 93),62,"law.go:145",#[⟨14,.data⟩,⟨16,.chain⟩,⟨0,.phase⟩,⟨1,.phase⟩,⟨2,.phase⟩,⟨3,.phase⟩,⟨4,.phase⟩,⟨5,.phase⟩,⟨6,.phase⟩,⟨7,.phase⟩,⟨8,.phase⟩,⟨9,.phase⟩,⟨10,.phase⟩,⟨11,.phase⟩,⟨12,.phase⟩,⟨13,.phase⟩,⟨14,.phase⟩,⟨15,.phase⟩,⟨16,.phase⟩],none⟩) ?_
              try simp only [Act.put,List.setIfInBounds_toArray]
              refine wpAnyH_done (by kernel_rfl) ?_ _
              clear hHeld62
              go_wp2_with fail
              go_meet
              case rel => exact ⟨u3.heap.size,pa2,pn2,pc2,rfl,rfl,K3.out.size,HZ1.out,K6.out.trans (grw_low HZ2.out K3.out.size K6.out.size)⟩
             exact AllReadyH.nil
            exact AllReadyH.nil
           exact AllReadyH.nil
          exact AllReadyH.nil
         refine AllReadyH.cons (o := ⟨some 14,.alloc 71,0,"law.go:145",#[],none⟩) rfl (fun K hK => ?_) ?_
         ·go_simp
          refine hK.out _ _ ?_ (fun hHeld63 => ?_)
          ·(try dsimp only);exact HS.out _ (below_on K2.out ((Below.refl _ _).alloc (Nat.le_refl _) _))
          clear hK K
          try simp only [Act.put,List.setIfInBounds_toArray]
          clear hHeld50
          have LT3 : Hid (u2.heap.size < (u2.alloc (.cells #[.int .i64 0,.slice none 0 0,.int .i64 0,.int .i64 0,.int .i64 0,.int .i64 0,.int .i64 0] 71)).heap.size) := (by show _ < _;simp)
          obtain ⟨u3,hu3⟩ : ∃ u,u2.alloc (.cells #[.int .i64 0,.slice none 0 0,.int .i64 0,.int .i64 0,.int .i64 0,.int .i64 0,.int .i64 0] 71) = u := ⟨_,rfl⟩
          rw [hu3]
          rw [hu3] at hHeld63 LT3
          have E3 : Hid (Below u2.heap.size u2 u3) := by show Below _ _ _;rw [← hu3];exact ((Below.refl _ _).alloc (Nat.le_refl _) _)
          have K3 := hide (below_on K2.out E3.out)
          have HA3 := hide (IntsAt.later HA2.out E3.out)
          have HP3 := hide (HP2.out.on E3.out)
          clear HA2 HP2
          have HX3 : Hid (u3.heap[u2.heap.size]? = some (.cells #[.int .i64 0,.slice none 0 0,.int .i64 0,.int .i64 0,.int .i64 0,.int .i64 0,.int .i64 0] 71)) := by show _ = _;rw [← hu3];exact new_block _ _
          clear hu3
          refine wpAnyH_ready (rs := [4]) (by kernel_rfl) (by simp) ?_
          refine AllReadyH.cons (o := ⟨some 84,.call { callee := .value (.func 37),args := #[.tmp 83],argTypes := #[55] },55,"law.go:145",#[⟨3,.data⟩,⟨1,.chain⟩],none⟩) rfl (fun K hK => ?_) ?_
          ·refine held_call (by rfl) 37 _ _ (by rfl) hent37 [.slice va m vc] (by rfl) ?_;refine (H37.out _ (below_on HBW.out (below_on EB.out K3.out))).mono ?_;rintro e u4 ⟨g3,cc3,rfl,⟨R9,q8⟩,k9⟩;refine ⟨_,rfl,?_⟩;have E4 := hide k9;have K4 := hide (below_on K3.out k9);clear k9
           have HA4 := hide (IntsAt.later HA3.out E4.out)
           have HP4 := hide (HP3.out.on E4.out)
           have HX4 := hide ((E4.out.block _ (lt_of_block HX3.out)).trans HX3.out)
           clear HA3 HP3 HX3
           have HV4 := hide (R9.vs (by rw [HM.out];omega))
           have HC4 := hide (q8)
           refine hK.out _ _ ?_ (fun hHeld64 => ?_)
           ·(try dsimp only);exact HS.out _ K4.out
           clear hK K
           try simp only [Act.put,List.setIfInBounds_toArray]
           clear hHeld63
           refine wpAnyH_ready (rs := [10]) (by kernel_rfl) (by simp) ?_
           refine AllReadyH.cons (o := ⟨some 90,.call { callee := .value (.func 45),args := #[.tmp 84,.tmp 89],argTypes := #[55,22] },55,"law.go:145",#[⟨4,.data⟩,⟨9,.data⟩,⟨4,.chain⟩],none⟩) rfl (fun K hK => ?_) ?_
           ·refine held_call (by rfl) 45 _ _ (by rfl) hent45 [.slice (some ⟨g3,0,none⟩) m cc3,.slice (some ⟨u0.heap.size,0,none⟩) lb 2] (by rfl) ?_;refine (H45.out _ _ _ _ HV4.out HC4.out HA4.out).mono ?_;rintro e u5 ⟨a4,c4,rfl,⟨q9,q8⟩,k9⟩;refine ⟨_,rfl,?_⟩;have E5 := hide k9;have K5 := hide (below_on K4.out k9);clear k9
            have HA5 := hide (IntsAt.later HA4.out E5.out)
            have HP5 := hide (HP4.out.on E5.out)
            have HX5 := hide ((E5.out.block _ (lt_of_block HX4.out)).trans HX4.out)
            have HV5 := hide (PrV.on HV4.out E5.out)
            have HC5 := hide (HC4.out)
            clear HA4 HP4 HX4 HV4 HC4
            have HU5 := hide (q9)
            have HZ5 := hide (q8)
            refine hK.out _ _ ?_ (fun hHeld65 => ?_)
            ·(try dsimp only);exact HS.out _ K5.out
            clear hK K
            try simp only [Act.put,List.setIfInBounds_toArray]
            clear hHeld64
            refine wpAnyH_ready (rs := [11]) (by kernel_rfl) (by simp) ?_
            refine AllReadyH.cons (o := ⟨some 91,.call { callee := .value (.func 36),args := #[.tmp 81,.tmp 82,.tmp 90],argTypes := #[29,3,55] },72,"law.go:145",#[⟨1,.data⟩,⟨2,.data⟩,⟨10,.data⟩,⟨10,.chain⟩],none⟩) rfl (fun K hK => ?_) ?_
            ·refine held_call (by rfl) 36 _ _ (by rfl) hent36 [.agg (prbE p x3),.int .i64 (k : Int),.slice a4 n9 c4] (by rfl) ?_;refine (H36.out _ _ _ _ _ _ _ _ HP5.out HU5.out HZ5.out HUL.out (by omega) He1.out HP1.out).mono ?_;rintro e u6 ⟨pa2,pn2,pc2,rfl,_,k9⟩;refine ⟨_,rfl,?_⟩;have E6 := hide k9;have K6 := hide (below_on K5.out k9);clear k9
             have HA6 := hide (IntsAt.later HA5.out E6.out)
             have HP6 := hide (HP5.out.on E6.out)
             have HX6 := hide ((E6.out.block _ (lt_of_block HX5.out)).trans HX5.out)
             have HV6 := hide (PrV.on HV5.out E6.out)
             have HC6 := hide (HC5.out)
             have HU6 := hide (PrV.on HU5.out E6.out)
             have HZ6 := hide (HZ5.out)
             clear HA5 HP5 HX5 HV5 HC5 HU5 HZ5
             refine hK.out _ _ ?_ (fun hHeld66 => ?_)
             ·(try dsimp only);exact HS.out _ K6.out
             clear hK K
             try simp only [Act.put,List.setIfInBounds_toArray]
             clear hHeld65
             refine Mn.t 12 (oi := ⟨some 79,.move (.tmp 91),72,"law.go:145",#[⟨11,.data⟩],none⟩) ?_
             try simp only [Act.put,List.setIfInBounds_toArray]
             refine Mn.t 13 (oi := ⟨some 92,.extract (.tmp 79) 0,71,"law.go:145",#[⟨12,.data⟩],none⟩) ?_
             try simp only [Act.put,List.setIfInBounds_toArray]
             refine Mn.t 14 (oi := ⟨some 93,.extract (.tmp 79) 1,62,"law.go:145",#[⟨12,.data⟩,⟨16,.gcOnly .lateStores⟩],none⟩) ?_
             try simp only [Act.put,List.setIfInBounds_toArray]
             refine wpAnyH_ready (rs := [16]) (by kernel_rfl) (by simp) ?_
             refine AllReadyH.cons (o := ⟨none,.store 71 (.tmp 14) (.tmp 92),0,"law.go:145",#[⟨15,.data⟩,⟨13,.data⟩,⟨11,.chain⟩,⟨0,.phase⟩,⟨1,.phase⟩,⟨2,.phase⟩,⟨3,.phase⟩,⟨4,.phase⟩,⟨5,.phase⟩,⟨6,.phase⟩,⟨7,.phase⟩,⟨8,.phase⟩,⟨9,.phase⟩,⟨10,.phase⟩,⟨11,.phase⟩,⟨12,.phase⟩,⟨13,.phase⟩,⟨14,.textOnly .lateStores⟩,⟨15,.phase⟩],none⟩) rfl (fun K hK => ?_) ?_
             ·refine held_store (by rfl) 71 (.tmp 14) (.tmp 92) (by rfl) (u2.heap.size) #[.int .i64 P1.veh,.slice pa2 pn2 pc2,.int .i64 P1.time,.int .i64 P1.dist,.int .i64 P1.wait,.int .i64 P1.serv,.int .i64 P1.cost] (by rfl) (by rfl) 71 _ HX6.out (by kernel_rfl) (by rfl) (by simp [Value.oneCell']) ?_
              obtain ⟨wz,hwz⟩ : ∃ z,(u6).setRow (u2.heap.size) #[.int .i64 P1.veh,.slice pa2 pn2 pc2,.int .i64 P1.time,.int .i64 P1.dist,.int .i64 P1.wait,.int .i64 P1.serv,.int .i64 P1.cost] = z := ⟨_,rfl⟩
              have hz1 : wz.heap[u2.heap.size]? = some (.cells #[.int .i64 P1.veh,.slice pa2 pn2 pc2,.int .i64 P1.time,.int .i64 P1.dist,.int .i64 P1.wait,.int .i64 P1.serv,.int .i64 P1.cost] 71 (0,0)) := by rw [← hwz];exact setRow_heap _ _ _ _ _ _ HX6.out
              have hz2 : (u6).grownBy wz (some (u2.heap.size)) := by rw [← hwz];exact grw_row _ _ _
              rw [hwz]
              have HZ1 := hide hz1
              have HZ2 := hide hz2
              clear hwz hz1 hz2
              refine hK.out _ _ ?_ (fun hHeld67 => ?_)
              ·(try dsimp only);exact HS.out _ (K6.out.trans (grw_low HZ2.out K2.out.size K6.out.size))
              clear hK K
              try simp only [Act.put]
              clear hHeld66
              refine Mn.t 17 (oi := ⟨some 15,.assign (.tmp 93),62,"law.go:145",#[⟨14,.data⟩,⟨16,.chain⟩,⟨0,.phase⟩,⟨1,.phase⟩,⟨2,.phase⟩,⟨3,.phase⟩,⟨4,.phase⟩,⟨5,.phase⟩,⟨6,.phase⟩,⟨7,.phase⟩,⟨8,.phase⟩,⟨9,.phase⟩,⟨10,.phase⟩,⟨11,.phase⟩,⟨12,.phase⟩,⟨13,.phase⟩,⟨14,.phase⟩,⟨15,.phase⟩,⟨16,.phase⟩],none⟩) ?_
              try simp only [Act.put,List.setIfInBounds_toArray]
              refine wpAnyH_done (by kernel_rfl) ?_ _
              clear hHeld67
              go_wp2_with fail
              go_meet
              case rel => exact ⟨u2.heap.size,pa2,pn2,pc2,rfl,rfl,K2.out.size,HZ1.out,K6.out.trans (grw_low HZ2.out K2.out.size K6.out.size)⟩
             exact AllReadyH.nil
            exact AllReadyH.nil
           exact AllReadyH.nil
          exact AllReadyH.nil
         exact AllReadyH.nil
        refine AllReadyH.cons (o := ⟨some 14,.alloc 71,0,"law.go:145",#[],none⟩) rfl (fun K hK => ?_) ?_
        ·go_simp
         refine hK.out _ _ ?_ (fun hHeld68 => ?_)
         ·(try dsimp only);exact HS.out _ (below_on K1.out ((Below.refl _ _).alloc (Nat.le_refl _) _))
         clear hK K
         try simp only [Act.put,List.setIfInBounds_toArray]
         clear hHeld49
         have LT2 : Hid (u1.heap.size < (u1.alloc (.cells #[.int .i64 0,.slice none 0 0,.int .i64 0,.int .i64 0,.int .i64 0,.int .i64 0,.int .i64 0] 71)).heap.size) := (by show _ < _;simp)
         obtain ⟨u2,hu2⟩ : ∃ u,u1.alloc (.cells #[.int .i64 0,.slice none 0 0,.int .i64 0,.int .i64 0,.int .i64 0,.int .i64 0,.int .i64 0] 71) = u := ⟨_,rfl⟩
         rw [hu2]
         rw [hu2] at hHeld68 LT2
         have E2 : Hid (Below u1.heap.size u1 u2) := by show Below _ _ _;rw [← hu2];exact ((Below.refl _ _).alloc (Nat.le_refl _) _)
         have K2 := hide (below_on K1.out E2.out)
         have HA2 := hide (IntsAt.later HA1.out E2.out)
         clear HA1
         have HX2 : Hid (u2.heap[u1.heap.size]? = some (.cells #[.int .i64 0,.slice none 0 0,.int .i64 0,.int .i64 0,.int .i64 0,.int .i64 0,.int .i64 0] 71)) := by show _ = _;rw [← hu2];exact new_block _ _
         clear hu2
         refine wpAnyH_ready (rs := [1]) (by kernel_rfl) (by simp) ?_
         refine AllReadyH.cons (o := ⟨some 81,.call { callee := .value (.func 17),args := #[.tmp 80],argTypes := #[29] },29,"law.go:145",#[⟨0,.data⟩],none⟩) rfl (fun K hK => ?_) ?_
         ·refine held_call (by rfl) 17 _ _ (by rfl) hent17 [.agg #[.int .i64 p.dims,.int .i64 p.time.n,.slice ta p.time.cells.length tc,.int .i64 p.dist.n,.slice da p.dist.cells.length dc,.slice (some ⟨vb,voff,none⟩) nv vc',.slice ja p.js.length jc,.slice sa p.ss.length sc]] (by rfl) ?_;refine (H17.out _ (below_on HBW.out (below_on EB.out K2.out))).mono ?_;rintro e u3 ⟨x3,rfl,q9,k9⟩;refine ⟨_,rfl,?_⟩;have E3 := hide k9;have K3 := hide (below_on K2.out k9);clear k9
          have HA3 := hide (IntsAt.later HA2.out E3.out)
          have HX3 := hide ((E3.out.block _ (lt_of_block HX2.out)).trans HX2.out)
          clear HA2 HX2
          have HP3 := hide (q9)
          refine hK.out _ _ ?_ (fun hHeld69 => ?_)
          ·(try dsimp only);exact HS.out _ K3.out
          clear hK K
          try simp only [Act.put,List.setIfInBounds_toArray]
          clear hHeld68
          refine wpAnyH_ready (rs := [4]) (by kernel_rfl) (by simp) ?_
          refine AllReadyH.cons (o := ⟨some 84,.call { callee := .value (.func 37),args := #[.tmp 83],argTypes := #[55] },55,"law.go:145",#[⟨3,.data⟩,⟨1,.chain⟩],none⟩) rfl (fun K hK => ?_) ?_
          ·refine held_call (by rfl) 37 _ _ (by rfl) hent37 [.slice va m vc] (by rfl) ?_;refine (H37.out _ (below_on HBW.out (below_on EB.out K3.out))).mono ?_;rintro e u4 ⟨g3,cc3,rfl,⟨R9,q8⟩,k9⟩;refine ⟨_,rfl,?_⟩;have E4 := hide k9;have K4 := hide (below_on K3.out k9);clear k9
           have HA4 := hide (IntsAt.later HA3.out E4.out)
           have HX4 := hide ((E4.out.block _ (lt_of_block HX3.out)).trans HX3.out)
           have HP4 := hide (HP3.out.on E4.out)
           clear HA3 HX3 HP3
           have HV4 := hide (R9.vs (by rw [HM.out];omega))
           have HC4 := hide (q8)
           refine hK.out _ _ ?_ (fun hHeld70 => ?_)
           ·(try dsimp only);exact HS.out _ K4.out
           clear hK K
           try simp only [Act.put,List.setIfInBounds_toArray]
           clear hHeld69
           refine wpAnyH_ready (rs := [10]) (by kernel_rfl) (by simp) ?_
           refine AllReadyH.cons (o := ⟨some 90,.call { callee := .value (.func 45),args := #[.tmp 84,.tmp 89],argTypes := #[55,22] },55,"law.go:145",#[⟨4,.data⟩,⟨9,.data⟩,⟨4,.chain⟩],none⟩) rfl (fun K hK => ?_) ?_
           ·refine held_call (by rfl) 45 _ _ (by rfl) hent45 [.slice (some ⟨g3,0,none⟩) m cc3,.slice (some ⟨u0.heap.size,0,none⟩) lb 2] (by rfl) ?_;refine (H45.out _ _ _ _ HV4.out HC4.out HA4.out).mono ?_;rintro e u5 ⟨a4,c4,rfl,⟨q9,q8⟩,k9⟩;refine ⟨_,rfl,?_⟩;have E5 := hide k9;have K5 := hide (below_on K4.out k9);clear k9
            have HA5 := hide (IntsAt.later HA4.out E5.out)
            have HX5 := hide ((E5.out.block _ (lt_of_block HX4.out)).trans HX4.out)
            have HP5 := hide (HP4.out.on E5.out)
            have HV5 := hide (PrV.on HV4.out E5.out)
            have HC5 := hide (HC4.out)
            clear HA4 HX4 HP4 HV4 HC4
            have HU5 := hide (q9)
            have HZ5 := hide (q8)
            refine hK.out _ _ ?_ (fun hHeld71 => ?_)
            ·(try dsimp only);exact HS.out _ K5.out
            clear hK K
            try simp only [Act.put,List.setIfInBounds_toArray]
            clear hHeld70
            refine wpAnyH_ready (rs := [11]) (by kernel_rfl) (by simp) ?_
            refine AllReadyH.cons (o := ⟨some 91,.call { callee := .value (.func 36),args := #[.tmp 81,.tmp 82,.tmp 90],argTypes := #[29,3,55] },72,"law.go:145",#[⟨1,.data⟩,⟨2,.data⟩,⟨10,.data⟩,⟨10,.chain⟩],none⟩) rfl (fun K hK => ?_) ?_
            ·refine held_call (by rfl) 36 _ _ (by rfl) hent36 [.agg (prbE p x3),.int .i64 (k : Int),.slice a4 n9 c4] (by rfl) ?_;refine (H36.out _ _ _ _ _ _ _ _ HP5.out HU5.out HZ5.out HUL.out (by omega) He1.out HP1.out).mono ?_;rintro e u6 ⟨pa2,pn2,pc2,rfl,_,k9⟩;refine ⟨_,rfl,?_⟩;have E6 := hide k9;have K6 := hide (below_on K5.out k9);clear k9
             have HA6 := hide (IntsAt.later HA5.out E6.out)
             have HX6 := hide ((E6.out.block _ (lt_of_block HX5.out)).trans HX5.out)
             have HP6 := hide (HP5.out.on E6.out)
             have HV6 := hide (PrV.on HV5.out E6.out)
             have HC6 := hide (HC5.out)
             have HU6 := hide (PrV.on HU5.out E6.out)
             have HZ6 := hide (HZ5.out)
             clear HA5 HX5 HP5 HV5 HC5 HU5 HZ5
             refine hK.out _ _ ?_ (fun hHeld72 => ?_)
             ·(try dsimp only);exact HS.out _ K6.out
             clear hK K
             try simp only [Act.put,List.setIfInBounds_toArray]
             clear hHeld71
             refine Mn.t 12 (oi := ⟨some 79,.move (.tmp 91),72,"law.go:145",#[⟨11,.data⟩],none⟩) ?_
             try simp only [Act.put,List.setIfInBounds_toArray]
             refine Mn.t 13 (oi := ⟨some 92,.extract (.tmp 79) 0,71,"law.go:145",#[⟨12,.data⟩],none⟩) ?_
             try simp only [Act.put,List.setIfInBounds_toArray]
             refine Mn.t 14 (oi := ⟨some 93,.extract (.tmp 79) 1,62,"law.go:145",#[⟨12,.data⟩,⟨16,.gcOnly .lateStores⟩],none⟩) ?_
             try simp only [Act.put,List.setIfInBounds_toArray]
             refine wpAnyH_ready (rs := [16]) (by kernel_rfl) (by simp) ?_
             refine AllReadyH.cons (o := ⟨none,.store 71 (.tmp 14) (.tmp 92),0,"law.go:145",#[⟨15,.data⟩,⟨13,.data⟩,⟨11,.chain⟩,⟨0,.phase⟩,⟨1,.phase⟩,⟨2,.phase⟩,⟨3,.phase⟩,⟨4,.phase⟩,⟨5,.phase⟩,⟨6,.phase⟩,⟨7,.phase⟩,⟨8,.phase⟩,⟨9,.phase⟩,⟨10,.phase⟩,⟨11,.phase⟩,⟨12,.phase⟩,⟨13,.phase⟩,⟨14,.textOnly .lateStores⟩,⟨15,.phase⟩],none⟩) rfl (fun K hK => ?_) ?_
             ·refine held_store (by rfl) 71 (.tmp 14) (.tmp 92) (by rfl) (u1.heap.size) #[.int .i64 P1.veh,.slice pa2 pn2 pc2,.int .i64 P1.time,.int .i64 P1.dist,.int .i64 P1.wait,.int .i64 P1.serv,.int .i64 P1.cost] (by rfl) (by rfl) 71 _ HX6.out (by kernel_rfl) (by rfl) (by simp [Value.oneCell']) ?_
              obtain ⟨wz,hwz⟩ : ∃ z,(u6).setRow (u1.heap.size) #[.int .i64 P1.veh,.slice pa2 pn2 pc2,.int .i64 P1.time,.int .i64 P1.dist,.int .i64 P1.wait,.int .i64 P1.serv,.int .i64 P1.cost] = z := ⟨_,rfl⟩
              have hz1 : wz.heap[u1.heap.size]? = some (.cells #[.int .i64 P1.veh,.slice pa2 pn2 pc2,.int .i64 P1.time,.int .i64 P1.dist,.int .i64 P1.wait,.int .i64 P1.serv,.int .i64 P1.cost] 71 (0,0)) := by rw [← hwz];exact setRow_heap _ _ _ _ _ _ HX6.out
              have hz2 : (u6).grownBy wz (some (u1.heap.size)) := by rw [← hwz];exact grw_row _ _ _
              rw [hwz]
              have HZ1 := hide hz1
              have HZ2 := hide hz2
              clear hwz hz1 hz2
              refine hK.out _ _ ?_ (fun hHeld73 => ?_)
              ·(try dsimp only);exact HS.out _ (K6.out.trans (grw_low HZ2.out K1.out.size K6.out.size))
              clear hK K
              try simp only [Act.put]
              clear hHeld72
              refine Mn.t 17 (oi := ⟨some 15,.assign (.tmp 93),62,"law.go:145",#[⟨14,.data⟩,⟨16,.chain⟩,⟨0,.phase⟩,⟨1,.phase⟩,⟨2,.phase⟩,⟨3,.phase⟩,⟨4,.phase⟩,⟨5,.phase⟩,⟨6,.phase⟩,⟨7,.phase⟩,⟨8,.phase⟩,⟨9,.phase⟩,⟨10,.phase⟩,⟨11,.phase⟩,⟨12,.phase⟩,⟨13,.phase⟩,⟨14,.phase⟩,⟨15,.phase⟩,⟨16,.phase⟩],none⟩) ?_
              try simp only [Act.put,List.setIfInBounds_toArray]
              refine wpAnyH_done (by kernel_rfl) ?_ _
              clear hHeld73
              go_wp2_with fail
              go_meet
              case rel => exact ⟨u1.heap.size,pa2,pn2,pc2,rfl,rfl,K1.out.size,HZ1.out,K6.out.trans (grw_low HZ2.out K1.out.size K6.out.size)⟩
             exact AllReadyH.nil
            exact AllReadyH.nil
           exact AllReadyH.nil
          exact AllReadyH.nil
         exact AllReadyH.nil
        exact AllReadyH.nil
       refine AllReadyH.cons (o := ⟨some 14,.alloc 71,0,"law.go:145",#[],none⟩) rfl (fun K hK => ?_) ?_
       ·go_simp
        refine hK.out _ _ ?_ (fun hHeld74 => ?_)
        ·(try dsimp only);exact HS.out _ (below_on K0.out ((Below.refl _ _).alloc (Nat.le_refl _) _))
        clear hK K
        try simp only [Act.put,List.setIfInBounds_toArray]
        clear hHeld0
        have LT1 : Hid (u0.heap.size < (u0.alloc (.cells #[.int .i64 0,.slice none 0 0,.int .i64 0,.int .i64 0,.int .i64 0,.int .i64 0,.int .i64 0] 71)).heap.size) := (by show _ < _;simp)
        obtain ⟨u1,hu1⟩ : ∃ u,u0.alloc (.cells #[.int .i64 0,.slice none 0 0,.int .i64 0,.int .i64 0,.int .i64 0,.int .i64 0,.int .i64 0] 71) = u := ⟨_,rfl⟩
        rw [hu1]
        rw [hu1] at hHeld74 LT1
        have E1 : Hid (Below u0.heap.size u0 u1) := by show Below _ _ _;rw [← hu1];exact ((Below.refl _ _).alloc (Nat.le_refl _) _)
        have K1 := hide (below_on K0.out E1.out)
        have HX1 : Hid (u1.heap[u0.heap.size]? = some (.cells #[.int .i64 0,.slice none 0 0,.int .i64 0,.int .i64 0,.int .i64 0,.int .i64 0,.int .i64 0] 71)) := by show _ = _;rw [← hu1];exact new_block _ _
        clear hu1
        refine wpAnyH_ready (rs := [1,7]) (by kernel_rfl) (by simp) ?_
        refine AllReadyH.cons (o := ⟨some 81,.call { callee := .value (.func 17),args := #[.tmp 80],argTypes := #[29] },29,"law.go:145",#[⟨0,.data⟩],none⟩) rfl (fun K hK => ?_) ?_
        ·refine held_call (by rfl) 17 _ _ (by rfl) hent17 [.agg #[.int .i64 p.dims,.int .i64 p.time.n,.slice ta p.time.cells.length tc,.int .i64 p.dist.n,.slice da p.dist.cells.length dc,.slice (some ⟨vb,voff,none⟩) nv vc',.slice ja p.js.length jc,.slice sa p.ss.length sc]] (by rfl) ?_;refine (H17.out _ (below_on HBW.out (below_on EB.out K1.out))).mono ?_;rintro e u2 ⟨x3,rfl,q9,k9⟩;refine ⟨_,rfl,?_⟩;have E2 := hide k9;have K2 := hide (below_on K1.out k9);clear k9
         have HX2 := hide ((E2.out.block _ (lt_of_block HX1.out)).trans HX1.out)
         clear HX1
         have HP2 := hide (q9)
         refine hK.out _ _ ?_ (fun hHeld75 => ?_)
         ·(try dsimp only);exact HS.out _ K2.out
         clear hK K
         try simp only [Act.put,List.setIfInBounds_toArray]
         clear hHeld74
         refine wpAnyH_ready (rs := [4,7]) (by kernel_rfl) (by simp) ?_
         refine AllReadyH.cons (o := ⟨some 84,.call { callee := .value (.func 37),args := #[.tmp 83],argTypes := #[55] },55,"law.go:145",#[⟨3,.data⟩,⟨1,.chain⟩],none⟩) rfl (fun K hK => ?_) ?_
         ·refine held_call (by rfl) 37 _ _ (by rfl) hent37 [.slice va m vc] (by rfl) ?_;refine (H37.out _ (below_on HBW.out (below_on EB.out K2.out))).mono ?_;rintro e u3 ⟨g3,cc3,rfl,⟨R9,q8⟩,k9⟩;refine ⟨_,rfl,?_⟩;have E3 := hide k9;have K3 := hide (below_on K2.out k9);clear k9
          have HX3 := hide ((E3.out.block _ (lt_of_block HX2.out)).trans HX2.out)
          have HP3 := hide (HP2.out.on E3.out)
          clear HX2 HP2
          have HV3 := hide (R9.vs (by rw [HM.out];omega))
          have HC3 := hide (q8)
          refine hK.out _ _ ?_ (fun hHeld76 => ?_)
          ·(try dsimp only);exact HS.out _ K3.out
          clear hK K
          try simp only [Act.put,List.setIfInBounds_toArray]
          clear hHeld75
          refine wpAnyH_ready (rs := [7]) (by kernel_rfl) (by simp) ?_
          refine AllReadyH.cons (o := ⟨some 87,.buildSlice 22 2 #[(0,.tmp 85),(1,.tmp 86)],22,"law.go:145",#[⟨5,.data⟩,⟨6,.data⟩],none⟩) rfl (fun K hK => ?_) ?_
          ·go_simp
           refine hK.out _ _ ?_ (fun hHeld77 => ?_)
           ·(try dsimp only);exact HS.out _ (below_on K3.out ((Below.refl _ _).alloc (Nat.le_refl _) _))
           clear hK K
           try simp only [Act.put,List.setIfInBounds_toArray]
           clear hHeld76
           have LT4 : Hid (u3.heap.size < (u3.alloc (.cells #[.int .i64 (i : Int),.int .i64 (j : Int)] 3)).heap.size) := (by show _ < _;simp)
           obtain ⟨u4,hu4⟩ : ∃ u,u3.alloc (.cells #[.int .i64 (i : Int),.int .i64 (j : Int)] 3) = u := ⟨_,rfl⟩
           rw [hu4]
           rw [hu4] at hHeld77 LT4
           have E4 : Hid (Below u3.heap.size u3 u4) := by show Below _ _ _;rw [← hu4];exact ((Below.refl _ _).alloc (Nat.le_refl _) _)
           have K4 := hide (below_on K3.out E4.out)
           have HX4 := hide ((E4.out.block _ (lt_of_block HX3.out)).trans HX3.out)
           have HP4 := hide (HP3.out.on E4.out)
           have HV4 := hide (PrV.on HV3.out E4.out)
           have HC4 := hide (HC3.out)
           clear HX3 HP3 HV3 HC3
           have HA4 : Hid (IntsAt u4 (some ⟨u3.heap.size,0,none⟩) [(i : Int),(j : Int)]) := by show IntsAt u4 (some ⟨u3.heap.size,0,none⟩) [(i : Int),(j : Int)];rw [← hu4];exact two_ints
           clear hu4
           refine Mn.t 9 (oi := ⟨some 89,.slice 22 (.tmp 87) none (some (.tmp 88)) none,22,"law.go:145",#[⟨7,.data⟩,⟨8,.data⟩],none⟩) ?_
           try simp only [Act.put,List.setIfInBounds_toArray]
           refine wpAnyH_ready (rs := [10]) (by kernel_rfl) (by simp) ?_
           refine AllReadyH.cons (o := ⟨some 90,.call { callee := .value (.func 45),args := #[.tmp 84,.tmp 89],argTypes := #[55,22] },55,"law.go:145",#[⟨4,.data⟩,⟨9,.data⟩,⟨4,.chain⟩],none⟩) rfl (fun K hK => ?_) ?_
           ·refine held_call (by rfl) 45 _ _ (by rfl) hent45 [.slice (some ⟨g3,0,none⟩) m cc3,.slice (some ⟨u3.heap.size,0,none⟩) lb 2] (by rfl) ?_;refine (H45.out _ _ _ _ HV4.out HC4.out HA4.out).mono ?_;rintro e u5 ⟨a4,c4,rfl,⟨q9,q8⟩,k9⟩;refine ⟨_,rfl,?_⟩;have E5 := hide k9;have K5 := hide (below_on K4.out k9);clear k9
            have HX5 := hide ((E5.out.block _ (lt_of_block HX4.out)).trans HX4.out)
            have HP5 := hide (HP4.out.on E5.out)
            have HV5 := hide (PrV.on HV4.out E5.out)
            have HC5 := hide (HC4.out)
            have HA5 := hide (IntsAt.later HA4.out E5.out)
            clear HX4 HP4 HV4 HC4 HA4
            have HU5 := hide (q9)
            have HZ5 := hide (q8)
            refine hK.out _ _ ?_ (fun hHeld78 => ?_)
            ·(try dsimp only);exact HS.out _ K5.out
            clear hK K
            try simp only [Act.put,List.setIfInBounds_toArray]
            clear hHeld77
            refine wpAnyH_ready (rs := [11]) (by kernel_rfl) (by simp) ?_
            refine AllReadyH.cons (o := ⟨some 91,.call { callee := .value (.func 36),args := #[.tmp 81,.tmp 82,.tmp 90],argTypes := #[29,3,55] },72,"law.go:145",#[⟨1,.data⟩,⟨2,.data⟩,⟨10,.data⟩,⟨10,.chain⟩],none⟩) rfl (fun K hK => ?_) ?_
            ·refine held_call (by rfl) 36 _ _ (by rfl) hent36 [.agg (prbE p x3),.int .i64 (k : Int),.slice a4 n9 c4] (by rfl) ?_;refine (H36.out _ _ _ _ _ _ _ _ HP5.out HU5.out HZ5.out HUL.out (by omega) He1.out HP1.out).mono ?_;rintro e u6 ⟨pa2,pn2,pc2,rfl,_,k9⟩;refine ⟨_,rfl,?_⟩;have E6 := hide k9;have K6 := hide (below_on K5.out k9);clear k9
             have HX6 := hide ((E6.out.block _ (lt_of_block HX5.out)).trans HX5.out)
             have HP6 := hide (HP5.out.on E6.out)
             have HV6 := hide (PrV.on HV5.out E6.out)
             have HC6 := hide (HC5.out)
             have HA6 := hide (IntsAt.later HA5.out E6.out)
             have HU6 := hide (PrV.on HU5.out E6.out)
             have HZ6 := hide (HZ5.out)
             clear HX5 HP5 HV5 HC5 HA5 HU5 HZ5
             refine hK.out _ _ ?_ (fun hHeld79 => ?_)
             ·(try dsimp only);exact HS.out _ K6.out
             clear hK K
             try simp only [Act.put,List.setIfInBounds_toArray]
             clear hHeld78
             refine Mn.t 12 (oi := ⟨some 79,.move (.tmp 91),72,"law.go:145",#[⟨11,.data⟩],none⟩) ?_
             try simp only [Act.put,List.setIfInBounds_toArray]
             refine Mn.t 13 (oi := ⟨some 92,.extract (.tmp 79) 0,71,"law.go:145",#[⟨12,.data⟩],none⟩) ?_
             try simp only [Act.put,List.setIfInBounds_toArray]
             refine Mn.t 14 (oi := ⟨some 93,.extract (.tmp 79) 1,62,"law.go:145",#[⟨12,.data⟩,⟨16,.gcOnly .lateStores⟩],none⟩) ?_
             try simp only [Act.put,List.setIfInBounds_toArray]
             refine wpAnyH_ready (rs := [16]) (by kernel_rfl) (by simp) ?_
             refine AllReadyH.cons (o := ⟨none,.store 71 (.tmp 14) (.tmp 92),0,"law.go:145",#[⟨15,.data⟩,⟨13,.data⟩,⟨11,.chain⟩,⟨0,.phase⟩,⟨1,.phase⟩,⟨2,.phase⟩,⟨3,.phase⟩,⟨4,.phase⟩,⟨5,.phase⟩,⟨6,.phase⟩,⟨7,.phase⟩,⟨8,.phase⟩,⟨9,.phase⟩,⟨10,.phase⟩,⟨11,.phase⟩,⟨12,.phase⟩,⟨13,.phase⟩,⟨14,.textOnly .lateStores⟩,⟨15,.phase⟩],none⟩) rfl (fun K hK => ?_) ?_
             ·refine held_store (by rfl) 71 (.tmp 14) (.tmp 92) (by rfl) (u0.heap.size) #[.int .i64 P1.veh,.slice pa2 pn2 pc2,.int .i64 P1.time,.int .i64 P1.dist,.int .i64 P1.wait,.int .i64 P1.serv,.int .i64 P1.cost] (by rfl) (by rfl) 71 _ HX6.out (by kernel_rfl) (by rfl) (by simp [Value.oneCell']) ?_
              obtain ⟨wz,hwz⟩ : ∃ z,(u6).setRow (u0.heap.size) #[.int .i64 P1.veh,.slice pa2 pn2 pc2,.int .i64 P1.time,.int .i64 P1.dist,.int .i64 P1.wait,.int .i64 P1.serv,.int .i64 P1.cost] = z := ⟨_,rfl⟩
              have hz1 : wz.heap[u0.heap.size]? = some (.cells #[.int .i64 P1.veh,.slice pa2 pn2 pc2,.int .i64 P1.time,.int .i64 P1.dist,.int .i64 P1.wait,.int .i64 P1.serv,.int .i64 P1.cost] 71 (0,0)) := by rw [← hwz];exact setRow_heap _ _ _ _ _ _ HX6.out
              have hz2 : (u6).grownBy wz (some (u0.heap.size)) := by rw [← hwz];exact grw_row _ _ _
              rw [hwz]
              have HZ1 := hide hz1
              have HZ2 := hide hz2
              clear hwz hz1 hz2
              refine hK.out _ _ ?_ (fun hHeld80 => ?_)
              ·(try dsimp only);exact HS.out _ (K6.out.trans (grw_low HZ2.out K0.out.size K6.out.size))
              clear hK K
              try simp only [Act.put]
              clear hHeld79
              refine Mn.t 17 (oi := ⟨some 15,.assign (.tmp 93),62,"law.go:145",#[⟨14,.data⟩,⟨16,.chain⟩,⟨0,.phase⟩,⟨1,.phase⟩,⟨2,.phase⟩,⟨3,.phase⟩,⟨4,.phase⟩,⟨5,.phase⟩,⟨6,.phase⟩,⟨7,.phase⟩,⟨8,.phase⟩,⟨9,.phase⟩,⟨10,.phase⟩,⟨11,.phase⟩,⟨12,.phase⟩,⟨13,.phase⟩,⟨14,.phase⟩,⟨15,.phase⟩,⟨16,.phase⟩],none⟩) ?_
              try simp only [Act.put,List.setIfInBounds_toArray]
              refine wpAnyH_done (by kernel_rfl) ?_ _
              clear hHeld80
              go_wp2_with fail
              go_meet
              case rel => exact ⟨u0.heap.size,pa2,pn2,pc2,rfl,rfl,K0.out.size,HZ1.out,K6.out.trans (grw_low HZ2.out K0.out.size K6.out.size)⟩
             exact AllReadyH.nil
            exact AllReadyH.nil
           exact AllReadyH.nil
          exact AllReadyH.nil
         refine AllReadyH.cons (o := ⟨some 87,.buildSlice 22 2 #[(0,.tmp 85),(1,.tmp 86)],22,"law.go:145",#[⟨5,.data⟩,⟨6,.data⟩],none⟩) rfl (fun K hK => ?_) ?_
         ·go_simp
          refine hK.out _ _ ?_ (fun hHeld81 => ?_)
          ·(try dsimp only);exact HS.out _ (below_on K2.out ((Below.refl _ _).alloc (Nat.le_refl _) _))
          clear hK K
          try simp only [Act.put,List.setIfInBounds_toArray]
          clear hHeld75
          have LT3 : Hid (u2.heap.size < (u2.alloc (.cells #[.int .i64 (i : Int),.int .i64 (j : Int)] 3)).heap.size) := (by show _ < _;simp)
          obtain ⟨u3,hu3⟩ : ∃ u,u2.alloc (.cells #[.int .i64 (i : Int),.int .i64 (j : Int)] 3) = u := ⟨_,rfl⟩
          rw [hu3]
          rw [hu3] at hHeld81 LT3
          have E3 : Hid (Below u2.heap.size u2 u3) := by show Below _ _ _;rw [← hu3];exact ((Below.refl _ _).alloc (Nat.le_refl _) _)
          have K3 := hide (below_on K2.out E3.out)
          have HX3 := hide ((E3.out.block _ (lt_of_block HX2.out)).trans HX2.out)
          have HP3 := hide (HP2.out.on E3.out)
          clear HX2 HP2
          have HA3 : Hid (IntsAt u3 (some ⟨u2.heap.size,0,none⟩) [(i : Int),(j : Int)]) := by show IntsAt u3 (some ⟨u2.heap.size,0,none⟩) [(i : Int),(j : Int)];rw [← hu3];exact two_ints
          clear hu3
          refine Mn.t 9 (oi := ⟨some 89,.slice 22 (.tmp 87) none (some (.tmp 88)) none,22,"law.go:145",#[⟨7,.data⟩,⟨8,.data⟩],none⟩) ?_
          try simp only [Act.put,List.setIfInBounds_toArray]
          refine wpAnyH_ready (rs := [4]) (by kernel_rfl) (by simp) ?_
          refine AllReadyH.cons (o := ⟨some 84,.call { callee := .value (.func 37),args := #[.tmp 83],argTypes := #[55] },55,"law.go:145",#[⟨3,.data⟩,⟨1,.chain⟩],none⟩) rfl (fun K hK => ?_) ?_
          ·refine held_call (by rfl) 37 _ _ (by rfl) hent37 [.slice va m vc] (by rfl) ?_;refine (H37.out _ (below_on HBW.out (below_on EB.out K3.out))).mono ?_;rintro e u4 ⟨g3,cc3,rfl,⟨R9,q8⟩,k9⟩;refine ⟨_,rfl,?_⟩;have E4 := hide k9;have K4 := hide (below_on K3.out k9);clear k9
           have HX4 := hide ((E4.out.block _ (lt_of_block HX3.out)).trans HX3.out)
           have HP4 := hide (HP3.out.on E4.out)
           have HA4 := hide (IntsAt.later HA3.out E4.out)
           clear HX3 HP3 HA3
           have HV4 := hide (R9.vs (by rw [HM.out];omega))
           have HC4 := hide (q8)
           refine hK.out _ _ ?_ (fun hHeld82 => ?_)
           ·(try dsimp only);exact HS.out _ K4.out
           clear hK K
           try simp only [Act.put,List.setIfInBounds_toArray]
           clear hHeld81
           refine wpAnyH_ready (rs := [10]) (by kernel_rfl) (by simp) ?_
           refine AllReadyH.cons (o := ⟨some 90,.call { callee := .value (.func 45),args := #[.tmp 84,.tmp 89],argTypes := #[55,22] },55,"law.go:145",#[⟨4,.data⟩,⟨9,.data⟩,⟨4,.chain⟩],none⟩) rfl (fun K hK => ?_) ?_
           ·refine held_call (by rfl) 45 _ _ (by rfl) hent45 [.slice (some ⟨g3,0,none⟩) m cc3,.slice (some ⟨u2.heap.size,0,none⟩) lb 2] (by rfl) ?_;refine (H45.out _ _ _ _ HV4.out HC4.out HA4.out).mono ?_;rintro e u5 ⟨a4,c4,rfl,⟨q9,q8⟩,k9⟩;refine ⟨_,rfl,?_⟩;have E5 := hide k9;have K5 := hide (below_on K4.out k9);clear k9
            have HX5 := hide ((E5.out.block _ (lt_of_block HX4.out)).trans HX4.out)
            have HP5 := hide (HP4.out.on E5.out)
            have HA5 := hide (IntsAt.later HA4.out E5.out)
            have HV5 := hide (PrV.on HV4.out E5.out)
            have HC5 := hide (HC4.out)
            clear HX4 HP4 HA4 HV4 HC4
            have HU5 := hide (q9)
            have HZ5 := hide (q8)
            refine hK.out _ _ ?_ (fun hHeld83 => ?_)
            ·(try dsimp only);exact HS.out _ K5.out
            clear hK K
            try simp only [Act.put,List.setIfInBounds_toArray]
            clear hHeld82
            refine wpAnyH_ready (rs := [11]) (by kernel_rfl) (by simp) ?_
            refine AllReadyH.cons (o := ⟨some 91,.call { callee := .value (.func 36),args := #[.tmp 81,.tmp 82,.tmp 90],argTypes := #[29,3,55] },72,"law.go:145",#[⟨1,.data⟩,⟨2,.data⟩,⟨10,.data⟩,⟨10,.chain⟩],none⟩) rfl (fun K hK => ?_) ?_
            ·refine held_call (by rfl) 36 _ _ (by rfl) hent36 [.agg (prbE p x3),.int .i64 (k : Int),.slice a4 n9 c4] (by rfl) ?_;refine (H36.out _ _ _ _ _ _ _ _ HP5.out HU5.out HZ5.out HUL.out (by omega) He1.out HP1.out).mono ?_;rintro e u6 ⟨pa2,pn2,pc2,rfl,_,k9⟩;refine ⟨_,rfl,?_⟩;have E6 := hide k9;have K6 := hide (below_on K5.out k9);clear k9
             have HX6 := hide ((E6.out.block _ (lt_of_block HX5.out)).trans HX5.out)
             have HP6 := hide (HP5.out.on E6.out)
             have HA6 := hide (IntsAt.later HA5.out E6.out)
             have HV6 := hide (PrV.on HV5.out E6.out)
             have HC6 := hide (HC5.out)
             have HU6 := hide (PrV.on HU5.out E6.out)
             have HZ6 := hide (HZ5.out)
             clear HX5 HP5 HA5 HV5 HC5 HU5 HZ5
             refine hK.out _ _ ?_ (fun hHeld84 => ?_)
             ·(try dsimp only);exact HS.out _ K6.out
             clear hK K
             try simp only [Act.put,List.setIfInBounds_toArray]
             clear hHeld83
             refine Mn.t 12 (oi := ⟨some 79,.move (.tmp 91),72,"law.go:145",#[⟨11,.data⟩],none⟩) ?_
             try simp only [Act.put,List.setIfInBounds_toArray]
             refine Mn.t 13 (oi := ⟨some 92,.extract (.tmp 79) 0,71,"law.go:145",#[⟨12,.data⟩],none⟩) ?_
             try simp only [Act.put,List.setIfInBounds_toArray]
             refine Mn.t 14 (oi := ⟨some 93,.extract (.tmp 79) 1,62,"law.go:145",#[⟨12,.data⟩,⟨16,.gcOnly .lateStores⟩],none⟩) ?_
             try simp only [Act.put,List.setIfInBounds_toArray]
             refine wpAnyH_ready (rs := [16]) (by kernel_rfl) (by simp) ?_
             refine AllReadyH.cons (o := ⟨none,.store 71 (.tmp 14) (.tmp 92),0,"law.go:145",#[⟨15,.data⟩,⟨13,.data⟩,⟨11,.chain⟩,⟨0,.phase⟩,⟨1,.phase⟩,⟨2,.phase⟩,⟨3,.phase⟩,⟨4,.phase⟩,⟨5,.phase⟩,⟨6,.phase⟩,⟨7,.phase⟩,⟨8,.phase⟩,⟨9,.phase⟩,⟨10,.phase⟩,⟨11,.phase⟩,⟨12,.phase⟩,⟨13,.phase⟩,⟨14,.textOnly .lateStores⟩,⟨15,.phase⟩],none⟩) rfl (fun K hK => ?_) ?_
             ·refine held_store (by rfl) 71 (.tmp 14) (.tmp 92) (by rfl) (u0.heap.size) #[.int .i64 P1.veh,.slice pa2 pn2 pc2,.int .i64 P1.time,.int .i64 P1.dist,.int .i64 P1.wait,.int .i64 P1.serv,.int .i64 P1.cost] (by rfl) (by rfl) 71 _ HX6.out (by kernel_rfl) (by rfl) (by simp [Value.oneCell']) ?_
              obtain ⟨wz,hwz⟩ : ∃ z,(u6).setRow (u0.heap.size) #[.int .i64 P1.veh,.slice pa2 pn2 pc2,.int .i64 P1.time,.int .i64 P1.dist,.int .i64 P1.wait,.int .i64 P1.serv,.int .i64 P1.cost] = z := ⟨_,rfl⟩
              have hz1 : wz.heap[u0.heap.size]? = some (.cells #[.int .i64 P1.veh,.slice pa2 pn2 pc2,.int .i64 P1.time,.int .i64 P1.dist,.int .i64 P1.wait,.int .i64 P1.serv,.int .i64 P1.cost] 71 (0,0)) := by rw [← hwz];exact setRow_heap _ _ _ _ _ _ HX6.out
              have hz2 : (u6).grownBy wz (some (u0.heap.size)) := by rw [← hwz];exact grw_row _ _ _
              rw [hwz]
              have HZ1 := hide hz1
              have HZ2 := hide hz2
              clear hwz hz1 hz2
              refine hK.out _ _ ?_ (fun hHeld85 => ?_)
              ·(try dsimp only);exact HS.out _ (K6.out.trans (grw_low HZ2.out K0.out.size K6.out.size))
              clear hK K
              try simp only [Act.put]
              clear hHeld84
              refine Mn.t 17 (oi := ⟨some 15,.assign (.tmp 93),62,"law.go:145",#[⟨14,.data⟩,⟨16,.chain⟩,⟨0,.phase⟩,⟨1,.phase⟩,⟨2,.phase⟩,⟨3,.phase⟩,⟨4,.phase⟩,⟨5,.phase⟩,⟨6,.phase⟩,⟨7,.phase⟩,⟨8,.phase⟩,⟨9,.phase⟩,⟨10,.phase⟩,⟨11,.phase⟩,⟨12,.phase⟩,⟨13,.phase⟩,⟨14,.phase⟩,⟨15,.phase⟩,⟨16,.phase⟩],none⟩) ?_
              try simp only [Act.put,List.setIfInBounds_toArray]
              refine wpAnyH_done (by kernel_rfl) ?_ _
              clear hHeld85
              go_wp2_with fail
              go_meet
              case rel => exact ⟨u0.heap.size,pa2,pn2,pc2,rfl,rfl,K0.out.size,HZ1.out,K6.out.trans (grw_low HZ2.out K0.out.size K6.out.size)⟩
             exact AllReadyH.nil
            exact AllReadyH.nil
           exact AllReadyH.nil
          exact AllReadyH.nil
         exact AllReadyH.nil
        refine AllReadyH.cons (o := ⟨some 87,.buildSlice 22 2 #[(0,.tmp 85),(1,.tmp 86)],22,"law.go:145",#[⟨5,.data⟩,⟨6,.data⟩],none⟩) rfl (fun K hK => ?_) ?_
        ·go_simp
         refine hK.out _ _ ?_ (fun hHeld86 => ?_)
         ·(try dsimp only);exact HS.out _ (below_on K1.out ((Below.refl _ _).alloc (Nat.le_refl _) _))
         clear hK K
         try simp only [Act.put,List.setIfInBounds_toArray]
         clear hHeld74
         have LT2 : Hid (u1.heap.size < (u1.alloc (.cells #[.int .i64 (i : Int),.int .i64 (j : Int)] 3)).heap.size) := (by show _ < _;simp)
         obtain ⟨u2,hu2⟩ : ∃ u,u1.alloc (.cells #[.int .i64 (i : Int),.int .i64 (j : Int)] 3) = u := ⟨_,rfl⟩
         rw [hu2]
         rw [hu2] at hHeld86 LT2
         have E2 : Hid (Below u1.heap.size u1 u2) := by show Below _ _ _;rw [← hu2];exact ((Below.refl _ _).alloc (Nat.le_refl _) _)
         have K2 := hide (below_on K1.out E2.out)
         have HX2 := hide ((E2.out.block _ (lt_of_block HX1.out)).trans HX1.out)
         clear HX1
         have HA2 : Hid (IntsAt u2 (some ⟨u1.heap.size,0,none⟩) [(i : Int),(j : Int)]) := by show IntsAt u2 (some ⟨u1.heap.size,0,none⟩) [(i : Int),(j : Int)];rw [← hu2];exact two_ints
         clear hu2
         refine Mn.t 9 (oi := ⟨some 89,.slice 22 (.tmp 87) none (some (.tmp 88)) none,22,"law.go:145",#[⟨7,.data⟩,⟨8,.data⟩],none⟩) ?_
         try simp only [Act.put,List.setIfInBounds_toArray]
         refine wpAnyH_ready (rs := [1]) (by kernel_rfl) (by simp) ?_
         refine AllReadyH.cons (o := ⟨some 81,.call { callee := .value (.func 17),args := #[.tmp 80],argTypes := #[29] },29,"law.go:145",#[⟨0,.data⟩],none⟩) rfl (fun K hK => ?_) ?_
         ·refine held_call (by rfl) 17 _ _ (by rfl) hent17 [.agg #[.int .i64 p.dims,.int .i64 p.time.n,.slice ta p.time.cells.length tc,.int .i64 p.dist.n,.slice da p.dist.cells.length dc,.slice (some ⟨vb,voff,none⟩) nv vc',.slice ja p.js.length jc,.slice sa p.ss.length sc]] (by rfl) ?_;refine (H17.out _ (below_on HBW.out (below_on EB.out K2.out))).mono ?_;rintro e u3 ⟨x3,rfl,q9,k9⟩;refine ⟨_,rfl,?_⟩;have E3 := hide k9;have K3 := hide (below_on K2.out k9);clear k9
          have HX3 := hide ((E3.out.block _ (lt_of_block HX2.out)).trans HX2.out)
          have HA3 := hide (IntsAt.later HA2.out E3.out)
          clear HX2 HA2
          have HP3 := hide (q9)
          refine hK.out _ _ ?_ (fun hHeld87 => ?_)
          ·(try dsimp only);exact HS.out _ K3.out
          clear hK K
          try simp only [Act.put,List.setIfInBounds_toArray]
          clear hHeld86
          refine wpAnyH_ready (rs := [4]) (by kernel_rfl) (by simp) ?_
          refine AllReadyH.cons (o := ⟨some 84,.call { callee := .value (.func 37),args := #[.tmp 83],argTypes := #[55] },55,"law.go:145",#[⟨3,.data⟩,⟨1,.chain⟩],none⟩) rfl (fun K hK => ?_) ?_
          ·refine held_call (by rfl) 37 _ _ (by rfl) hent37 [.slice va m vc] (by rfl) ?_;refine (H37.out _ (below_on HBW.out (below_on EB.out K3.out))).mono ?_;rintro e u4 ⟨g3,cc3,rfl,⟨R9,q8⟩,k9⟩;refine ⟨_,rfl,?_⟩;have E4 := hide k9;have K4 := hide (below_on K3.out k9);clear k9
           have HX4 := hide ((E4.out.block _ (lt_of_block HX3.out)).trans HX3.out)
           have HA4 := hide (IntsAt.later HA3.out E4.out)
           have HP4 := hide (HP3.out.on E4.out)
           clear HX3 HA3 HP3
           have HV4 := hide (R9.vs (by rw [HM.out];omega))
           have HC4 := hide (q8)
           refine hK.out _ _ ?_ (fun hHeld88 => ?_)
           ·(try dsimp only);exact HS.out _ K4.out
           clear hK K
           try simp only [Act.put,List.setIfInBounds_toArray]
           clear hHeld87
           refine wpAnyH_ready (rs := [10]) (by kernel_rfl) (by simp) ?_
           refine AllReadyH.cons (o := ⟨some 90,.call { callee := .value (.func 45),args := #[.tmp 84,.tmp 89],argTypes := #[55,22] },55,"law.go:145",#[⟨4,.data⟩,⟨9,.data⟩,⟨4,.chain⟩],none⟩) rfl (fun K hK => ?_) ?_
           ·refine held_call (by rfl) 45 _ _ (by rfl) hent45 [.slice (some ⟨g3,0,none⟩) m cc3,.slice (some ⟨u1.heap.size,0,none⟩) lb 2] (by rfl) ?_;refine (H45.out _ _ _ _ HV4.out HC4.out HA4.out).mono ?_;rintro e u5 ⟨a4,c4,rfl,⟨q9,q8⟩,k9⟩;refine ⟨_,rfl,?_⟩;have E5 := hide k9;have K5 := hide (below_on K4.out k9);clear k9
            have HX5 := hide ((E5.out.block _ (lt_of_block HX4.out)).trans HX4.out)
            have HA5 := hide (IntsAt.later HA4.out E5.out)
            have HP5 := hide (HP4.out.on E5.out)
            have HV5 := hide (PrV.on HV4.out E5.out)
            have HC5 := hide (HC4.out)
            clear HX4 HA4 HP4 HV4 HC4
            have HU5 := hide (q9)
            have HZ5 := hide (q8)
            refine hK.out _ _ ?_ (fun hHeld89 => ?_)
            ·(try dsimp only);exact HS.out _ K5.out
            clear hK K
            try simp only [Act.put,List.setIfInBounds_toArray]
            clear hHeld88
            refine wpAnyH_ready (rs := [11]) (by kernel_rfl) (by simp) ?_
            refine AllReadyH.cons (o := ⟨some 91,.call { callee := .value (.func 36),args := #[.tmp 81,.tmp 82,.tmp 90],argTypes := #[29,3,55] },72,"law.go:145",#[⟨1,.data⟩,⟨2,.data⟩,⟨10,.data⟩,⟨10,.chain⟩],none⟩) rfl (fun K hK => ?_) ?_
            ·refine held_call (by rfl) 36 _ _ (by rfl) hent36 [.agg (prbE p x3),.int .i64 (k : Int),.slice a4 n9 c4] (by rfl) ?_;refine (H36.out _ _ _ _ _ _ _ _ HP5.out HU5.out HZ5.out HUL.out (by omega) He1.out HP1.out).mono ?_;rintro e u6 ⟨pa2,pn2,pc2,rfl,_,k9⟩;refine ⟨_,rfl,?_⟩;have E6 := hide k9;have K6 := hide (below_on K5.out k9);clear k9
             have HX6 := hide ((E6.out.block _ (lt_of_block HX5.out)).trans HX5.out)
             have HA6 := hide (IntsAt.later HA5.out E6.out)
             have HP6 := hide (HP5.out.on E6.out)
             have HV6 := hide (PrV.on HV5.out E6.out)
             have HC6 := hide (HC5.out)
             have HU6 := hide (PrV.on HU5.out E6.out)
             have HZ6 := hide (HZ5.out)
             clear HX5 HA5 HP5 HV5 HC5 HU5 HZ5
             refine hK.out _ _ ?_ (fun hHeld90 => ?_)
             ·(try dsimp only);exact HS.out _ K6.out
             clear hK K
             try simp only [Act.put,List.setIfInBounds_toArray]
             clear hHeld89
             refine Mn.t 12 (oi := ⟨some 79,.move (.tmp 91),72,"law.go:145",#[⟨11,.data⟩],none⟩) ?_
             try simp only [Act.put,List.setIfInBounds_toArray]
             refine Mn.t 13 (oi := ⟨some 92,.extract (.tmp 79) 0,71,"law.go:145",#[⟨12,.data⟩],none⟩) ?_
             try simp only [Act.put,List.setIfInBounds_toArray]
             refine Mn.t 14 (oi := ⟨some 93,.extract (.tmp 79) 1,62,"law.go:145",#[⟨12,.data⟩,⟨16,.gcOnly .lateStores⟩],none⟩) ?_
             try simp only [Act.put,List.setIfInBounds_toArray]
             refine wpAnyH_ready (rs := [16]) (by kernel_rfl) (by simp) ?_
             refine AllReadyH.cons (o := ⟨none,.store 71 (.tmp 14) (.tmp 92),0,"law.go:145",#[⟨15,.data⟩,⟨13,.data⟩,⟨11,.chain⟩,⟨0,.phase⟩,⟨1,.phase⟩,⟨2,.phase⟩,⟨3,.phase⟩,⟨4,.phase⟩,⟨5,.phase⟩,⟨6,.phase⟩,⟨7,.phase⟩,⟨8,.phase⟩,⟨9,.phase⟩,⟨10,.phase⟩,⟨11,.phase⟩,⟨12,.phase⟩,⟨13,.phase⟩,⟨14,.textOnly .lateStores⟩,⟨15,.phase⟩],none⟩) rfl (fun K hK => ?_) ?_
             ·refine held_store (by rfl) 71 (.tmp 14) (.tmp 92) (by rfl) (u0.heap.size) #[.int .i64 P1.veh,.slice pa2 pn2 pc2,.int .i64 P1.time,.int .i64 P1.dist,.int .i64 P1.wait,.int .i64 P1.serv,.int .i64 P1.cost] (by rfl) (by rfl) 71 _ HX6.out (by kernel_rfl) (by rfl) (by simp [Value.oneCell']) ?_
              obtain ⟨wz,hwz⟩ : ∃ z,(u6).setRow (u0.heap.size) #[.int .i64 P1.veh,.slice pa2 pn2 pc2,.int .i64 P1.time,.int .i64 P1.dist,.int .i64 P1.wait,.int .i64 P1.serv,.int .i64 P1.cost] = z := ⟨_,rfl⟩
              have hz1 : wz.heap[u0.heap.size]? = some (.cells #[.int .i64 P1.veh,.slice pa2 pn2 pc2,.int .i64 P1.time,.int .i64 P1.dist,.int .i64 P1.wait,.int .i64 P1.serv,.int .i64 P1.cost] 71 (0,0)) := by rw [← hwz];exact setRow_heap _ _ _ _ _ _ HX6.out
              have hz2 : (u6).grownBy wz (some (u0.heap.size)) := by rw [← hwz];exact grw_row _ _ _
              rw [hwz]
              have HZ1 := hide hz1
              have HZ2 := hide hz2
              clear hwz hz1 hz2
              refine hK.out _ _ ?_ (fun hHeld91 => ?_)
              ·(try dsimp only);exact HS.out _ (K6.out.trans (grw_low HZ2.out K0.out.size K6.out.size))
              clear hK K
              try simp only [Act.put]
              clear hHeld90
              refine Mn.t 17 (oi := ⟨some 15,.assign (.tmp 93),62,"law.go:145",#[⟨14,.data⟩,⟨16,.chain⟩,⟨0,.phase⟩,⟨1,.phase⟩,⟨2,.phase⟩,⟨3,.phase⟩,⟨4,.phase⟩,⟨5,.phase⟩,⟨6,.phase⟩,⟨7,.phase⟩,⟨8,.phase⟩,⟨9,.phase⟩,⟨10,.phase⟩,⟨11,.phase⟩,⟨12,.phase⟩,⟨13,.phase⟩,⟨14,.phase⟩,⟨15,.phase⟩,⟨16,.phase⟩],none⟩) ?_
              try simp only [Act.put,List.setIfInBounds_toArray]
              refine wpAnyH_done (by kernel_rfl) ?_ _
              clear hHeld91
              go_wp2_with fail
              go_meet
              case rel => exact ⟨u0.heap.size,pa2,pn2,pc2,rfl,rfl,K0.out.size,HZ1.out,K6.out.trans (grw_low HZ2.out K0.out.size K6.out.size)⟩
             exact AllReadyH.nil
            exact AllReadyH.nil
           exact AllReadyH.nil
          exact AllReadyH.nil
         exact AllReadyH.nil
        exact AllReadyH.nil
       exact AllReadyH.nil
      case rest =>
       obtain ⟨x14,pa2,pn2,pc2,rfl,rfl,hx14,HX14,M14⟩ := hcut
       rename World => z3
       obtain ⟨qd0,qd1,qd2,qd3,qd4,qd5,qd6,qd7⟩ := HS.out _ M14.out
       have E14 := hide (below_on E3.out M14.out)
       go_upto_if 104 with (first | (go_at_call 40;refine (H40.out _ _ _ _ HP7.out HV7.out HC7.out).mono ?_;rintro e w8 ⟨pa,pn,pc,rfl,hp8,k8⟩;have K8 := hide (below_on K7.out k8);clear k8 hp8) | (go_at_call 37;refine (H37.out _ (below_on HBW.out (below_on E14.out K6.out))).mono ?_;rintro e w7 ⟨g7,c7,rfl,⟨R7,hc7⟩,k7⟩;have HV7 := hide (R7.vs (by rw [HM.out];omega));have HC7 := hide hc7;have HP7 := hide (HP6.out.on k7);have K7 := hide (below_on K6.out k7);clear k7 R7 hc7) | (go_at_call 17;refine (H17.out _ (below_on HBW.out E14.out)).mono ?_;rintro e w6 ⟨x6,rfl,hq6,k6⟩;have HP6 := hide hq6;have K6 := hide k6;clear k6 hq6) | fail)
       obtain ⟨z9,hz9⟩ : ∃ z,w8.alloc (.cells #[.int .i64 pr.veh,.slice pa pn pc,.int .i64 pr.time,.int .i64 pr.dist,.int .i64 pr.wait,.int .i64 pr.serv,.int .i64 pr.cost] 71) = z := ⟨_,rfl⟩
       rw [hz9]
       have HX9 : Hid (z9.heap[w8.heap.size]? = some (.cells #[.int .i64 pr.veh,.slice pa pn pc,.int .i64 pr.time,.int .i64 pr.dist,.int .i64 pr.wait,.int .i64 pr.serv,.int .i64 pr.cost] 71 (0,0))) := by show _ = _;rw [← hz9];exact new_block _ _
       have K9 : Hid (Below z3.heap.size z3 z9) := by show Below _ _ _;rw [← hz9];exact below_on K8.out ((Below.refl _ _).alloc (Nat.le_refl _) _)
       clear hz9
       have HX14b := hide ((K9.out.block _ (lt_of_block HX14.out)).trans HX14.out)
       have EE := hide (below_on HBW.out (below_on E14.out K9.out))
       have za2 : z9.cell? ⟨x14,2,none⟩ = some (.int .i64 P1.time) := cell_of_row _ _ _ _ _ _ HX14b.out
       have za3 : z9.cell? ⟨x14,3,none⟩ = some (.int .i64 P1.dist) := cell_of_row _ _ _ _ _ _ HX14b.out
       have za5 : z9.cell? ⟨x14,5,none⟩ = some (.int .i64 P1.serv) := cell_of_row _ _ _ _ _ _ HX14b.out
       have za6 : z9.cell? ⟨x14,6,none⟩ = some (.int .i64 P1.cost) := cell_of_row _ _ _ _ _ _ HX14b.out
       have zb2 : z9.cell? ⟨w8.heap.size,2,none⟩ = some (.int .i64 pr.time) := cell_of_row _ _ _ _ _ _ HX9.out
       have zb3 : z9.cell? ⟨w8.heap.size,3,none⟩ = some (.int .i64 pr.dist) := cell_of_row _ _ _ _ _ _ HX9.out
       have zb5 : z9.cell? ⟨w8.heap.size,5,none⟩ = some (.int .i64 pr.serv) := cell_of_row _ _ _ _ _ _ HX9.out
       have zb6 : z9.cell? ⟨w8.heap.size,6,none⟩ = some (.int .i64 pr.cost) := cell_of_row _ _ _ _ _ _ HX9.out
       clear qd0 qd1 qd2 qd3 qd4 qd5 qd6 qd7
       obtain ⟨hf1,hf2⟩ := HFIN.out
       by_cases he0 : e1 = 0
       ·subst he0
        obtain ⟨rfl,t1,t2,t3,t4⟩ := hf1 rfl
        rw [t1] at za2
        rw [t2] at za3
        rw [t3] at za6
        rw [t4] at za5
        have y7 : ((0 : Int) == 0) = true := rfl
        have y8time : (pr.time == pr.time) = true := by simp
        have y8dist : (pr.dist == pr.dist) = true := by simp
        have y8cost : (pr.cost == pr.cost) = true := by simp
        have y8serv : (pr.serv == pr.serv) = true := by simp
        clear hf1 hf2 t1 t2 t3 t4
        go_wp2_with fail
        go_ret
        exact ⟨rfl,EE.out⟩
       ·have y7 : (e1 == 0) = false := by simpa using he0
        by_cases h167 : e1 = 167
        ·subst h167
         have y8 : ((167 : Int) == 167) = true := rfl
         clear hf1 hf2
         go_wp2_with fail
         go_ret
         exact ⟨rfl,EE.out⟩
        ·have y8 : (e1 == 167) = false := by simpa using h167
         have y9 := (hf2 he0).resolve_left h167
         subst y9
         have y10 : (e1 == e1) = true := by simp
         clear hf1 hf2
         go_wp2_with fail
         go_ret
         exact ⟨rfl,EE.out⟩
end Go.Proofs.Ytgjpkpmikbpcnaa
