/-
  What the call of the document's pairs does: it tells wholeM.
-/
import Derived.Test.YtndbikoccdjafaaBCLoaLG
import Derived.Test.YtndbikoccdjafaaBMin
namespace Go.Proofs.Ytndbikoccdjafaa
open Go.RowKit
set_option maxRecDepth 100000 in
set_option maxHeartbeats 6400000 in
theorem pairs_any {w : World} {x : PrbS} {p : Prb} {m vc : Nat} {va : Option Addr} {V : List Vst} (h : PrbV w x p) (hV : VsV w (.slice va m vc) V) (hm : V.length = m) (hm2 : m ≤ 200) : Calls Try.prog 110 #[.agg (prbE p x),.slice va m vc] w fun e w' => e = .returned (.bool (wholeM p V)) ∧ Below w.heap.size w w' := by
 have HP := hide h
 have HV := hide hV
 have HM := hide hm
 clear hV hm
 obtain ⟨ta,tc,da,dc,va',vc',ja,jc,sa,sc,rfl⟩ := h.open
 clear h
 have HTE : Hid (prbE p ⟨.slice ta p.time.cells.length tc,.slice da p.dist.cells.length dc,.slice va' p.vs.length vc',.slice ja p.js.length jc,.slice sa p.ss.length sc⟩ = #[.int .i64 p.dims,.int .i64 p.time.n,.slice ta p.time.cells.length tc,.int .i64 p.dist.n,.slice da p.dist.cells.length dc,.slice va' p.vs.length vc',.slice ja p.js.length jc,.slice sa p.ss.length sc]) := rfl
 rw [HTE.out]
 have H22 : Hid (∀ W2 (k i : Int),PrbV W2 ⟨.slice ta p.time.cells.length tc,.slice da p.dist.cells.length dc,.slice va' p.vs.length vc',.slice ja p.js.length jc,.slice sa p.ss.length sc⟩ p → Calls Try.prog 38 #[.agg #[.int .i64 p.dims,.int .i64 p.time.n,.slice ta p.time.cells.length tc,.int .i64 p.dist.n,.slice da p.dist.cells.length dc,.slice va' p.vs.length vc',.slice ja p.js.length jc,.slice sa p.ss.length sc],.agg #[.int .i64 k,.int .i64 i]] W2 fun e w' => ∃ y,e = .returned (.tuple #[.agg #[.int .i64 (stpM p k i).place,.int .i64 (stpM p k i).serv,y],.bool (thereV p k i)]) ∧ WinsV w' y (stpM p k i).wins ∧ Below W2.heap.size W2 w') := fun W2 k i hp => by have h9 := rstopV_any hp k i;exact h9
 have H128 : Hid (∀ W2 (n : Nat) (k i : Int),Below w.heap.size w W2 → n ≤ m → Calls Try.prog 128 #[.slice va m vc,.int .i64 (n : Int),.agg #[.int .i64 k,.int .i64 i]] W2 fun e w' => e = .returned (.int .i64 ((V.take n).count (k,i) : Nat)) ∧ Below W2.heap.size W2 w') := fun W2 n k i hf hn => by have h9 := count_any (c := vc) (PrV.on HV.out hf) HM.out (by omega) hn k i;exact h9
 have HCM : Hid (V.take m = V) := by show _ = _;rw [List.take_of_length_le (by rw [HM.out];exact Nat.le_refl _)]
 obtain ⟨W,hW⟩ : ∃ W,W = w.alloc (.cells #[.int .i64 p.dims,.int .i64 p.time.n,.slice ta p.time.cells.length tc,.int .i64 p.dist.n,.slice da p.dist.cells.length dc,.slice va' p.vs.length vc',.slice ja p.js.length jc,.slice sa p.ss.length sc] 29) := ⟨_,rfl⟩
 have HBW : Hid (Below w.heap.size w W) := by rw [hW];exact (Below.refl _ _).alloc (Nat.le_refl _) _
 have HLW : Hid (w.heap.size < W.heap.size) := by show _ < _;rw [hW];simp
 have HC : Hid (∀ j,W.cell? ⟨w.heap.size,j,none⟩ = (#[.int .i64 p.dims,.int .i64 p.time.n,.slice ta p.time.cells.length tc,.int .i64 p.dist.n,.slice da p.dist.cells.length dc,.slice va' p.vs.length vc',.slice ja p.js.length jc,.slice sa p.ss.length sc] : Array Value)[j]?) := fun j => by rw [hW];exact cell_of_row _ _ _ _ _ _ (heap_alloc_new w _)
 go_enter Try.func110,Try.ntmps110
 go_wp2_with fail
 rw [← hW]
 clear hW
 go_loopw [5] (fun vi wr => ∃ q : Nat,vi = .int .i64 q ∧ q ≤ m ∧ Hid (∀ i,i < q → pairB p V i = true) ∧ Hid (Below W.heap.size W wr)) (fun vi _ => m - (intOf vi).toNat)
 case atStart => exact ⟨0,rfl,Nat.zero_le _,(fun i hi => by omega),Below.refl _ _⟩
 case round =>
  obtain ⟨q,rfl,hq,HI,HB⟩ := hrel
  have EW : Hid (Below w.heap.size w wr) := below_on HBW.out HB.out
  by_cases hqm : q < m
  ·have i1 : (q : Int) < (m : Int) := by omega
   have i2 : (0 : Int) ≤ (q : Int) := by omega
   have i3 : ¬ (m : Int) ≤ (q : Int) := by omega
   have HQL : Hid (q < V.length) := by show _ < _;rw [HM.out];exact hqm
   obtain ⟨⟨kd,it⟩,hu⟩ : ∃ u,V[q]? = some u := ⟨_,List.getElem?_eq_getElem (by rw [HM.out];exact hqm)⟩
   obtain ⟨b,off,rfl,hb,c1,c2,_⟩ := vs_cells HV.out hu
   simp only at c1 c2
   have d1 : wr.cell? ⟨b,off + q * 2,none⟩ = some (.int .i64 kd) := ((bcell EW.out).1 _ _ hb).trans c1
   have d2 : wr.cell? ⟨b,off + q * 2 + 1,none⟩ = some (.int .i64 it) := ((bcell EW.out).1 _ _ hb).trans c2
   have HPB : Hid (pairB p V q = (decide (kd = 4) || (thereV p kd it && decide (V.count (kd,it) = 1) && (decide (kd ≠ 3) || decide ((V.take q).count (2,it) = 1)) && (decide (kd ≠ 2) || decide (V.count (3,it) = 1))))) := by show _ = _;unfold pairB;rw [getD_of hu]
   clear c1 c2 hu hb
   have lw0 : w.heap.size < wr.heap.size := Nat.lt_of_lt_of_le HLW.out HB.out.size
   have nw0 : ¬ w.heap.size = wr.heap.size := by omega
   obtain ⟨r0,r1,r2,r3,r4,r5,r6,r7⟩ := Mn.c8 (fun j => ((bcell HB.out).1 _ j HLW.out).trans (HC.out j))
   by_cases hk4 : kd = 4
   ·subst hk4
    have HOK : Hid (pairB p V q = true) := HPB.out.trans (by simp)
    go_wp2_with fail
    go_roundw
    case rel => exact ⟨q + 1,by go_num,by omega,(fun i hi => by rcases Nat.lt_succ_iff_lt_or_eq.1 hi with h9 | h9;exact HI.out i h9;rw [h9];exact HOK.out),HB.out.alloc HB.out.size _⟩
    case measure => simp [intOf];omega
   ·have y4 : (kd == 4) = false := by simpa using hk4
    obtain ⟨cn,hcn⟩ : ∃ c,V.count (kd,it) = c := ⟨_,rfl⟩
    have HCN := hide hcn
    cases hth : thereV p kd it with
    | false =>
     have HTH := hide hth
     have HOK : Hid (pairB p V q = false) := HPB.out.trans (by rw [hth];simp [hk4])
     clear hth hcn
     have HF := hide (all_not (f := pairB p V) HQL.out HOK.out)
     go_wp2_with (first | (go_at_call 38;refine (H22.out _ _ _ (HP.out.on (below_on EW.out ((Below.refl _ _).alloc (Nat.le_refl _) _)))).mono ?_;rintro e w2 ⟨y,rfl,Q2,k2⟩;obtain ⟨ya,yc,rfl⟩ := Q2.shape;rw [HTH.out];have E2 := hide (below_on ((Below.refl wr.heap.size wr).alloc (Nat.le_refl _) _) k2);have l2 : wr.heap.size < w2.heap.size := (by have := k2.size;simp at this;omega);have n2 : ¬ wr.heap.size = w2.heap.size := (by omega);have va0 : w2.cell? ⟨wr.heap.size,0,none⟩ = some (.int .i64 kd) := ((bcell k2).1 _ 0 (by simp)).trans (by simp [go_sem]);have va1 : w2.cell? ⟨wr.heap.size,1,none⟩ = some (.int .i64 it) := ((bcell k2).1 _ 1 (by simp)).trans (by simp [go_sem]);clear k2 Q2) | fail)
     go_ret
     exact ⟨by rw [← pairs_whole,HF.out];rfl,below_on EW.out ((E2.out.alloc E2.out.size _))⟩
    | true =>
     have HTH := hide hth
     by_cases hc1 : cn = 1
     ·subst hc1
      have hk123 : kd = 1 ∨ kd = 2 ∨ kd = 3 := by rcases thereV_cases hth with ⟨e,_⟩ | ⟨e,_⟩ | ⟨e,_⟩ <;> omega
      rcases hk123 with rfl | rfl | rfl
      ·have HOK : Hid (pairB p V q = true) := HPB.out.trans (by rw [hth,hcn];simp)
       clear hth hcn
       go_wp2_with (first | (go_at_call 128;refine (H128.out _ m _ _ (below_on EW.out (below_on E2.out ((Below.refl _ _).alloc (Nat.le_refl _) _))) (Nat.le_refl _)).mono ?_;rintro e w3 ⟨rfl,k3⟩;rw [HCM.out,HCN.out];have F3 := hide (below_on ((Below.refl w2.heap.size w2).alloc (Nat.le_refl _) _) k3);have E3 := hide (below_on E2.out F3.out);have l3 : wr.heap.size < w3.heap.size := Nat.lt_of_lt_of_le l2 F3.out.size;have vc0 : w3.cell? ⟨wr.heap.size,0,none⟩ = some (.int .i64 1) := ((bcell F3.out).1 _ 0 l2).trans va0;have vc1 : w3.cell? ⟨wr.heap.size,1,none⟩ = some (.int .i64 it) := ((bcell F3.out).1 _ 1 l2).trans va1;clear k3) | (go_at_call 38;refine (H22.out _ _ _ (HP.out.on (below_on EW.out ((Below.refl _ _).alloc (Nat.le_refl _) _)))).mono ?_;rintro e w2 ⟨y,rfl,Q2,k2⟩;obtain ⟨ya,yc,rfl⟩ := Q2.shape;rw [HTH.out];have E2 := hide (below_on ((Below.refl wr.heap.size wr).alloc (Nat.le_refl _) _) k2);have l2 : wr.heap.size < w2.heap.size := (by have := k2.size;simp at this;omega);have n2 : ¬ wr.heap.size = w2.heap.size := (by omega);have va0 : w2.cell? ⟨wr.heap.size,0,none⟩ = some (.int .i64 1) := ((bcell k2).1 _ 0 (by simp)).trans (by simp [go_sem]);have va1 : w2.cell? ⟨wr.heap.size,1,none⟩ = some (.int .i64 it) := ((bcell k2).1 _ 1 (by simp)).trans (by simp [go_sem]);clear k2 Q2) | fail)
       go_roundw
       case rel => exact ⟨q + 1,by go_num,by omega,(fun i hi => by rcases Nat.lt_succ_iff_lt_or_eq.1 hi with h9 | h9;exact HI.out i h9;rw [h9];exact HOK.out),below_on HB.out E3.out⟩
       case measure => simp [intOf];omega
      ·obtain ⟨c3,hc3⟩ : ∃ c,V.count (3,it) = c := ⟨_,rfl⟩
       have HC3 := hide hc3
       by_cases h31 : c3 = 1
       ·subst h31
        have HOK : Hid (pairB p V q = true) := HPB.out.trans (by rw [hth,hcn,hc3];simp)
        clear hth hcn hc3
        go_wp2_with (first | (go_at_call 128;refine (H128.out _ m _ _ (below_on EW.out E3.out) (Nat.le_refl _)).mono ?_;rintro e w4 ⟨rfl,k4⟩;rw [HCM.out,HC3.out];have E4 := hide (below_on E3.out k4);clear k4) | (go_at_call 128;refine (H128.out _ m _ _ (below_on EW.out (below_on E2.out ((Below.refl _ _).alloc (Nat.le_refl _) _))) (Nat.le_refl _)).mono ?_;rintro e w3 ⟨rfl,k3⟩;rw [HCM.out,HCN.out];have F3 := hide (below_on ((Below.refl w2.heap.size w2).alloc (Nat.le_refl _) _) k3);have E3 := hide (below_on E2.out F3.out);have l3 : wr.heap.size < w3.heap.size := Nat.lt_of_lt_of_le l2 F3.out.size;have vc0 : w3.cell? ⟨wr.heap.size,0,none⟩ = some (.int .i64 2) := ((bcell F3.out).1 _ 0 l2).trans va0;have vc1 : w3.cell? ⟨wr.heap.size,1,none⟩ = some (.int .i64 it) := ((bcell F3.out).1 _ 1 l2).trans va1;clear k3) | (go_at_call 38;refine (H22.out _ _ _ (HP.out.on (below_on EW.out ((Below.refl _ _).alloc (Nat.le_refl _) _)))).mono ?_;rintro e w2 ⟨y,rfl,Q2,k2⟩;obtain ⟨ya,yc,rfl⟩ := Q2.shape;rw [HTH.out];have E2 := hide (below_on ((Below.refl wr.heap.size wr).alloc (Nat.le_refl _) _) k2);have l2 : wr.heap.size < w2.heap.size := (by have := k2.size;simp at this;omega);have n2 : ¬ wr.heap.size = w2.heap.size := (by omega);have va0 : w2.cell? ⟨wr.heap.size,0,none⟩ = some (.int .i64 2) := ((bcell k2).1 _ 0 (by simp)).trans (by simp [go_sem]);have va1 : w2.cell? ⟨wr.heap.size,1,none⟩ = some (.int .i64 it) := ((bcell k2).1 _ 1 (by simp)).trans (by simp [go_sem]);clear k2 Q2) | fail)
        go_roundw
        case rel => exact ⟨q + 1,by go_num,by omega,(fun i hi => by rcases Nat.lt_succ_iff_lt_or_eq.1 hi with h9 | h9;exact HI.out i h9;rw [h9];exact HOK.out),below_on HB.out E4.out⟩
        case measure => simp [intOf];omega
       ·have HOK : Hid (pairB p V q = false) := HPB.out.trans (by rw [hth,hcn,hc3];simp [h31])
        have y3 : ((c3 : Int) == 1) = false := by simp;omega
        have y3' : ((c3 : Int) != 1) = true := by simp;omega
        clear hth hcn hc3
        have HF := hide (all_not (f := pairB p V) HQL.out HOK.out)
        go_wp2_with (first | (go_at_call 128;refine (H128.out _ m _ _ (below_on EW.out E3.out) (Nat.le_refl _)).mono ?_;rintro e w4 ⟨rfl,k4⟩;rw [HCM.out,HC3.out];have E4 := hide (below_on E3.out k4);clear k4) | (go_at_call 128;refine (H128.out _ m _ _ (below_on EW.out (below_on E2.out ((Below.refl _ _).alloc (Nat.le_refl _) _))) (Nat.le_refl _)).mono ?_;rintro e w3 ⟨rfl,k3⟩;rw [HCM.out,HCN.out];have F3 := hide (below_on ((Below.refl w2.heap.size w2).alloc (Nat.le_refl _) _) k3);have E3 := hide (below_on E2.out F3.out);have l3 : wr.heap.size < w3.heap.size := Nat.lt_of_lt_of_le l2 F3.out.size;have vc0 : w3.cell? ⟨wr.heap.size,0,none⟩ = some (.int .i64 2) := ((bcell F3.out).1 _ 0 l2).trans va0;have vc1 : w3.cell? ⟨wr.heap.size,1,none⟩ = some (.int .i64 it) := ((bcell F3.out).1 _ 1 l2).trans va1;clear k3) | (go_at_call 38;refine (H22.out _ _ _ (HP.out.on (below_on EW.out ((Below.refl _ _).alloc (Nat.le_refl _) _)))).mono ?_;rintro e w2 ⟨y,rfl,Q2,k2⟩;obtain ⟨ya,yc,rfl⟩ := Q2.shape;rw [HTH.out];have E2 := hide (below_on ((Below.refl wr.heap.size wr).alloc (Nat.le_refl _) _) k2);have l2 : wr.heap.size < w2.heap.size := (by have := k2.size;simp at this;omega);have n2 : ¬ wr.heap.size = w2.heap.size := (by omega);have va0 : w2.cell? ⟨wr.heap.size,0,none⟩ = some (.int .i64 2) := ((bcell k2).1 _ 0 (by simp)).trans (by simp [go_sem]);have va1 : w2.cell? ⟨wr.heap.size,1,none⟩ = some (.int .i64 it) := ((bcell k2).1 _ 1 (by simp)).trans (by simp [go_sem]);clear k2 Q2) | fail)
        go_ret
        exact ⟨by rw [← pairs_whole,HF.out];rfl,below_on EW.out (E4.out)⟩
      ·obtain ⟨c3,hc3⟩ : ∃ c,(V.take q).count (2,it) = c := ⟨_,rfl⟩
       have HC3 := hide hc3
       by_cases h31 : c3 = 1
       ·subst h31
        have HOK : Hid (pairB p V q = true) := HPB.out.trans (by rw [hth,hcn,hc3];simp)
        clear hth hcn hc3
        go_wp2_with (first | (go_at_call 128;refine (H128.out _ q _ _ (below_on EW.out E3.out) (by omega)).mono ?_;rintro e w4 ⟨rfl,k4⟩;rw [HC3.out];have E4 := hide (below_on E3.out k4);have vd0 : w4.cell? ⟨wr.heap.size,0,none⟩ = some (.int .i64 3) := ((bcell k4).1 _ 0 l3).trans vc0;clear k4) | (go_at_call 128;refine (H128.out _ m _ _ (below_on EW.out (below_on E2.out ((Below.refl _ _).alloc (Nat.le_refl _) _))) (Nat.le_refl _)).mono ?_;rintro e w3 ⟨rfl,k3⟩;rw [HCM.out,HCN.out];have F3 := hide (below_on ((Below.refl w2.heap.size w2).alloc (Nat.le_refl _) _) k3);have E3 := hide (below_on E2.out F3.out);have l3 : wr.heap.size < w3.heap.size := Nat.lt_of_lt_of_le l2 F3.out.size;have vc0 : w3.cell? ⟨wr.heap.size,0,none⟩ = some (.int .i64 3) := ((bcell F3.out).1 _ 0 l2).trans va0;have vc1 : w3.cell? ⟨wr.heap.size,1,none⟩ = some (.int .i64 it) := ((bcell F3.out).1 _ 1 l2).trans va1;clear k3) | (go_at_call 38;refine (H22.out _ _ _ (HP.out.on (below_on EW.out ((Below.refl _ _).alloc (Nat.le_refl _) _)))).mono ?_;rintro e w2 ⟨y,rfl,Q2,k2⟩;obtain ⟨ya,yc,rfl⟩ := Q2.shape;rw [HTH.out];have E2 := hide (below_on ((Below.refl wr.heap.size wr).alloc (Nat.le_refl _) _) k2);have l2 : wr.heap.size < w2.heap.size := (by have := k2.size;simp at this;omega);have n2 : ¬ wr.heap.size = w2.heap.size := (by omega);have va0 : w2.cell? ⟨wr.heap.size,0,none⟩ = some (.int .i64 3) := ((bcell k2).1 _ 0 (by simp)).trans (by simp [go_sem]);have va1 : w2.cell? ⟨wr.heap.size,1,none⟩ = some (.int .i64 it) := ((bcell k2).1 _ 1 (by simp)).trans (by simp [go_sem]);clear k2 Q2) | fail)
        go_roundw
        case rel => exact ⟨q + 1,by go_num,by omega,(fun i hi => by rcases Nat.lt_succ_iff_lt_or_eq.1 hi with h9 | h9;exact HI.out i h9;rw [h9];exact HOK.out),below_on HB.out E4.out⟩
        case measure => simp [intOf];omega
       ·have HOK : Hid (pairB p V q = false) := HPB.out.trans (by rw [hth,hcn,hc3];simp [h31])
        have y3 : ((c3 : Int) == 1) = false := by simp;omega
        have y3' : ((c3 : Int) != 1) = true := by simp;omega
        clear hth hcn hc3
        have HF := hide (all_not (f := pairB p V) HQL.out HOK.out)
        go_wp2_with (first | (go_at_call 128;refine (H128.out _ q _ _ (below_on EW.out E3.out) (by omega)).mono ?_;rintro e w4 ⟨rfl,k4⟩;rw [HC3.out];have E4 := hide (below_on E3.out k4);have vd0 : w4.cell? ⟨wr.heap.size,0,none⟩ = some (.int .i64 3) := ((bcell k4).1 _ 0 l3).trans vc0;clear k4) | (go_at_call 128;refine (H128.out _ m _ _ (below_on EW.out (below_on E2.out ((Below.refl _ _).alloc (Nat.le_refl _) _))) (Nat.le_refl _)).mono ?_;rintro e w3 ⟨rfl,k3⟩;rw [HCM.out,HCN.out];have F3 := hide (below_on ((Below.refl w2.heap.size w2).alloc (Nat.le_refl _) _) k3);have E3 := hide (below_on E2.out F3.out);have l3 : wr.heap.size < w3.heap.size := Nat.lt_of_lt_of_le l2 F3.out.size;have vc0 : w3.cell? ⟨wr.heap.size,0,none⟩ = some (.int .i64 3) := ((bcell F3.out).1 _ 0 l2).trans va0;have vc1 : w3.cell? ⟨wr.heap.size,1,none⟩ = some (.int .i64 it) := ((bcell F3.out).1 _ 1 l2).trans va1;clear k3) | (go_at_call 38;refine (H22.out _ _ _ (HP.out.on (below_on EW.out ((Below.refl _ _).alloc (Nat.le_refl _) _)))).mono ?_;rintro e w2 ⟨y,rfl,Q2,k2⟩;obtain ⟨ya,yc,rfl⟩ := Q2.shape;rw [HTH.out];have E2 := hide (below_on ((Below.refl wr.heap.size wr).alloc (Nat.le_refl _) _) k2);have l2 : wr.heap.size < w2.heap.size := (by have := k2.size;simp at this;omega);have n2 : ¬ wr.heap.size = w2.heap.size := (by omega);have va0 : w2.cell? ⟨wr.heap.size,0,none⟩ = some (.int .i64 3) := ((bcell k2).1 _ 0 (by simp)).trans (by simp [go_sem]);have va1 : w2.cell? ⟨wr.heap.size,1,none⟩ = some (.int .i64 it) := ((bcell k2).1 _ 1 (by simp)).trans (by simp [go_sem]);clear k2 Q2) | fail)
        go_ret
        exact ⟨by rw [← pairs_whole,HF.out];rfl,below_on EW.out (E4.out)⟩
     ·have HOK : Hid (pairB p V q = false) := HPB.out.trans (by rw [hth,hcn];simp [hk4,hc1])
      have y3 : ((cn : Int) == 1) = false := by simp;omega
      have y3' : ((cn : Int) != 1) = true := by simp;omega
      clear hth hcn
      have HF := hide (all_not (f := pairB p V) HQL.out HOK.out)
      go_wp2_with (first | (go_at_call 128;refine (H128.out _ m _ _ (below_on EW.out (below_on E2.out ((Below.refl _ _).alloc (Nat.le_refl _) _))) (Nat.le_refl _)).mono ?_;rintro e w3 ⟨rfl,k3⟩;rw [HCM.out,HCN.out];have F3 := hide (below_on ((Below.refl w2.heap.size w2).alloc (Nat.le_refl _) _) k3);have E3 := hide (below_on E2.out F3.out);have l3 : wr.heap.size < w3.heap.size := Nat.lt_of_lt_of_le l2 F3.out.size;have vc0 : w3.cell? ⟨wr.heap.size,0,none⟩ = some (.int .i64 kd) := ((bcell F3.out).1 _ 0 l2).trans va0;have vc1 : w3.cell? ⟨wr.heap.size,1,none⟩ = some (.int .i64 it) := ((bcell F3.out).1 _ 1 l2).trans va1;clear k3) | (go_at_call 38;refine (H22.out _ _ _ (HP.out.on (below_on EW.out ((Below.refl _ _).alloc (Nat.le_refl _) _)))).mono ?_;rintro e w2 ⟨y,rfl,Q2,k2⟩;obtain ⟨ya,yc,rfl⟩ := Q2.shape;rw [HTH.out];have E2 := hide (below_on ((Below.refl wr.heap.size wr).alloc (Nat.le_refl _) _) k2);have l2 : wr.heap.size < w2.heap.size := (by have := k2.size;simp at this;omega);have n2 : ¬ wr.heap.size = w2.heap.size := (by omega);have va0 : w2.cell? ⟨wr.heap.size,0,none⟩ = some (.int .i64 kd) := ((bcell k2).1 _ 0 (by simp)).trans (by simp [go_sem]);have va1 : w2.cell? ⟨wr.heap.size,1,none⟩ = some (.int .i64 it) := ((bcell k2).1 _ 1 (by simp)).trans (by simp [go_sem]);clear k2 Q2) | fail)
      go_ret
      exact ⟨by rw [← pairs_whole,HF.out];rfl,below_on EW.out (E3.out)⟩
  ·have i1 : ¬ (q : Int) < (m : Int) := by omega
   have HF : Hid ((List.range V.length).all (pairB p V) = true) := all_yes fun i hi => HI.out i (by rw [HM.out] at hi;omega)
   go_wp2_with fail
   go_ret
   exact ⟨by rw [← pairs_whole,HF.out];rfl,EW.out⟩
end Go.Proofs.Ytndbikoccdjafaa
