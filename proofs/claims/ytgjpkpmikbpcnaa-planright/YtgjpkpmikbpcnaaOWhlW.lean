import Derived.Deep.RegionHeld3
import Derived.Test.YtgjpkpmikbpcnaaOTrAG
namespace Go.Proofs.Ytgjpkpmikbpcnaa
open Go.RowKit
theorem sH {p:Prb} (hl:aY p=true) {t:Tsk} (h:bM p t=true):I64 t.2:=by
 have hf:p.js.length+p.ss.length≤12:=by
  obtain ⟨_,_,_,h4,_⟩:=jP hl;unfold zX at h4;exact (of_decide_eq_true h4).2
 unfold bM at h;unfold I64;obtain ⟨s,i⟩:=t
 cases s <;> simp [upB] at h <;> simp only <;> omega
theorem ybZ {p:Prb} (hl:aY p=true) {V:List Vst} (h:Gd p V) {t:Tsk} (ht:0<aX V t):I64 t.2:=by
 have key:∀ kd:Int,(kd,t.2) ∈ V→kd≠4→I64 t.2:=fun kd hm h4=>by
  obtain ⟨i,hi⟩:=List.getElem?_of_mem hm;have h1:=(h i _ hi h4).1;have h2:=qB h1;have:=sH hl h2.2.2;exact this
 unfold aX at ht
 by_cases h1:((1,t.2):Vst) ∈ V
 ·exact key 1 h1 (by decide)
 ·by_cases h2:((2,t.2):Vst) ∈ V
  ·exact key 2 h2 (by decide)
  ·by_cases h3:((3,t.2):Vst) ∈ V
   ·exact key 3 h3 (by decide)
   ·simp [h1,h2,h3] at ht
theorem ya3 {w w':World} {mb b o:Nat} (h:w.grownBy w' (some mb)) (hb:b<w.heap.size) (hne:b≠mb):w'.cell? ⟨b,o,none⟩=w.cell? ⟨b,o,none⟩:=zT h hb hne
set_option maxRecDepth 100000 in
set_option maxHeartbeats 6400000 in
theorem ybQ {w:World} {x:aU} {p:Prb} {k m vc:Nat} {va:Option Addr} {V:List Vst} (h:PrbV w x p) (hl:aY p=true) (hV:VsV w (.slice va m vc) V) (hm:V.length=m) (hm2:m≤110):Calls Try.prog 98 #[.agg (cB p x k (.slice va m vc))] w fun e w'=>e=.returned (.bool (aQ p V))∧Below w.heap.size w w':=by
 have HL:=hide hl;have hl0:=hl;have HB0:Hid (∀ A,Below w.heap.size w (w.alloc A)):=fun A=>(Below.refl _ _).alloc (Nat.le_refl _) A;have HP:=hide h;have HV:=hide hV;have HM:=hide hm;have hmb:m*16≤140737488351232:=by obtain ⟨_,_,e,hb,_⟩:=hV;rw [← hm];exact hb
 clear hV hm;obtain ⟨ta,tc,da,dc,va',vc',ja,jc,sa,sc,rfl⟩:=h.open;clear h;have HTE:Hid (cB p ⟨.slice ta p.time.cells.length tc,.slice da p.dist.cells.length dc,.slice va' p.vs.length vc',.slice ja p.js.length jc,.slice sa p.ss.length sc⟩ k (.slice va m vc)=#[.int .i64 p.dims,.int .i64 p.time.n,.slice ta p.time.cells.length tc,.int .i64 p.dist.n,.slice da p.dist.cells.length dc,.slice va' p.vs.length vc',.slice ja p.js.length jc,.slice sa p.ss.length sc,.int .i64 k,.slice va m vc]):=rfl;rw [HTE.out];obtain ⟨W,hW⟩:∃ W,W=w.alloc (.cells #[.int .i64 p.dims,.int .i64 p.time.n,.slice ta p.time.cells.length tc,.int .i64 p.dist.n,.slice da p.dist.cells.length dc,.slice va' p.vs.length vc',.slice ja p.js.length jc,.slice sa p.ss.length sc,.int .i64 k,.slice va m vc] 121):=⟨_,rfl⟩;have HBW:Hid (Below w.heap.size w W):=by rw [hW];exact HB0.out _
 have HLW:Hid (w.heap.size<W.heap.size):=by show _<_;rw [hW];simp
 have HC:Hid (∀ j,W.cell? ⟨w.heap.size,j,none⟩=(#[.int .i64 p.dims,.int .i64 p.time.n,.slice ta p.time.cells.length tc,.int .i64 p.dist.n,.slice da p.dist.cells.length dc,.slice va' p.vs.length vc',.slice ja p.js.length jc,.slice sa p.ss.length sc,.int .i64 k,.slice va m vc]:Array Value)[j]?):=fun j=>by rw [hW];exact cell_of_row _ _ _ _ _ _ (heap_alloc_new w _)
 have H78:Hid (∀ W2 kd it,Below w.heap.size w W2→Calls Try.prog 78 #[.agg #[.int .i64 p.dims,.int .i64 p.time.n,.slice ta p.time.cells.length tc,.int .i64 p.dist.n,.slice da p.dist.cells.length dc,.slice va' p.vs.length vc',.slice ja p.js.length jc,.slice sa p.ss.length sc],.agg #[.int .i64 kd,.int .i64 it]] W2 fun e w'=>e=.returned (.bool (aI p kd it))∧Below W2.heap.size W2 w'):=fun W2 kd it hf=>by have h9:=fH (HP.out.on hf) kd it;exact h9
 have HWS:Hid (W.heap.size=w.heap.size+1):=by show _=_;rw [hW];simp
 have hmm:=@run_makeMap Try.prog;go_enter Try.func98,Try.ntmps98;go_wp2_with fail;rw [← hW];clear hW hmm;obtain ⟨mb,hmb3⟩:∃ mb,mb=w.heap.size+1:=⟨_,rfl⟩;have hmb2:mb=W.heap.size:=by rw [hmb3,HWS.out]
 have HM0:Hid (Below W.heap.size W (W.alloc (.map #[] 0))∧MapZ (W.alloc (.map #[] 0)) mb 0 (aX (V.take 0))):=⟨Mn.a,by have:=MapZ.made W;rw [hmb2,show aX (V.take 0)=fun _=>(0:Int) from funext fun t=>ybY t];exact this⟩;have HWM:Hid (w.heap.size<mb):=by show _<_;rw [hmb2];exact HLW.out
 have HBM:Hid (∀ b,b<w.heap.size→b<mb):=fun b hb=>Nat.lt_trans hb HWM.out;have HBC:Hid (∀ wx:World,Below mb W wx→Below W.heap.size W wx):=fun wx h=>by rw [hmb2] at h;exact h
 rw [← hmb3];have HMS:=hide hmb2;clear hmb2 hmb3
 go_loopw [16] (fun vi wr=>∃ q:Nat,vi=.int .i64 q∧q≤m∧Hid (Gd p (V.take q))∧Hid (Below mb W wr∧MapZ wr mb q (aX (V.take q)))) (fun vi _=>m-(intOf vi).toNat)
 case atStart=>exact ⟨0,rfl,Nat.zero_le _,Gd.nil p,by rw [HMS.out];exact HM0.out.1,by exact HM0.out.2⟩
 case round =>
  clear HM0;obtain ⟨q,rfl,hq,HG,HR⟩:=hrel;have HB:=hide HR.out.1;have HZ:=hide HR.out.2;clear HR
  by_cases hqm:q<m
  ·have i1:(q:Int)<(m:Int):=by omega
   have i2:(0:Int)≤(q:Int):=by omega
   have i3:¬ (m:Int)≤(q:Int):=by omega
   obtain ⟨⟨kd,it⟩,hu⟩:∃ u,V[q]? = some u:=⟨_,List.getElem?_eq_getElem (by rw [HM.out];exact hqm)⟩;obtain ⟨b,off,rfl,hb,c1,c2,_⟩:=bL HV.out hu;simp only at c1 c2;have d1:wr.cell? ⟨b,off+q*2,none⟩=some (.int .i64 kd):=((aA (below_on HBW.out (HBC.out _ HB.out))).1 _ _ hb).trans c1;have d2:wr.cell? ⟨b,off+q*2+1,none⟩=some (.int .i64 it):=((aA (below_on HBW.out (HBC.out _ HB.out))).1 _ _ hb).trans c2;have HU:=hide hu;clear c1 c2 hu hb;have hmr:mb<wr.heap.size:=HZ.out.lt
   by_cases hk4:kd=4
   ·subst hk4
    have HF:Hid (Gd p (V.take (q+1))∧aX (V.take (q+1))=aX (V.take q)):=by
     show _∧_;rw [eI HU.out];exact ⟨Gd.snoc.2 ⟨HG.out,fun h=>absurd rfl h⟩,funext fun t=>yb0 rfl t⟩
    have y4:((4:Int) == 4)=true:=rfl;go_wp2_with (first | (go_at_call 73;refine (cW _ _ _).mono ?_;rintro e w1 ⟨rfl,k1⟩;have E1:=hide (below_on ((Below.refl wr.heap.size wr).alloc (Nat.le_refl _) (.cells #[.int .i64 4,.int .i64 it] 34)) k1);have B1:=hide (HB.out.trans (E1.out.mono (Nat.le_of_lt hmr)));have l1:wr.heap.size<w1.heap.size:=(by have:=k1.size;simp at this;omega);have v10:w1.cell? ⟨wr.heap.size,0,none⟩=some (.int .i64 4):=((aA k1).1 _ 0 (by simp)).trans (by simp [go_sem]);have v11:w1.cell? ⟨wr.heap.size,1,none⟩=some (.int .i64 it):=((aA k1).1 _ 1 (by simp)).trans (by simp [go_sem]);obtain ⟨ca0,ca1,ca2,ca3,ca4,ca5,ca6,ca7,-,-⟩:=Mn.c10 (fun j=>((aA (HBC.out _ B1.out)).1 _ j HLW.out).trans (HC.out j));clear k1) | fail);go_roundw
    case rel=>exact ⟨q+1,by go_num,by omega,HF.out.1,B1.out,by rw [HF.out.2];obtain ⟨D,hD,hp⟩:=HZ.out.on hmr E1.out;exact ⟨D,hD.mono (Nat.le_succ _),hp⟩⟩
    case measure=>simp [intOf];omega
   ·have y4:(kd == 4)=false:=by simpa using hk4
    obtain ⟨tv,htv⟩:∃ b,aI p kd it=b:=⟨_,rfl⟩;have HTV:=hide htv;clear htv
    cases tv with
    | false =>
     have HF:Hid (aQ p V=false):=nT HU.out hk4 fun h=>by have:=HTV.out.symm.trans h.1;cases this
     go_wp2_with (first | (go_at_call 78;refine (H78.out _ _ _ (below_on HBW.out (HBC.out _ B1.out))).mono ?_;rintro e w2 ⟨rfl,k2⟩;rw [HTV.out];have E2:=hide (below_on E1.out k2);have B2:=hide (HB.out.trans (E2.out.mono (Nat.le_of_lt hmr)));have l2:wr.heap.size<w2.heap.size:=(Nat.lt_of_lt_of_le l1 k2.size);have v20:w2.cell? ⟨wr.heap.size,0,none⟩=some (.int .i64 kd):=((aA k2).1 _ 0 l1).trans v10;have v21:w2.cell? ⟨wr.heap.size,1,none⟩=some (.int .i64 it):=((aA k2).1 _ 1 l1).trans v11;clear k2 ca0 ca1 ca2 ca3 ca4 ca5 ca6 ca7 v10 v11) | (go_at_call 73;refine (cW _ _ _).mono ?_;rintro e w1 ⟨rfl,k1⟩;have E1:=hide (below_on ((Below.refl wr.heap.size wr).alloc (Nat.le_refl _) (.cells #[.int .i64 kd,.int .i64 it] 34)) k1);have B1:=hide (HB.out.trans (E1.out.mono (Nat.le_of_lt hmr)));have l1:wr.heap.size<w1.heap.size:=(by have:=k1.size;simp at this;omega);have v10:w1.cell? ⟨wr.heap.size,0,none⟩=some (.int .i64 kd):=((aA k1).1 _ 0 (by simp)).trans (by simp [go_sem]);have v11:w1.cell? ⟨wr.heap.size,1,none⟩=some (.int .i64 it):=((aA k1).1 _ 1 (by simp)).trans (by simp [go_sem]);obtain ⟨ca0,ca1,ca2,ca3,ca4,ca5,ca6,ca7,-,-⟩:=Mn.c10 (fun j=>((aA (HBC.out _ B1.out)).1 _ j HLW.out).trans (HC.out j));clear k1) | fail);go_ret;exact ⟨by simp [HF.out],below_on HBW.out (HBC.out _ B2.out)⟩
    | true =>
     obtain ⟨hk3,ho,hth⟩:=qB HTV.out;have HI:Hid (I64 it):=sH hl0 hth;obtain ⟨n,hn,hnv,hiff⟩:=yX (it:=it) HG.out hk3;obtain ⟨s,hs⟩:∃ s,bE (kd,it)=(s,it):=⟨_,rfl⟩;rw [hs] at ho hn hnv hiff;have HO:=hide ho;have HN:=hide hn;have HIF:=hide hiff;have HK3:=hide hk3;have HS:=hide hs;clear hk3 ho hth hn hiff hs;simp only at HIF hnv;obtain ⟨vn,hvn⟩:∃ x,gV s=x:=⟨_,rfl⟩;have HVN:=hide hvn;have hvn2:vn≤2:=by rw [← hvn];unfold gV;split <;> omega
     rw [hvn] at hnv HIF;clear hvn;have HLK:Hid (∀ wx,MapZ wx mb q (aX (V.take q))→(Instr.lookup 173 (.map (some mb)) (.agg #[.bool s,.int .i64 it]) false).run Try.prog wx=.ok (.int .i64 (n:Int)) wx):=fun wx hx=>by have h9:=hx.look Try.underlying173 (s,it) HI.out (wE _ _).1;rw [HN.out] at h9;exact h9
     go_wp2_with (first | (go_at_call 19;refine (iW _ _ _).mono ?_;rintro e w3 ⟨rfl,k3⟩;rw [HO.out];simp only [dZ];have E3:=hide (below_on E2.out k3);have B3:=hide (HB.out.trans (E3.out.mono (Nat.le_of_lt hmr)));have l3:wr.heap.size<w3.heap.size:=(Nat.lt_of_lt_of_le l2 k3.size);have n3:¬ wr.heap.size=w3.heap.size:=(by omega);have v30:w3.cell? ⟨wr.heap.size,0,none⟩=some (.int .i64 kd):=((aA k3).1 _ 0 l2).trans v20;have v31:w3.cell? ⟨wr.heap.size,1,none⟩=some (.int .i64 it):=((aA k3).1 _ 1 l2).trans v21;clear k3 v20 v21) | (go_at_call 78;refine (H78.out _ _ _ (below_on HBW.out (HBC.out _ B1.out))).mono ?_;rintro e w2 ⟨rfl,k2⟩;rw [HTV.out];have E2:=hide (below_on E1.out k2);have B2:=hide (HB.out.trans (E2.out.mono (Nat.le_of_lt hmr)));have l2:wr.heap.size<w2.heap.size:=(Nat.lt_of_lt_of_le l1 k2.size);have v20:w2.cell? ⟨wr.heap.size,0,none⟩=some (.int .i64 kd):=((aA k2).1 _ 0 l1).trans v10;have v21:w2.cell? ⟨wr.heap.size,1,none⟩=some (.int .i64 it):=((aA k2).1 _ 1 l1).trans v11;clear k2 ca0 ca1 ca2 ca3 ca4 ca5 ca6 ca7 v10 v11) | (go_at_call 73;refine (cW _ _ _).mono ?_;rintro e w1 ⟨rfl,k1⟩;have E1:=hide (below_on ((Below.refl wr.heap.size wr).alloc (Nat.le_refl _) (.cells #[.int .i64 kd,.int .i64 it] 34)) k1);have B1:=hide (HB.out.trans (E1.out.mono (Nat.le_of_lt hmr)));have l1:wr.heap.size<w1.heap.size:=(by have:=k1.size;simp at this;omega);have v10:w1.cell? ⟨wr.heap.size,0,none⟩=some (.int .i64 kd):=((aA k1).1 _ 0 (by simp)).trans (by simp [go_sem]);have v11:w1.cell? ⟨wr.heap.size,1,none⟩=some (.int .i64 it):=((aA k1).1 _ 1 (by simp)).trans (by simp [go_sem]);obtain ⟨ca0,ca1,ca2,ca3,ca4,ca5,ca6,ca7,-,-⟩:=Mn.c10 (fun j=>((aA (HBC.out _ B1.out)).1 _ j HLW.out).trans (HC.out j));clear k1) | fail);have hlk3:=HLK.out (w3.alloc (.cells #[.bool s,.int .i64 it] 31)).drew (HZ.out.on hmr (below_on E3.out (below_on Mn.a ((Below.refl _ _).drew))))
     first | (go_region_held3 (fun w'=>w'.cell? ⟨w3.heap.size,0,none⟩=some (.bool s)∧w'.cell? ⟨w3.heap.size,1,none⟩=some (.int .i64 it)) (go_keep) (first | (go_at_call 31;refine (pZ _ _ _).mono ?_;rintro e w4 ⟨vv,rfl,hpv,⟨vcp,rfl⟩,k4⟩;rw [HVN.out] at hpv ⊢;have HPV:=hide hpv;have K4:=hide (below_on ((Below.refl w3.heap.size w3).alloc (Nat.le_refl _) (.cells #[.bool s,.int .i64 it] 31)) (below_on ((Below.refl _ _).drew) k4));have E4:=hide (below_on E3.out K4.out);have B4:=hide (HB.out.trans (E4.out.mono (Nat.le_of_lt hmr)));have HZ4:=hide (HZ.out.on hmr E4.out);have hlk4:=HLK.out _ HZ4.out;have t40:w4.cell? ⟨w3.heap.size,0,none⟩=some (.bool s):=((aA k4).1 _ 0 (by simp)).trans (by simp [go_sem]);have t41:w4.cell? ⟨w3.heap.size,1,none⟩=some (.int .i64 it):=((aA k4).1 _ 1 (by simp)).trans (by simp [go_sem]);have v40:w4.cell? ⟨wr.heap.size,0,none⟩=some (.int .i64 kd):=((aA K4.out).1 _ 0 l3).trans v30;have v41:w4.cell? ⟨wr.heap.size,1,none⟩=some (.int .i64 it):=((aA K4.out).1 _ 1 l3).trans v31;have l4:w3.heap.size<w4.heap.size:=(by have:=k4.size;simp at this;omega);clear k4 hpv) | fail)) | fail
     all_goals
      rename_i hHeld;clear hHeld hlk3 hlk4
      have HWB:Hid (∀ j,j<vn→w4.cell? ⟨w3.heap.size+1+1,j*2,none⟩=some (.int .i64 (uJ s j))∧w4.cell? ⟨w3.heap.size+1+1,j*2+1,none⟩=some (.int .i64 it)):=fun j hj=>by
       obtain ⟨a9,c9,ea,_,hc9⟩:=HPV.out;obtain ⟨b9,o9,eb,x1,x2⟩:=hc9 j hj;injection ea with ea1 _ _;rw [← ea1] at eb;injection eb with eb;injection eb with eb1 eb2 _;subst eb2;simp at eb1 x1 x2;subst eb1;exact ⟨x1,x2⟩
      clear HPV
      by_cases hnn:n=vn
      ·subst hnn;have HF:Hid (aQ p V=false):=nT HU.out hk4 fun h=>((HIF.out.2 h.2).1 rfl);have y1:((n:Int) == (n:Int))=true:=by simp
       go_wp2_with fail
       first | (go_quiet (fail)) | fail
       go_wp2_with fail;go_ret;exact ⟨by simp [HF.out],below_on HBW.out (HBC.out _ (below_drewN B4.out _))⟩
      ·have y1:((n:Int) == (vn:Int))=false:=by simp;omega
       have y2:(n:Int)<(vn:Int):=by omega
       have y3:(0:Int)≤(n:Int):=by omega
       have y5:¬ (vn:Int)≤(n:Int):=by omega
       obtain ⟨g1,g2⟩:=HWB.out n (by omega);obtain ⟨kq,hkq⟩:∃ x,uJ s n=x:=⟨_,rfl⟩;rw [hkq] at g1 HIF;clear hkq
       by_cases hkk:kq=kd
       ·subst hkk;have HF:Hid ((kq,it) ∉ V.take q∧(kq=3→((2,it):Vst) ∈ V.take q)):=HIF.out.1 ⟨hnn,rfl⟩;have z1:(kq != kq)=false:=by simp
        have z2:(it != it)=false:=by simp
        have z3:(it == it)=true:=by simp
        have z4:(kq == kq)=true:=by simp
        go_wp2_with fail
        first | (go_quiet (fail)) | fail
        go_wp2_with fail
        generalize hw5:w4.drewN nq=w5
        have E5:Hid (Below wr.heap.size wr w5.drew):=by show Below _ _ _;rw [← hw5];exact (below_drewN E4.out _).drew
        have B5:=hide (HB.out.trans (E5.out.mono (Nat.le_of_lt hmr)));have l5:w3.heap.size<w5.drew.heap.size:=by rw [← hw5];exact Nat.lt_of_lt_of_le l4 (below_drewN (Below.refl w4.heap.size w4) nq).size
        have t50:w5.cell? ⟨w3.heap.size,0,none⟩=some (.bool s):=by rw [← hw5];exact ((aA (below_drewN (Below.refl w4.heap.size w4) nq)).1 _ 0 l4).trans t40
        have t51:w5.cell? ⟨w3.heap.size,1,none⟩=some (.int .i64 it):=by rw [← hw5];exact ((aA (below_drewN (Below.refl w4.heap.size w4) nq)).1 _ 1 l4).trans t41
        have n5:w3.heap.size≠mb:=by omega
        have HZ5:=hide (HZ.out.on hmr E5.out);obtain ⟨v0,st,w6,w7,x1,x2,x3,x4,x5,x6⟩:=HZ5.out.bump Try.underlying173 (by unfold maxLen;omega) (s,it) HI.out (wE _ _).1;rw [HN.out] at x2 x4;have x0:=HLK.out _ HZ5.out;simp only [qA] at x1 x2;have HX5:=hide x5;have HX6:=hide (o8 x6 (Nat.le_of_lt (Nat.lt_of_lt_of_le hmr E5.out.size)));have t60:w6.cell? ⟨w3.heap.size,0,none⟩=some (.bool s):=(ya3 x3 l5 n5).trans t50;have t61:w6.cell? ⟨w3.heap.size,1,none⟩=some (.int .i64 it):=(ya3 x3 l5 n5).trans t51;have t70:w7.cell? ⟨w3.heap.size,0,none⟩=some (.bool s):=(ya3 x6 l5 n5).trans t50;have t71:w7.cell? ⟨w3.heap.size,1,none⟩=some (.int .i64 it):=(ya3 x6 l5 n5).trans t51;have wr1:IntKind.i64.wrap ((n:Int)+1)=(n:Int)+1:=by rw [IntKind.wrap_i64];omega
        clear hw5 t40 t41 v40 v41 x3 x5 x6 l4 g1 g2
        go_region_held3 (fun w'=>w'.cell? ⟨w3.heap.size,0,none⟩=some (.bool s)∧w'.cell? ⟨w3.heap.size,1,none⟩=some (.int .i64 it)) (go_keep) (fail)
        all_goals
         go_wp2_with fail;go_roundw
         case rel=>exact ⟨q+1,by go_num,by omega,by show Gd _ _;rw [eI HU.out];exact Gd.snoc.2 ⟨HG.out,fun _=>⟨HTV.out,HF.out⟩⟩,B5.out.trans HX6.out,by have h9:=HX5.out;rw [eI HU.out,show aX (V.take q ++ [(kq,it)])=fun u=>if u=(s,it) then aX (V.take q) u+1 else aX (V.take q) u from funext fun u=>by rw [yW HK3.out HF.out.1 u,HS.out]];exact h9⟩
         case measure=>simp [intOf];omega
       ·have HF:Hid (aQ p V=false):=nT HU.out hk4 fun h=>hkk ((HIF.out.2 h.2).2);have z1:(kd == kq)=false:=by simp;exact fun e=>hkk e.symm
        go_wp2_with fail
        first | (go_quiet (fail)) | fail
        go_wp2_with fail;go_ret;exact ⟨by simp [HF.out],below_on HBW.out (HBC.out _ (below_drewN B4.out _))⟩
  ·have i1:¬ (q:Int)<(m:Int):=by omega
   have hqe:q=m:=by omega
   subst hqe;have HVT:Hid (V.take q=V):=by show _=_;rw [← HM.out];exact List.take_length
   rw [HVT.out] at HG HZ;have HWI:=hide (ybO HG.out);have hmr:mb<wr.heap.size:=HZ.out.lt;go_wp2_with (first | (at_range;refine HZ.out.range rfl _ 173 rfl Try.underlying173 rfl ?_;intro w1 cnt hrg k1 hsz) | fail);have HRG:=hide hrg;have B1:=hide (HB.out.trans (k1.mono (Nat.le_of_lt hmr)));obtain ⟨r0,hr0⟩:∃ r0,r0=wr.heap.size:=⟨_,rfl⟩;rw [← hr0] at HRG ⊢;have hr1:mb<r0:=by rw [hr0];exact hmr
   clear hrg k1 hsz hr0 hmr
   go_loopw [] (fun wx=>∃ cn,Hid (RngZ wx mb r0 q (aX V) cn∧Below mb W wx)) (fun wx=>wx.rangeLeft mb r0)
   case atStart=>exact ⟨cnt,HRG.out,B1.out⟩
   case round =>
    clear HRG B1;obtain ⟨cn,HX⟩:=hrel;have HRX:=hide HX.out.1;have HBX:=hide HX.out.2;clear HX;go_wp2_with (first | (at_next;refine HRX.out.next rfl _ rfl rfl (fun hd=>?_) (fun s i w2 cn2 h0 hnx hlt hgr hsz hen=>?_)) | fail)
    ·have HF:Hid (aQ p V=true):=(dE p V).2 (HWI.out.2 fun t ht=>hd.out t (ybZ hl0 HG.out ht) ht);go_wp2_with fail;go_ret;exact ⟨by simp [HF.out],below_on HBW.out (HBC.out _ HBX.out)⟩
    ·have HB2:=hide (HBX.out.trans ((o8 hgr.out (Nat.le_of_lt HRX.out.lt)).mono (Nat.le_of_lt hr1)));have HNX:=hnx;have HLE:=hide HRX.out.left_eq;obtain ⟨c,hc⟩:∃ c,aX V (s,i)=c:=⟨_,rfl⟩;have HCC:=hide hc;rw [hc] at h0 hen ⊢;obtain ⟨vn,hvn⟩:∃ x,gV s=x:=⟨_,rfl⟩;have HVN:=hide hvn;have HV':Hid (oW (s,i)=(vn:Int)):=by show _=_;rw [← hvn];unfold oW gV;cases s <;> rfl
     have H0:=h0;clear hc hvn hnx hgr h0
     have A31:Hid (∀ wy,Calls Try.prog 31 #[.agg #[.bool s,.int .i64 i]] wy fun e w'=>∃ aa cc,e=.returned (.slice aa vn cc)∧Below wy.heap.size wy w'):=fun wy=>(pZ wy s i).mono fun e w' h=>by
      obtain ⟨v,e1,_,⟨c9,e2⟩,k9⟩:=h;rw [HVN.out] at e2;exact ⟨_,_,by rw [e1,e2],k9⟩
     have n2:mb<w2.heap.size:=Nat.lt_of_lt_of_le hr1 (by have:=HRX.out.lt;omega)
     by_cases hcv:c<(vn:Int)
     ·have HF:Hid (aQ p V=false):=by
       show _=_
       cases e:aQ p V with
       | false=>rfl
       | true =>
        have:=HWI.out.1 ((dE p V).1 e) (s,i) (by rw [HCC.out];exact H0.out);rw [HCC.out,HV'.out] at this
        omega
      go_wp2_with (first | (go_at_call 31;refine (A31.out _).mono ?_;rintro e w3 ⟨aa,cc,rfl,k3⟩;have K3:=hide (below_on ((Below.refl w2.heap.size w2).alloc (Nat.le_refl _) _) k3);clear k3) | fail);go_ret;exact ⟨by simp [HF.out],below_on HBW.out (HBC.out _ (HB2.out.trans (K3.out.mono (Nat.le_of_lt n2))))⟩
     ·go_wp2_with (first | (go_at_call 31;refine (A31.out _).mono ?_;rintro e w3 ⟨aa,cc,rfl,k3⟩;have K3:=hide (below_on ((Below.refl w2.heap.size w2).alloc (Nat.le_refl _) _) k3);clear k3) | fail);go_roundw
      case rel=>exact ⟨cn2,(HNX.out (by rw [HCC.out,HV'.out];omega)).on K3.out,HB2.out.trans (K3.out.mono (Nat.le_of_lt n2))⟩
      case measure=>rw [((HNX.out (by rw [HCC.out,HV'.out];omega)).on K3.out).left_eq,HLE.out];exact hlt.out
end Go.Proofs.Ytgjpkpmikbpcnaa
