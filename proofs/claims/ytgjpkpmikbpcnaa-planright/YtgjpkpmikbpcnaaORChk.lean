import Derived.Deep.RegionHeld3
import Derived.Test.YtgjpkpmikbpcnaaORVeh
set_option maxRecDepth 100000
set_option maxHeartbeats 3200000
namespace Go.Proofs.Ytgjpkpmikbpcnaa
open Go.RowKit
theorem cC {w:World} {v:Value} {L:List Int} (d:Int) (h:IntsV w v L):Calls Try.prog 85 #[v,.int .i64 d] w fun e w'=>e=.returned (.int .i64 (fY L d))∧w'=w:=by
 obtain ⟨a,c,rfl,_,hl,hA⟩:=h;exact cV d hA rfl (by omega)
theorem nz (z:Int):(z != 0)=!decide (z=0):=by by_cases e:z=0 <;> simp [e]
theorem zH {w:World} {x:aU} {p:Prb} (h:PrbV w x p):Calls Try.prog 52 #[.agg (aL p x)] w fun e w'=>e=.returned (.int .i64 (oT p))∧Below w.heap.size w w':=by
 obtain ⟨ta,tc,da,dc,va,vc,ja,jc,sa,sc,rfl⟩:=h.open;have HP:=hide h;have hv:=SlV.bound h.v;have hj:=SlV.bound h.j;have hs:=SlV.bound h.s;clear h;obtain ⟨b1,h1⟩:∃ b,xX p=b:=⟨_,rfl⟩;obtain ⟨b2,h2⟩:∃ b,gW p.time.n p.time=b:=⟨_,rfl⟩;obtain ⟨b3,h3⟩:∃ b,gW p.time.n p.dist=b:=⟨_,rfl⟩;obtain ⟨bf,hf⟩:∃ b,zX p=b:=⟨_,rfl⟩;obtain ⟨b4,h4⟩:∃ b,p.vs.all (pE p.dims p.time.n)=b:=⟨_,rfl⟩;obtain ⟨b5,h5⟩:∃ b,p.js.all (mK p.dims p.time.n)=b:=⟨_,rfl⟩;obtain ⟨b6,h6⟩:∃ b,p.ss.all (jE p.dims p.time.n)=b:=⟨_,rfl⟩;have HC:=hide (ydL h1 h2 h3 hf h4 h5 h6);have HN0:Hid (b1=true→1≤p.time.n∧p.time.n≤32∧0≤p.dims∧p.dims≤3):=fun e=>dimB_in (h1.trans e);have HFY:Hid (bf=true→p.vs.length≤4∧p.js.length+p.ss.length≤12):=fun e=>few_yes (hf.trans e);have HFN:Hid (bf=false→¬ (p.vs.length≤4∧p.js.length+p.ss.length≤12)):=fun e=>few_no (hf.trans e);have H1:=hide h1;have H2:=hide h2;have H3:=hide h3;have H4:=hide h4;have H5:=hide h5;have H6:=hide h6;unfold aL;unfold xX at H1;obtain ⟨d,⟨n,tL⟩,⟨dn,dL⟩,vL,jL,sL⟩:=p;simp only at HP hv hj hs HC HN0 HFY HFN H1 H2 H3 H4 H5 H6 ⊢;obtain ⟨lt,hlt⟩:∃ k,tL.length=k:=⟨_,rfl⟩;obtain ⟨ld,hld⟩:∃ k,dL.length=k:=⟨_,rfl⟩;obtain ⟨lv,hlv⟩:∃ k,vL.length=k:=⟨_,rfl⟩;obtain ⟨lj,hlj⟩:∃ k,jL.length=k:=⟨_,rfl⟩;obtain ⟨ls,hls⟩:∃ k,sL.length=k:=⟨_,rfl⟩;rw [hlt,hld,hlv,hlj,hls] at HP;rw [hlv] at hv;rw [hlj] at hj;rw [hls] at hs;rw [hlv,hlj,hls] at HFY HFN;rw [hlt,hld,hlv,hlj,hls];have HLV:=hide hlv;have HLJ:=hide hlj;have HLS:=hide hls;clear h1 h2 h3 hf h4 h5 h6 hlt hld hlv hlj hls;have HB0:Hid (Below w.heap.size w (w.alloc (.cells #[.int .i64 d,.int .i64 n,.slice ta lt tc,.int .i64 dn,.slice da ld dc,.slice va lv vc,.slice ja lj jc,.slice sa ls sc] 29))):=Mn.a;obtain ⟨u1,g1⟩:∃ b,upB d 3=b:=⟨_,rfl⟩;have G1:=hide g1;rw [g1] at H1;clear g1
 cases b1 with
 | false =>
  cases u1 with
  | false =>
   go_enter Try.func52,Try.ntmps52
   go_wp2_with (first
    | (go_at_call 82;refine (bH (m:=⟨dn,dL⟩) _ (HP.out.on (below_on HB0.out K1.out)).d HN.out.1 HN.out.2.1).mono ?_;rintro e w2 ⟨rfl,k2⟩;rw [H3.out];have K2:=hide (below_on K1.out k2);obtain ⟨hc2,hf2⟩:=aA K2.out;clear k2 hc1 hf1)
    | (go_at_call 82;refine (bH (m:=⟨n,tL⟩) _ (HP.out.on HB0.out).t HN.out.1 HN.out.2.1).mono ?_;rintro e w1 ⟨rfl,k1⟩;rw [H2.out];obtain ⟨hc1,hf1⟩:=aA k1;have K1:=hide k1;clear k1)
    | (go_at_call 59;refine (bI _ _ _).mono ?_;rintro e w' ⟨rfl,rfl⟩;rw [G1.out]))
   go_ret;exact ⟨by rw [HC.out];rfl,HB0.out⟩
  | true =>
   by_cases i1:n<1
   ·clear HN0;go_enter Try.func52,Try.ntmps52
    go_wp2_with (first
     | (go_at_call 82;refine (bH (m:=⟨dn,dL⟩) _ (HP.out.on (below_on HB0.out K1.out)).d HN.out.1 HN.out.2.1).mono ?_;rintro e w2 ⟨rfl,k2⟩;rw [H3.out];have K2:=hide (below_on K1.out k2);obtain ⟨hc2,hf2⟩:=aA K2.out;clear k2 hc1 hf1)
     | (go_at_call 82;refine (bH (m:=⟨n,tL⟩) _ (HP.out.on HB0.out).t HN.out.1 HN.out.2.1).mono ?_;rintro e w1 ⟨rfl,k1⟩;rw [H2.out];obtain ⟨hc1,hf1⟩:=aA k1;have K1:=hide k1;clear k1)
     | (go_at_call 59;refine (bI _ _ _).mono ?_;rintro e w' ⟨rfl,rfl⟩;rw [G1.out]))
    go_ret;exact ⟨by rw [HC.out];rfl,HB0.out⟩
   ·have i2:32<n:=by have:=of_decide_eq_false H1.out;omega
    clear HN0;go_enter Try.func52,Try.ntmps52
    go_wp2_with (first
     | (go_at_call 82;refine (bH (m:=⟨dn,dL⟩) _ (HP.out.on (below_on HB0.out K1.out)).d HN.out.1 HN.out.2.1).mono ?_;rintro e w2 ⟨rfl,k2⟩;rw [H3.out];have K2:=hide (below_on K1.out k2);obtain ⟨hc2,hf2⟩:=aA K2.out;clear k2 hc1 hf1)
     | (go_at_call 82;refine (bH (m:=⟨n,tL⟩) _ (HP.out.on HB0.out).t HN.out.1 HN.out.2.1).mono ?_;rintro e w1 ⟨rfl,k1⟩;rw [H2.out];obtain ⟨hc1,hf1⟩:=aA k1;have K1:=hide k1;clear k1)
     | (go_at_call 59;refine (bI _ _ _).mono ?_;rintro e w' ⟨rfl,rfl⟩;rw [G1.out]))
    go_ret;exact ⟨by rw [HC.out];rfl,HB0.out⟩
 | true =>
  have HN:Hid (1≤n∧n≤32∧0≤d∧d≤3):=HN0.out rfl;have hu:u1=true:=by have:=H1.out;cases u1 <;> simp_all
  subst hu;have i1:¬ n<1:=by have:=HN.out;omega
  have i2:¬ 32<n:=by have:=HN.out;omega
  cases b2 with
  | false =>
   go_enter Try.func52,Try.ntmps52
   go_wp2_with (first
    | (go_at_call 82;refine (bH (m:=⟨dn,dL⟩) _ (HP.out.on (below_on HB0.out K1.out)).d HN.out.1 HN.out.2.1).mono ?_;rintro e w2 ⟨rfl,k2⟩;rw [H3.out];have K2:=hide (below_on K1.out k2);obtain ⟨hc2,hf2⟩:=aA K2.out;clear k2 hc1 hf1)
    | (go_at_call 82;refine (bH (m:=⟨n,tL⟩) _ (HP.out.on HB0.out).t HN.out.1 HN.out.2.1).mono ?_;rintro e w1 ⟨rfl,k1⟩;rw [H2.out];obtain ⟨hc1,hf1⟩:=aA k1;have K1:=hide k1;clear k1)
    | (go_at_call 59;refine (bI _ _ _).mono ?_;rintro e w' ⟨rfl,rfl⟩;rw [G1.out]))
   go_ret;exact ⟨by rw [HC.out];rfl,below_on HB0.out K1.out⟩
  | true =>
   cases b3 with
   | false =>
    go_enter Try.func52,Try.ntmps52
    go_wp2_with (first
     | (go_at_call 82;refine (bH (m:=⟨dn,dL⟩) _ (HP.out.on (below_on HB0.out K1.out)).d HN.out.1 HN.out.2.1).mono ?_;rintro e w2 ⟨rfl,k2⟩;rw [H3.out];have K2:=hide (below_on K1.out k2);obtain ⟨hc2,hf2⟩:=aA K2.out;clear k2 hc1 hf1)
     | (go_at_call 82;refine (bH (m:=⟨n,tL⟩) _ (HP.out.on HB0.out).t HN.out.1 HN.out.2.1).mono ?_;rintro e w1 ⟨rfl,k1⟩;rw [H2.out];obtain ⟨hc1,hf1⟩:=aA k1;have K1:=hide k1;clear k1)
     | (go_at_call 59;refine (bI _ _ _).mono ?_;rintro e w' ⟨rfl,rfl⟩;rw [G1.out]))
    go_ret;exact ⟨by rw [HC.out];rfl,below_on HB0.out K2.out⟩
   | true =>
    cases bf with
    | false =>
     by_cases i3:(4:Int)<(lv:Int)
     ·clear HFN HFY;go_enter Try.func52,Try.ntmps52
      go_wp2_with (first
       | (go_at_call 82;refine (bH (m:=⟨dn,dL⟩) _ (HP.out.on (below_on HB0.out K1.out)).d HN.out.1 HN.out.2.1).mono ?_;rintro e w2 ⟨rfl,k2⟩;rw [H3.out];have K2:=hide (below_on K1.out k2);obtain ⟨hc2,hf2⟩:=aA K2.out;clear k2 hc1 hf1)
       | (go_at_call 82;refine (bH (m:=⟨n,tL⟩) _ (HP.out.on HB0.out).t HN.out.1 HN.out.2.1).mono ?_;rintro e w1 ⟨rfl,k1⟩;rw [H2.out];obtain ⟨hc1,hf1⟩:=aA k1;have K1:=hide k1;clear k1)
       | (go_at_call 59;refine (bI _ _ _).mono ?_;rintro e w' ⟨rfl,rfl⟩;rw [G1.out]))
      go_ret;exact ⟨by rw [HC.out];rfl,below_on HB0.out K2.out⟩
     ·have i4:(12:Int)<(lj:Int)+(ls:Int):=by have:=HFN.out rfl;omega
      clear HFN HFY;go_enter Try.func52,Try.ntmps52
      go_wp2_with (first
       | (go_at_call 82;refine (bH (m:=⟨dn,dL⟩) _ (HP.out.on (below_on HB0.out K1.out)).d HN.out.1 HN.out.2.1).mono ?_;rintro e w2 ⟨rfl,k2⟩;rw [H3.out];have K2:=hide (below_on K1.out k2);obtain ⟨hc2,hf2⟩:=aA K2.out;clear k2 hc1 hf1)
       | (go_at_call 82;refine (bH (m:=⟨n,tL⟩) _ (HP.out.on HB0.out).t HN.out.1 HN.out.2.1).mono ?_;rintro e w1 ⟨rfl,k1⟩;rw [H2.out];obtain ⟨hc1,hf1⟩:=aA k1;have K1:=hide k1;clear k1)
       | (go_at_call 59;refine (bI _ _ _).mono ?_;rintro e w' ⟨rfl,rfl⟩;rw [G1.out]))
      go_ret;exact ⟨by rw [HC.out];rfl,below_on HB0.out K2.out⟩
    | true =>
     have i3:¬ (4:Int)<(lv:Int):=by have:=HFY.out rfl;omega
     have i4:¬ (12:Int)<(lj:Int)+(ls:Int):=by have:=HFY.out rfl;omega
     clear HFN HFY;go_enter Try.func52,Try.ntmps52
     go_wp2_with (first
      | (go_at_call 82;refine (bH (m:=⟨dn,dL⟩) _ (HP.out.on (below_on HB0.out K1.out)).d HN.out.1 HN.out.2.1).mono ?_;rintro e w2 ⟨rfl,k2⟩;rw [H3.out];have K2:=hide (below_on K1.out k2);obtain ⟨hc2,hf2⟩:=aA K2.out;clear k2 hc1 hf1)
      | (go_at_call 82;refine (bH (m:=⟨n,tL⟩) _ (HP.out.on HB0.out).t HN.out.1 HN.out.2.1).mono ?_;rintro e w1 ⟨rfl,k1⟩;rw [H2.out];obtain ⟨hc1,hf1⟩:=aA k1;have K1:=hide k1;clear k1)
      | (go_at_call 59;refine (bI _ _ _).mono ?_;rintro e w' ⟨rfl,rfl⟩;rw [G1.out]))
     go_loopw [4] (fun vi wr=>∃ k:Nat,vi=.int .i64 k∧k≤lv∧Hid (Below (w.alloc (.cells #[.int .i64 d,.int .i64 n,.slice ta lt tc,.int .i64 dn,.slice da ld dc,.slice va lv vc,.slice ja lj jc,.slice sa ls sc] 29)).heap.size (w.alloc (.cells #[.int .i64 d,.int .i64 n,.slice ta lt tc,.int .i64 dn,.slice da ld dc,.slice va lv vc,.slice ja lj jc,.slice sa ls sc] 29)) wr∧vL.all (pE d n)=(vL.drop k).all (pE d n))) (fun vi _=>lv-(intOf vi).toNat)
     case atStart=>exact ⟨0,rfl,Nat.zero_le _,K2.out,by rw [List.drop_zero]⟩
     case round =>
      clear hc2 hf2;obtain ⟨k,rfl,hk,HR⟩:=hrel;obtain ⟨hcr,hfr⟩:=aA HR.out.1
      by_cases hlt:k<lv
      ·have HAr:=hide (HP.out.on (below_on HB0.out HR.out.1)).v;obtain ⟨a',c',e',_,_,hcell⟩:=HAr.out;obtain ⟨b,off,l,rfl,hll,hcs,hv⟩:=hcell k (by rw [HLV.out];exact hlt);rw [HLV.out] at e';injection e' with e1 e2 e3;clear e2 e3 hcell;subst e1;obtain ⟨x,hx⟩:∃ x,vL.getD k vz=x:=⟨_,rfl⟩;have HS:=hide (HR.out.2.trans (jJ (pE d n) vz vL k (by rw [HLV.out];exact hlt)));rw [hx] at hv HS;clear hx;obtain ⟨xc,xb,rfl,q1,q2,q3⟩:=hv;obtain ⟨xca,xcc,rfl⟩:=q1.shape;obtain ⟨xka,xkc,rfl⟩:=SlV.shape q2;have HX:Hid (VehV wr (kF x (.slice xca x.cap.length xcc) (.slice xka x.brks.length xkc)) x):=⟨_,_,rfl,q1,q2,q3⟩;clear q1 q2 q3;obtain ⟨lxc,hxc⟩:∃ k,x.cap.length=k:=⟨_,rfl⟩;obtain ⟨lxk,hxk⟩:∃ k,x.brks.length=k:=⟨_,rfl⟩;rw [hxc,hxk] at HX;unfold kF at hcs;rw [hxc,hxk] at hcs;clear hxc hxk;have c0:wr.cell? ⟨b,off+k*11,none⟩=some (.int .i64 x.start):=hcs 0 (by decide);have c1:wr.cell? ⟨b,off+k*11+1,none⟩=some (.int .i64 x.stop):=hcs 1 (by decide);have c2:wr.cell? ⟨b,off+k*11+2,none⟩=some (.slice xca lxc xcc):=hcs 2 (by decide);have c3:wr.cell? ⟨b,off+k*11+3,none⟩=some (.int .u64 x.skills):=hcs 3 (by decide);have c4:wr.cell? ⟨b,off+k*11+4,none⟩=some (.int .i64 x.shift.1):=hcs 4 (by decide);have c5:wr.cell? ⟨b,off+k*11+5,none⟩=some (.int .i64 x.shift.2):=hcs 5 (by decide);have c6:wr.cell? ⟨b,off+k*11+6,none⟩=some (.int .i64 x.fixed):=hcs 6 (by decide);have c7:wr.cell? ⟨b,off+k*11+7,none⟩=some (.int .i64 x.perT):=hcs 7 (by decide);have c8:wr.cell? ⟨b,off+k*11+8,none⟩=some (.int .i64 x.perD):=hcs 8 (by decide);have c9:wr.cell? ⟨b,off+k*11+9,none⟩=some (.int .i64 x.maxT):=hcs 9 (by decide);have c10:wr.cell? ⟨b,off+k*11+10,none⟩=some (.slice xka lxk xkc):=hcs 10 (by decide);have hbl:b<wr.heap.size:=block_lt_of_cell c0;have hwl:w.heap.size<wr.heap.size:=by have:=HR.out.1.size;simp at this;omega
       have cb5:wr.cell? ⟨w.heap.size,5,none⟩=some (.slice (some ⟨b,off,none⟩) lv vc):=by rw [hcr _ _ (by simp)];simp [go_sem]
       have cb0:wr.cell? ⟨w.heap.size,0,none⟩=some (.int .i64 d):=by rw [hcr _ _ (by simp)];simp [go_sem]
       clear hcs hll hcr hfr;have j3:(k:Int)<(lv:Int):=by omega
       have j4:(0:Int)≤(k:Int):=by omega
       obtain ⟨bb,hbb⟩:∃ bb,pE d n x=bb:=⟨_,rfl⟩;have HBB:=hide hbb;rw [hbb] at HS;clear hbb
       cases bb with
       | true =>
        go_wp2
        first | (go_region_held3 (fun w'=>w'.cell? ⟨w.heap.size,5,none⟩=some (.slice (some ⟨b,off,none⟩) lv vc)∧w'.cell? ⟨w.heap.size,0,none⟩=some (.int .i64 d)∧w'.cell? ⟨b,off+k*11,none⟩=some (.int .i64 x.start)∧w'.cell? ⟨b,off+k*11+1,none⟩=some (.int .i64 x.stop)∧w'.cell? ⟨b,off+k*11+2,none⟩=some (.slice xca lxc xcc)∧w'.cell? ⟨b,off+k*11+3,none⟩=some (.int .u64 x.skills)∧w'.cell? ⟨b,off+k*11+4,none⟩=some (.int .i64 x.shift.1)∧w'.cell? ⟨b,off+k*11+5,none⟩=some (.int .i64 x.shift.2)∧w'.cell? ⟨b,off+k*11+6,none⟩=some (.int .i64 x.fixed)∧w'.cell? ⟨b,off+k*11+7,none⟩=some (.int .i64 x.perT)∧w'.cell? ⟨b,off+k*11+8,none⟩=some (.int .i64 x.perD)∧w'.cell? ⟨b,off+k*11+9,none⟩=some (.int .i64 x.maxT)∧w'.cell? ⟨b,off+k*11+10,none⟩=some (.slice xka lxk xkc)) (go_keep) (first | (go_at_call 83;refine (mZ _ _ (VehV.on ((Below.refl _ _).drew) HX.out) HN.out.1 HN.out.2.1).mono ?_;rintro e w3 ⟨rfl,k3⟩;rw [HBB.out];have K3:=hide (below_on ((Below.refl _ _).drew) k3);have s5:=(aA K3.out).1 w.heap.size 5 hwl;rw [cb5] at s5;have s0:=(aA K3.out).1 w.heap.size 0 hwl;rw [cb0] at s0;have s10:=(aA K3.out).1 b (off+k*11) hbl;rw [c0] at s10;have s11:=(aA K3.out).1 b (off+k*11+1) hbl;rw [c1] at s11;have s12:=(aA K3.out).1 b (off+k*11+2) hbl;rw [c2] at s12;have s13:=(aA K3.out).1 b (off+k*11+3) hbl;rw [c3] at s13;have s14:=(aA K3.out).1 b (off+k*11+4) hbl;rw [c4] at s14;have s15:=(aA K3.out).1 b (off+k*11+5) hbl;rw [c5] at s15;have s16:=(aA K3.out).1 b (off+k*11+6) hbl;rw [c6] at s16;have s17:=(aA K3.out).1 b (off+k*11+7) hbl;rw [c7] at s17;have s18:=(aA K3.out).1 b (off+k*11+8) hbl;rw [c8] at s18;have s19:=(aA K3.out).1 b (off+k*11+9) hbl;rw [c9] at s19;have s110:=(aA K3.out).1 b (off+k*11+10) hbl;rw [c10] at s110;clear k3))) | fail
        rename_i hHeld;clear hHeld;go_wp2;go_roundw
        case rel=>exact ⟨k+1,by go_num,by omega,below_on HR.out.1 K3.out,by rw [HS.out];simp⟩
        case measure=>simp [intOf];omega
       | false =>
        go_wp2
        first | (go_region_held3 (fun w'=>w'.cell? ⟨w.heap.size,5,none⟩=some (.slice (some ⟨b,off,none⟩) lv vc)∧w'.cell? ⟨w.heap.size,0,none⟩=some (.int .i64 d)∧w'.cell? ⟨b,off+k*11,none⟩=some (.int .i64 x.start)∧w'.cell? ⟨b,off+k*11+1,none⟩=some (.int .i64 x.stop)∧w'.cell? ⟨b,off+k*11+2,none⟩=some (.slice xca lxc xcc)∧w'.cell? ⟨b,off+k*11+3,none⟩=some (.int .u64 x.skills)∧w'.cell? ⟨b,off+k*11+4,none⟩=some (.int .i64 x.shift.1)∧w'.cell? ⟨b,off+k*11+5,none⟩=some (.int .i64 x.shift.2)∧w'.cell? ⟨b,off+k*11+6,none⟩=some (.int .i64 x.fixed)∧w'.cell? ⟨b,off+k*11+7,none⟩=some (.int .i64 x.perT)∧w'.cell? ⟨b,off+k*11+8,none⟩=some (.int .i64 x.perD)∧w'.cell? ⟨b,off+k*11+9,none⟩=some (.int .i64 x.maxT)∧w'.cell? ⟨b,off+k*11+10,none⟩=some (.slice xka lxk xkc)) (go_keep) (first | (go_at_call 83;refine (mZ _ _ (VehV.on ((Below.refl _ _).drew) HX.out) HN.out.1 HN.out.2.1).mono ?_;rintro e w3 ⟨rfl,k3⟩;rw [HBB.out];have K3:=hide (below_on ((Below.refl _ _).drew) k3);have s5:=(aA K3.out).1 w.heap.size 5 hwl;rw [cb5] at s5;have s0:=(aA K3.out).1 w.heap.size 0 hwl;rw [cb0] at s0;have s10:=(aA K3.out).1 b (off+k*11) hbl;rw [c0] at s10;have s11:=(aA K3.out).1 b (off+k*11+1) hbl;rw [c1] at s11;have s12:=(aA K3.out).1 b (off+k*11+2) hbl;rw [c2] at s12;have s13:=(aA K3.out).1 b (off+k*11+3) hbl;rw [c3] at s13;have s14:=(aA K3.out).1 b (off+k*11+4) hbl;rw [c4] at s14;have s15:=(aA K3.out).1 b (off+k*11+5) hbl;rw [c5] at s15;have s16:=(aA K3.out).1 b (off+k*11+6) hbl;rw [c6] at s16;have s17:=(aA K3.out).1 b (off+k*11+7) hbl;rw [c7] at s17;have s18:=(aA K3.out).1 b (off+k*11+8) hbl;rw [c8] at s18;have s19:=(aA K3.out).1 b (off+k*11+9) hbl;rw [c9] at s19;have s110:=(aA K3.out).1 b (off+k*11+10) hbl;rw [c10] at s110;clear k3))) | fail
        rename_i hHeld;clear hHeld;have E:Hid (b4=false):=by show _=_;rw [← H4.out,HS.out];simp
        go_wp2;go_ret;exact ⟨by rw [HC.out,E.out];rfl,below_on HB0.out (below_on HR.out.1 K3.out)⟩
      ·have j3:¬ (k:Int)<(lv:Int):=by omega
       have E4:Hid (b4=true):=by show _=_;rw [← H4.out,HR.out.2];exact mA _ vL k (by rw [HLV.out];exact hlt)
       go_wp2
       go_loopw [5] (fun vi wr=>∃ k:Nat,vi=.int .i64 k∧k≤lj∧Hid (Below (w.alloc (.cells #[.int .i64 d,.int .i64 n,.slice ta lt tc,.int .i64 dn,.slice da ld dc,.slice va lv vc,.slice ja lj jc,.slice sa ls sc] 29)).heap.size (w.alloc (.cells #[.int .i64 d,.int .i64 n,.slice ta lt tc,.int .i64 dn,.slice da ld dc,.slice va lv vc,.slice ja lj jc,.slice sa ls sc] 29)) wr∧jL.all (mK d n)=(jL.drop k).all (mK d n))) (fun vi _=>lj-(intOf vi).toNat)
       case atStart=>exact ⟨0,rfl,Nat.zero_le _,HR.out.1,by rw [List.drop_zero]⟩
       case round =>
        clear hcr hfr;obtain ⟨k,rfl,hk,HR⟩:=hrel;obtain ⟨hcr,hfr⟩:=aA HR.out.1
        by_cases hlt:k<lj
        ·have HAr:=hide (HP.out.on (below_on HB0.out HR.out.1)).j;obtain ⟨a',c',e',_,_,hcell⟩:=HAr.out;obtain ⟨b,off,l,rfl,hll,hcs,hv⟩:=hcell k (by rw [HLJ.out];exact hlt);rw [HLJ.out] at e';injection e' with e1 e2 e3;clear e2 e3 hcell;subst e1;obtain ⟨x,hx⟩:∃ x,jL.getD k jz=x:=⟨_,rfl⟩;have HS:=hide (HR.out.2.trans (jJ (mK d n) jz jL k (by rw [HLJ.out];exact hlt)));rw [hx] at hv HS;clear hx;obtain ⟨xw,xd,xp,rfl,q1,q2,q3,q4⟩:=hv;obtain ⟨wa,wc,rfl⟩:=q1.shape;obtain ⟨da2,dc2,rfl⟩:=q2.shape;obtain ⟨pa,pc,rfl⟩:=q3.shape;obtain ⟨lw,hx1⟩:∃ k,x.stop.wins.length=k:=⟨_,rfl⟩;obtain ⟨l2,hx2⟩:∃ k,x.drop.length=k:=⟨_,rfl⟩;obtain ⟨l3,hx3⟩:∃ k,x.pick.length=k:=⟨_,rfl⟩;unfold pH at hcs;rw [hx1,hx2,hx3] at hcs;rw [hx1] at q1;rw [hx2] at q2;rw [hx3] at q3;have Q1:=hide q1;have Q2:=hide q2;have Q3:=hide q3;clear hx1 hx2 hx3 q1 q2 q3 q4;have c0:wr.cell? ⟨b,off+k*7,none⟩=some (.int .i64 x.stop.place):=hcs 0 (by decide);have c1:wr.cell? ⟨b,off+k*7+1,none⟩=some (.int .i64 x.stop.serv):=hcs 1 (by decide);have c2:wr.cell? ⟨b,off+k*7+2,none⟩=some (.slice wa lw wc):=hcs 2 (by decide);have c3:wr.cell? ⟨b,off+k*7+3,none⟩=some (.slice da2 l2 dc2):=hcs 3 (by decide);have c4:wr.cell? ⟨b,off+k*7+4,none⟩=some (.slice pa l3 pc):=hcs 4 (by decide);have c5:wr.cell? ⟨b,off+k*7+5,none⟩=some (.int .u64 x.skills):=hcs 5 (by decide);have c6:wr.cell? ⟨b,off+k*7+6,none⟩=some (.int .i64 x.prio):=hcs 6 (by decide);have hwl:w.heap.size<wr.heap.size:=by have:=HR.out.1.size;simp at this;omega
         clear hcs hll;have j3:(k:Int)<(lj:Int):=by omega
         obtain ⟨p1,g1⟩:∃ b,oD n x.stop=b:=⟨_,rfl⟩;have P1:=hide g1;obtain ⟨p2,g2⟩:∃ b,pI x.drop d=b:=⟨_,rfl⟩;have P2:=hide g2;obtain ⟨p3,g3⟩:∃ b,pI x.pick d=b:=⟨_,rfl⟩;have P3:=hide g3;obtain ⟨p4,g4⟩:∃ b,wL x.skills=b:=⟨_,rfl⟩;have P4:=hide g4;obtain ⟨p5,g5⟩:∃ b,upB x.prio 100=b:=⟨_,rfl⟩;have P5:=hide g5;obtain ⟨z2,hz2⟩:∃ z,fY x.drop d=z:=⟨_,rfl⟩;have Z2:=hide hz2;have y2:(z2 != 0)=!p2:=by rw [nz,← hz2];exact congrArg _ P2.out
         clear hz2;obtain ⟨z3,hz3⟩:∃ z,fY x.pick d=z:=⟨_,rfl⟩;have Z3:=hide hz3;have y3:(z3 != 0)=!p3:=by rw [nz,← hz3];exact congrArg _ P3.out
         clear hz3;rw [show mK d n x=(p1 && p2 && p3 && p4 && p5) from by unfold mK;rw [g1,g2,g3,g4,g5]] at HS;clear g1 g2 g3 g4 g5;have HE:Hid (Below wr.heap.size wr (wr.alloc (.cells #[.int .i64 x.stop.place,.int .i64 x.stop.serv,.slice wa lw wc,.slice da2 l2 dc2,.slice pa l3 pc,.int .u64 x.skills,.int .i64 x.prio] 67))):=Mn.a
         cases p1 with
         | false =>
          go_wp2_with (first
           | (go_at_call 59;refine (bI _ _ _).mono ?_;rintro e w' ⟨rfl,rfl⟩;rw [P5.out])
           | (go_at_call 85;have:=M45.out;refine (cC _ (Q3.out.on K3r.out)).mono ?_;rintro e w' ⟨rfl,rfl⟩;rw [Z3.out])
           | (go_at_call 85;refine (cC _ (Q2.out.on K3r.out)).mono ?_;rintro e w' ⟨rfl,rfl⟩;rw [Z2.out];have M45:Hid True:=trivial)
           | (go_at_call 84;refine (bP (s:=x.stop) _ (Q1.out.on HE.out) HN.out.1 HN.out.2.1).mono ?_;rintro e w3 ⟨rfl,k3⟩;rw [P1.out];obtain ⟨hc3,hf3⟩:=aA k3;have K3:=hide (below_on (below_on HR.out.1 HE.out) k3);have K3r:=hide (below_on HE.out k3);obtain ⟨hk3,hkf3⟩:=aA K3.out;clear k3))
          go_ret;exact ⟨by rw [HC.out,E4.out,show b5=false from by rw [← H5.out,HS.out];simp];first | rfl | simp,below_on HB0.out K3.out⟩
         | true =>
          cases p2 with
          | false =>
           go_wp2_with (first
            | (go_at_call 59;refine (bI _ _ _).mono ?_;rintro e w' ⟨rfl,rfl⟩;rw [P5.out])
            | (go_at_call 85;have:=M45.out;refine (cC _ (Q3.out.on K3r.out)).mono ?_;rintro e w' ⟨rfl,rfl⟩;rw [Z3.out])
            | (go_at_call 85;refine (cC _ (Q2.out.on K3r.out)).mono ?_;rintro e w' ⟨rfl,rfl⟩;rw [Z2.out];have M45:Hid True:=trivial)
            | (go_at_call 84;refine (bP (s:=x.stop) _ (Q1.out.on HE.out) HN.out.1 HN.out.2.1).mono ?_;rintro e w3 ⟨rfl,k3⟩;rw [P1.out];obtain ⟨hc3,hf3⟩:=aA k3;have K3:=hide (below_on (below_on HR.out.1 HE.out) k3);have K3r:=hide (below_on HE.out k3);obtain ⟨hk3,hkf3⟩:=aA K3.out;clear k3))
           go_ret;exact ⟨by rw [HC.out,E4.out,show b5=false from by rw [← H5.out,HS.out];simp];first | rfl | simp,below_on HB0.out K3.out⟩
          | true =>
           cases p3 with
           | false =>
            go_wp2_with (first
             | (go_at_call 59;refine (bI _ _ _).mono ?_;rintro e w' ⟨rfl,rfl⟩;rw [P5.out])
             | (go_at_call 85;have:=M45.out;refine (cC _ (Q3.out.on K3r.out)).mono ?_;rintro e w' ⟨rfl,rfl⟩;rw [Z3.out])
             | (go_at_call 85;refine (cC _ (Q2.out.on K3r.out)).mono ?_;rintro e w' ⟨rfl,rfl⟩;rw [Z2.out];have M45:Hid True:=trivial)
             | (go_at_call 84;refine (bP (s:=x.stop) _ (Q1.out.on HE.out) HN.out.1 HN.out.2.1).mono ?_;rintro e w3 ⟨rfl,k3⟩;rw [P1.out];obtain ⟨hc3,hf3⟩:=aA k3;have K3:=hide (below_on (below_on HR.out.1 HE.out) k3);have K3r:=hide (below_on HE.out k3);obtain ⟨hk3,hkf3⟩:=aA K3.out;clear k3))
            go_ret;exact ⟨by rw [HC.out,E4.out,show b5=false from by rw [← H5.out,HS.out];simp];first | rfl | simp,below_on HB0.out K3.out⟩
           | true =>
            cases p4 with
            | false =>
             have i9:=zA P4.out
             go_wp2_with (first
              | (go_at_call 59;refine (bI _ _ _).mono ?_;rintro e w' ⟨rfl,rfl⟩;rw [P5.out])
              | (go_at_call 85;have:=M45.out;refine (cC _ (Q3.out.on K3r.out)).mono ?_;rintro e w' ⟨rfl,rfl⟩;rw [Z3.out])
              | (go_at_call 85;refine (cC _ (Q2.out.on K3r.out)).mono ?_;rintro e w' ⟨rfl,rfl⟩;rw [Z2.out];have M45:Hid True:=trivial)
              | (go_at_call 84;refine (bP (s:=x.stop) _ (Q1.out.on HE.out) HN.out.1 HN.out.2.1).mono ?_;rintro e w3 ⟨rfl,k3⟩;rw [P1.out];obtain ⟨hc3,hf3⟩:=aA k3;have K3:=hide (below_on (below_on HR.out.1 HE.out) k3);have K3r:=hide (below_on HE.out k3);obtain ⟨hk3,hkf3⟩:=aA K3.out;clear k3))
             go_ret;exact ⟨by rw [HC.out,E4.out,show b5=false from by rw [← H5.out,HS.out];simp];first | rfl | simp,below_on HB0.out K3.out⟩
            | true =>
             have i9:=uM P4.out
             cases p5 with
             | false =>
              go_wp2_with (first
               | (go_at_call 59;refine (bI _ _ _).mono ?_;rintro e w' ⟨rfl,rfl⟩;rw [P5.out])
               | (go_at_call 85;have:=M45.out;refine (cC _ (Q3.out.on K3r.out)).mono ?_;rintro e w' ⟨rfl,rfl⟩;rw [Z3.out])
               | (go_at_call 85;refine (cC _ (Q2.out.on K3r.out)).mono ?_;rintro e w' ⟨rfl,rfl⟩;rw [Z2.out];have M45:Hid True:=trivial)
               | (go_at_call 84;refine (bP (s:=x.stop) _ (Q1.out.on HE.out) HN.out.1 HN.out.2.1).mono ?_;rintro e w3 ⟨rfl,k3⟩;rw [P1.out];obtain ⟨hc3,hf3⟩:=aA k3;have K3:=hide (below_on (below_on HR.out.1 HE.out) k3);have K3r:=hide (below_on HE.out k3);obtain ⟨hk3,hkf3⟩:=aA K3.out;clear k3))
              go_ret;exact ⟨by rw [HC.out,E4.out,show b5=false from by rw [← H5.out,HS.out];simp];first | rfl | simp,below_on HB0.out K3.out⟩
             | true =>
              go_wp2_with (first
               | (go_at_call 59;refine (bI _ _ _).mono ?_;rintro e w' ⟨rfl,rfl⟩;rw [P5.out])
               | (go_at_call 85;have:=M45.out;refine (cC _ (Q3.out.on K3r.out)).mono ?_;rintro e w' ⟨rfl,rfl⟩;rw [Z3.out])
               | (go_at_call 85;refine (cC _ (Q2.out.on K3r.out)).mono ?_;rintro e w' ⟨rfl,rfl⟩;rw [Z2.out];have M45:Hid True:=trivial)
               | (go_at_call 84;refine (bP (s:=x.stop) _ (Q1.out.on HE.out) HN.out.1 HN.out.2.1).mono ?_;rintro e w3 ⟨rfl,k3⟩;rw [P1.out];obtain ⟨hc3,hf3⟩:=aA k3;have K3:=hide (below_on (below_on HR.out.1 HE.out) k3);have K3r:=hide (below_on HE.out k3);obtain ⟨hk3,hkf3⟩:=aA K3.out;clear k3))
              go_roundw
              case rel=>exact ⟨k+1,by go_num,by omega,K3.out,by rw [HS.out];simp⟩
              case measure=>simp [intOf];omega
        ·have j3:¬ (k:Int)<(lj:Int):=by omega
         have E5:Hid (b5=true):=by show _=_;rw [← H5.out,HR.out.2];exact mA _ jL k (by rw [HLJ.out];exact hlt)
         go_wp2
         go_loopw [7] (fun vi wr=>∃ k:Nat,vi=.int .i64 k∧k≤ls∧Hid (Below (w.alloc (.cells #[.int .i64 d,.int .i64 n,.slice ta lt tc,.int .i64 dn,.slice da ld dc,.slice va lv vc,.slice ja lj jc,.slice sa ls sc] 29)).heap.size (w.alloc (.cells #[.int .i64 d,.int .i64 n,.slice ta lt tc,.int .i64 dn,.slice da ld dc,.slice va lv vc,.slice ja lj jc,.slice sa ls sc] 29)) wr∧sL.all (jE d n)=(sL.drop k).all (jE d n))) (fun vi _=>ls-(intOf vi).toNat)
         case atStart=>exact ⟨0,rfl,Nat.zero_le _,HR.out.1,by rw [List.drop_zero]⟩
         case round =>
          clear hcr hfr;obtain ⟨k,rfl,hk,HR⟩:=hrel;obtain ⟨hcr,hfr⟩:=aA HR.out.1
          by_cases hlt:k<ls
          ·have HAr:=hide (HP.out.on (below_on HB0.out HR.out.1)).s;obtain ⟨a',c',e',_,_,hcell⟩:=HAr.out;obtain ⟨b,off,l,rfl,hll,hcs,hv⟩:=hcell k (by rw [HLS.out];exact hlt);rw [HLS.out] at e';injection e' with e1 e2 e3;clear e2 e3 hcell;subst e1;obtain ⟨x,hx⟩:∃ x,sL.getD k hz=x:=⟨_,rfl⟩;have HS:=hide (HR.out.2.trans (jJ (jE d n) hz sL k (by rw [HLS.out];exact hlt)));rw [hx] at hv HS;clear hx;obtain ⟨xw,xd,xp,rfl,q1,q2,q3,q4⟩:=hv;obtain ⟨wa,wc,rfl⟩:=q1.shape;obtain ⟨da2,dc2,rfl⟩:=q2.shape;obtain ⟨pa,pc,rfl⟩:=q3.shape;obtain ⟨lw,hx1⟩:∃ k,x.pick.wins.length=k:=⟨_,rfl⟩;obtain ⟨l2,hx2⟩:∃ k,x.deli.wins.length=k:=⟨_,rfl⟩;obtain ⟨l3,hx3⟩:∃ k,x.amt.length=k:=⟨_,rfl⟩;unfold rP at hcs;rw [hx1,hx2,hx3] at hcs;rw [hx1] at q1;rw [hx2] at q2;rw [hx3] at q3;have Q1:=hide q1;have Q2:=hide q2;have Q3:=hide q3;clear hx1 hx2 hx3 q1 q2 q3 q4;have c0:wr.cell? ⟨b,off+k*9,none⟩=some (.int .i64 x.pick.place):=hcs 0 (by decide);have c1:wr.cell? ⟨b,off+k*9+1,none⟩=some (.int .i64 x.pick.serv):=hcs 1 (by decide);have c2:wr.cell? ⟨b,off+k*9+2,none⟩=some (.slice wa lw wc):=hcs 2 (by decide);have c3:wr.cell? ⟨b,off+k*9+3,none⟩=some (.int .i64 x.deli.place):=hcs 3 (by decide);have c4:wr.cell? ⟨b,off+k*9+4,none⟩=some (.int .i64 x.deli.serv):=hcs 4 (by decide);have c5:wr.cell? ⟨b,off+k*9+5,none⟩=some (.slice da2 l2 dc2):=hcs 5 (by decide);have c6:wr.cell? ⟨b,off+k*9+6,none⟩=some (.slice pa l3 pc):=hcs 6 (by decide);have c7:wr.cell? ⟨b,off+k*9+7,none⟩=some (.int .u64 x.skills):=hcs 7 (by decide);have c8:wr.cell? ⟨b,off+k*9+8,none⟩=some (.int .i64 x.prio):=hcs 8 (by decide);have hwl:w.heap.size<wr.heap.size:=by have:=HR.out.1.size;simp at this;omega
           clear hcs hll;have j3:(k:Int)<(ls:Int):=by omega
           obtain ⟨p1,g1⟩:∃ b,oD n x.pick=b:=⟨_,rfl⟩;have P1:=hide g1;obtain ⟨p2,g2⟩:∃ b,oD n x.deli=b:=⟨_,rfl⟩;have P2:=hide g2;obtain ⟨p3,g3⟩:∃ b,pI x.amt d=b:=⟨_,rfl⟩;have P3:=hide g3;obtain ⟨p4,g4⟩:∃ b,wL x.skills=b:=⟨_,rfl⟩;have P4:=hide g4;obtain ⟨p5,g5⟩:∃ b,upB x.prio 100=b:=⟨_,rfl⟩;have P5:=hide g5;obtain ⟨z3,hz3⟩:∃ z,fY x.amt d=z:=⟨_,rfl⟩;have Z3:=hide hz3;have y3:(z3 != 0)=!p3:=by rw [nz,← hz3];exact congrArg _ P3.out
           clear hz3;rw [show jE d n x=(p1 && p2 && p3 && p4 && p5) from by unfold jE;rw [g1,g2,g3,g4,g5]] at HS;clear g1 g2 g3 g4 g5;have HE:Hid (Below wr.heap.size wr (wr.alloc (.cells #[.int .i64 x.pick.place,.int .i64 x.pick.serv,.slice wa lw wc,.int .i64 x.deli.place,.int .i64 x.deli.serv,.slice da2 l2 dc2,.slice pa l3 pc,.int .u64 x.skills,.int .i64 x.prio] 103))):=Mn.a
           cases p1 with
           | false =>
            go_wp2_with (first
             | (go_at_call 59;refine (bI _ _ _).mono ?_;rintro e w' ⟨rfl,rfl⟩;rw [P5.out])
             | (go_at_call 85;refine (cC _ (Q3.out.on K3r.out)).mono ?_;rintro e w' ⟨rfl,rfl⟩;rw [Z3.out])
             | (go_at_call 84;refine (bP (s:=x.deli) _ (Q2.out.on K3r.out) HN.out.1 HN.out.2.1).mono ?_;rintro e w4 ⟨rfl,k4⟩;rw [P2.out];have K4:=hide (below_on K3.out k4);have K4r:=hide (below_on K3r.out k4);obtain ⟨hc4,hf4⟩:=aA (below_on KX.out k4);obtain ⟨hk4,hkf4⟩:=aA K4.out;clear k4 hc3 hf3 hk3 hkf3 K3 K3r;have K3:=K4;have K3r:=K4r;clear K4 K4r)
             | (go_at_call 84;refine (bP (s:=x.pick) _ (Q1.out.on HE.out) HN.out.1 HN.out.2.1).mono ?_;rintro e w3 ⟨rfl,k3⟩;rw [P1.out];obtain ⟨hc3,hf3⟩:=aA k3;have K3:=hide (below_on (below_on HR.out.1 HE.out) k3);have K3r:=hide (below_on HE.out k3);obtain ⟨hk3,hkf3⟩:=aA K3.out;have KX:=hide k3;clear k3))
            go_ret;exact ⟨by rw [HC.out,E4.out,E5.out,show b6=false from by rw [← H6.out,HS.out];simp];first | rfl | simp,below_on HB0.out K3.out⟩
           | true =>
            cases p2 with
            | false =>
             go_wp2_with (first
              | (go_at_call 59;refine (bI _ _ _).mono ?_;rintro e w' ⟨rfl,rfl⟩;rw [P5.out])
              | (go_at_call 85;refine (cC _ (Q3.out.on K3r.out)).mono ?_;rintro e w' ⟨rfl,rfl⟩;rw [Z3.out])
              | (go_at_call 84;refine (bP (s:=x.deli) _ (Q2.out.on K3r.out) HN.out.1 HN.out.2.1).mono ?_;rintro e w4 ⟨rfl,k4⟩;rw [P2.out];have K4:=hide (below_on K3.out k4);have K4r:=hide (below_on K3r.out k4);obtain ⟨hc4,hf4⟩:=aA (below_on KX.out k4);obtain ⟨hk4,hkf4⟩:=aA K4.out;clear k4 hc3 hf3 hk3 hkf3 K3 K3r;have K3:=K4;have K3r:=K4r;clear K4 K4r)
              | (go_at_call 84;refine (bP (s:=x.pick) _ (Q1.out.on HE.out) HN.out.1 HN.out.2.1).mono ?_;rintro e w3 ⟨rfl,k3⟩;rw [P1.out];obtain ⟨hc3,hf3⟩:=aA k3;have K3:=hide (below_on (below_on HR.out.1 HE.out) k3);have K3r:=hide (below_on HE.out k3);obtain ⟨hk3,hkf3⟩:=aA K3.out;have KX:=hide k3;clear k3))
             go_ret;exact ⟨by rw [HC.out,E4.out,E5.out,show b6=false from by rw [← H6.out,HS.out];simp];first | rfl | simp,below_on HB0.out K3.out⟩
            | true =>
             cases p3 with
             | false =>
              go_wp2_with (first
               | (go_at_call 59;refine (bI _ _ _).mono ?_;rintro e w' ⟨rfl,rfl⟩;rw [P5.out])
               | (go_at_call 85;refine (cC _ (Q3.out.on K3r.out)).mono ?_;rintro e w' ⟨rfl,rfl⟩;rw [Z3.out])
               | (go_at_call 84;refine (bP (s:=x.deli) _ (Q2.out.on K3r.out) HN.out.1 HN.out.2.1).mono ?_;rintro e w4 ⟨rfl,k4⟩;rw [P2.out];have K4:=hide (below_on K3.out k4);have K4r:=hide (below_on K3r.out k4);obtain ⟨hc4,hf4⟩:=aA (below_on KX.out k4);obtain ⟨hk4,hkf4⟩:=aA K4.out;clear k4 hc3 hf3 hk3 hkf3 K3 K3r;have K3:=K4;have K3r:=K4r;clear K4 K4r)
               | (go_at_call 84;refine (bP (s:=x.pick) _ (Q1.out.on HE.out) HN.out.1 HN.out.2.1).mono ?_;rintro e w3 ⟨rfl,k3⟩;rw [P1.out];obtain ⟨hc3,hf3⟩:=aA k3;have K3:=hide (below_on (below_on HR.out.1 HE.out) k3);have K3r:=hide (below_on HE.out k3);obtain ⟨hk3,hkf3⟩:=aA K3.out;have KX:=hide k3;clear k3))
              go_ret;exact ⟨by rw [HC.out,E4.out,E5.out,show b6=false from by rw [← H6.out,HS.out];simp];first | rfl | simp,below_on HB0.out K3.out⟩
             | true =>
              cases p4 with
              | false =>
               have i9:=zA P4.out
               go_wp2_with (first
                | (go_at_call 59;refine (bI _ _ _).mono ?_;rintro e w' ⟨rfl,rfl⟩;rw [P5.out])
                | (go_at_call 85;refine (cC _ (Q3.out.on K3r.out)).mono ?_;rintro e w' ⟨rfl,rfl⟩;rw [Z3.out])
                | (go_at_call 84;refine (bP (s:=x.deli) _ (Q2.out.on K3r.out) HN.out.1 HN.out.2.1).mono ?_;rintro e w4 ⟨rfl,k4⟩;rw [P2.out];have K4:=hide (below_on K3.out k4);have K4r:=hide (below_on K3r.out k4);obtain ⟨hc4,hf4⟩:=aA (below_on KX.out k4);obtain ⟨hk4,hkf4⟩:=aA K4.out;clear k4 hc3 hf3 hk3 hkf3 K3 K3r;have K3:=K4;have K3r:=K4r;clear K4 K4r)
                | (go_at_call 84;refine (bP (s:=x.pick) _ (Q1.out.on HE.out) HN.out.1 HN.out.2.1).mono ?_;rintro e w3 ⟨rfl,k3⟩;rw [P1.out];obtain ⟨hc3,hf3⟩:=aA k3;have K3:=hide (below_on (below_on HR.out.1 HE.out) k3);have K3r:=hide (below_on HE.out k3);obtain ⟨hk3,hkf3⟩:=aA K3.out;have KX:=hide k3;clear k3))
               go_ret;exact ⟨by rw [HC.out,E4.out,E5.out,show b6=false from by rw [← H6.out,HS.out];simp];first | rfl | simp,below_on HB0.out K3.out⟩
              | true =>
               have i9:=uM P4.out
               cases p5 with
               | false =>
                go_wp2_with (first
                 | (go_at_call 59;refine (bI _ _ _).mono ?_;rintro e w' ⟨rfl,rfl⟩;rw [P5.out])
                 | (go_at_call 85;refine (cC _ (Q3.out.on K3r.out)).mono ?_;rintro e w' ⟨rfl,rfl⟩;rw [Z3.out])
                 | (go_at_call 84;refine (bP (s:=x.deli) _ (Q2.out.on K3r.out) HN.out.1 HN.out.2.1).mono ?_;rintro e w4 ⟨rfl,k4⟩;rw [P2.out];have K4:=hide (below_on K3.out k4);have K4r:=hide (below_on K3r.out k4);obtain ⟨hc4,hf4⟩:=aA (below_on KX.out k4);obtain ⟨hk4,hkf4⟩:=aA K4.out;clear k4 hc3 hf3 hk3 hkf3 K3 K3r;have K3:=K4;have K3r:=K4r;clear K4 K4r)
                 | (go_at_call 84;refine (bP (s:=x.pick) _ (Q1.out.on HE.out) HN.out.1 HN.out.2.1).mono ?_;rintro e w3 ⟨rfl,k3⟩;rw [P1.out];obtain ⟨hc3,hf3⟩:=aA k3;have K3:=hide (below_on (below_on HR.out.1 HE.out) k3);have K3r:=hide (below_on HE.out k3);obtain ⟨hk3,hkf3⟩:=aA K3.out;have KX:=hide k3;clear k3))
                go_ret;exact ⟨by rw [HC.out,E4.out,E5.out,show b6=false from by rw [← H6.out,HS.out];simp];first | rfl | simp,below_on HB0.out K3.out⟩
               | true =>
                go_wp2_with (first
                 | (go_at_call 59;refine (bI _ _ _).mono ?_;rintro e w' ⟨rfl,rfl⟩;rw [P5.out])
                 | (go_at_call 85;refine (cC _ (Q3.out.on K3r.out)).mono ?_;rintro e w' ⟨rfl,rfl⟩;rw [Z3.out])
                 | (go_at_call 84;refine (bP (s:=x.deli) _ (Q2.out.on K3r.out) HN.out.1 HN.out.2.1).mono ?_;rintro e w4 ⟨rfl,k4⟩;rw [P2.out];have K4:=hide (below_on K3.out k4);have K4r:=hide (below_on K3r.out k4);obtain ⟨hc4,hf4⟩:=aA (below_on KX.out k4);obtain ⟨hk4,hkf4⟩:=aA K4.out;clear k4 hc3 hf3 hk3 hkf3 K3 K3r;have K3:=K4;have K3r:=K4r;clear K4 K4r)
                 | (go_at_call 84;refine (bP (s:=x.pick) _ (Q1.out.on HE.out) HN.out.1 HN.out.2.1).mono ?_;rintro e w3 ⟨rfl,k3⟩;rw [P1.out];obtain ⟨hc3,hf3⟩:=aA k3;have K3:=hide (below_on (below_on HR.out.1 HE.out) k3);have K3r:=hide (below_on HE.out k3);obtain ⟨hk3,hkf3⟩:=aA K3.out;have KX:=hide k3;clear k3))
                go_roundw
                case rel=>exact ⟨k+1,by go_num,by omega,K3.out,by rw [HS.out];simp⟩
                case measure=>simp [intOf];omega
          ·have j3:¬ (k:Int)<(ls:Int):=by omega
           have E6:Hid (b6=true):=by show _=_;rw [← H6.out,HR.out.2];exact mA _ sL k (by rw [HLS.out];exact hlt)
           go_wp2;go_ret;exact ⟨by rw [HC.out,E4.out,E5.out,E6.out];rfl,below_on HB0.out HR.out.1⟩
theorem m6 {w:World} {x:aU} {p:Prb} (h:PrbV w x p):Calls Try.prog 16 #[.agg (aL p x)] w fun e w'=>e=.returned (.bool (aY p))∧Below w.heap.size w w':=by
 obtain ⟨ta,tc,da,dc,va,vc,ja,jc,sa,sc,rfl⟩:=h.open;have HP:=hide h;clear h;obtain ⟨z,hz⟩:∃ z,oT p=z:=⟨_,rfl⟩;have HZ:=hide hz;unfold aY;rw [hz];clear hz;have HB0:Hid (∀ A,Below w.heap.size w (w.alloc A)):=fun A=>(Below.refl _ _).alloc (Nat.le_refl _) A;have hd:(z == 0)=decide (z=0):=by by_cases e:z=0 <;> simp [e]
 unfold aL;go_enter Try.func16,Try.ntmps16
 go_wp2_with (first
  | (go_at_call 52;refine (zH (HP.out.on (HB0.out _))).mono ?_;rintro e w1 ⟨rfl,k1⟩;rw [HZ.out];have K1:=hide k1;clear k1))
 go_ret;exact ⟨rfl,below_on (HB0.out _) K1.out⟩
end Go.Proofs.Ytgjpkpmikbpcnaa
