import Derived.Test.YtgjpkpmikbpcnaaOStpAG
namespace Go.Proofs.Ytgjpkpmikbpcnaa
open Go.RowKit
theorem fT (w:World) (x y:Int):WinsV (w.alloc (.cells #[.int .i64 x,.int .i64 y] 61)) (.slice (some ⟨w.heap.size,0,none⟩) 1 1) [(x,y)]:=by
 have hr:=heap_alloc_new w (.cells #[.int .i64 x,.int .i64 y] 61);refine ⟨_,1,rfl,(fun e=>by cases e),rfl,by simp,fun k hk=>⟨w.heap.size,0,rfl,?_⟩⟩;have:k=0:=by simp at hk;omega
 subst this;exact ⟨by rw [cell_of_row _ _ _ _ _ _ hr];rfl,by rw [cell_of_row _ _ _ _ _ _ hr];rfl⟩
theorem uM {x:Int} (h:wL x=true):x<4611686018427387904:=of_decide_eq_true h
theorem zA {x:Int} (h:wL x=false):¬ x<4611686018427387904:=of_decide_eq_false h
set_option maxRecDepth 100000 in
set_option maxHeartbeats 3200000 in
theorem mZ {w:World} (n d:Int) {l:List Value} {j:Veh} (h:VehV w l j) (hn:1≤n) (hn2:n≤32):Calls Try.prog 83 #[.agg l.toArray,.int .i64 d,.int .i64 n] w fun e w'=>e=.returned (.bool (pE d n j))∧Below w.heap.size w w':=by
 obtain ⟨xc,xb,rfl,hc,hk,hs⟩:=h;obtain ⟨ca,cc,rfl⟩:=hc.shape;obtain ⟨ka,kc,rfl⟩:=SlV.shape hk;have HC:=hide hc;have HK:=hide hk;unfold pE kF;obtain ⟨s1,s2,s3,s4,⟨f1,f2⟩,s6,s7,s8,s9,s10⟩:=j;simp only at HC HK hs ⊢;clear hc hk;obtain ⟨b1,h1⟩:∃ b,upB s1 (n-1)=b:=⟨_,rfl⟩;have H1:=hide h1;obtain ⟨b2,h2⟩:∃ b,upB s2 (n-1)=b:=⟨_,rfl⟩;have H2:=hide h2;obtain ⟨b3,h3⟩:∃ b,pI s3 d=b:=⟨_,rfl⟩;have H3:=hide h3;obtain ⟨b4,h4⟩:∃ b,wL s4=b:=⟨_,rfl⟩;have H4:=hide h4;obtain ⟨b5,h5⟩:∃ b,uI [(f1,f2)]=b:=⟨_,rfl⟩;have H5:=hide h5;obtain ⟨b6,h6⟩:∃ b,upB s6 1000000=b:=⟨_,rfl⟩;have H6:=hide h6;obtain ⟨b7,h7⟩:∃ b,upB s7 1000000=b:=⟨_,rfl⟩;have H7:=hide h7;obtain ⟨b8,h8⟩:∃ b,upB s8 1000000=b:=⟨_,rfl⟩;have H8:=hide h8;obtain ⟨b9,h9⟩:∃ b,upB s9 12=b:=⟨_,rfl⟩;have H9:=hide h9;obtain ⟨b10,h10⟩:∃ b,twoB s10=b:=⟨_,rfl⟩;have H10:=hide h10;obtain ⟨b11,h11⟩:∃ b,s10.all rL=b:=⟨_,rfl⟩;have H11:=hide h11;rw [h1,h2,h3,h4,h5,h6,h7,h8,h9,h10,h11];clear h1 h2 h3 h4 h5 h6 h7 h8 h9 h10 h11;obtain ⟨lb,hlb⟩:∃ lb,s10.length=lb:=⟨_,rfl⟩;obtain ⟨lc,hlc⟩:∃ lc,s3.length=lc:=⟨_,rfl⟩;have HLB:Hid (decide (lb≤2)=b10):=by rw [← hlb];exact H10.out
 have HLC:=hide hlc;have HLL:=hide hlb;rw [hlb] at HK ⊢;rw [hlc] at HC ⊢;clear hlb H10 hlc;obtain ⟨ca',cc',ce,_,hcb,hCA⟩:=HC.out;rw [HLC.out] at ce hcb;injection ce with ce1 ce2 ce3;subst ce1;have HCA:=hide hCA;clear hCA ce2 ce3;obtain ⟨z,hz⟩:∃ z,fY s3 d=z:=⟨_,rfl⟩;have HZ:=hide hz;have HZB:Hid (decide (z=0)=b3):=by rw [← hz];exact H3.out
 clear hz;have hzb:(z == 0)=b3:=by rw [← HZB.out];by_cases e:z=0 <;> simp [e]
 have HB0:Hid (Below w.heap.size w (w.alloc (.cells #[.int .i64 s1,.int .i64 s2,.slice ca lc cc,.int .u64 s4,.int .i64 f1,.int .i64 f2,.int .i64 s6,.int .i64 s7,.int .i64 s8,.int .i64 s9,.slice ka lb kc] 86))):=Mn.a;have HWD:=hide hs;clear hs
 cases b10 with
 | false =>
  have i10:(2:Int)<(lb:Int):=by have:=of_decide_eq_false HLB.out;omega
  go_enter Try.func83,Try.ntmps83;go_wp2;go_ret;exact ⟨by simp,HB0.out⟩
 | true =>
  have i10:¬ (2:Int)<(lb:Int):=by have:=of_decide_eq_true HLB.out;omega
  go_enter Try.func83,Try.ntmps83;go_wp2
  go_loopw [7] (fun vi wr=>∃ k:Nat,vi=.int .i64 k∧k≤lb∧Hid (Below (w.alloc (.cells #[.int .i64 s1,.int .i64 s2,.slice ca lc cc,.int .u64 s4,.int .i64 f1,.int .i64 f2,.int .i64 s6,.int .i64 s7,.int .i64 s8,.int .i64 s9,.slice ka lb kc] 86)).heap.size (w.alloc (.cells #[.int .i64 s1,.int .i64 s2,.slice ca lc cc,.int .u64 s4,.int .i64 f1,.int .i64 f2,.int .i64 s6,.int .i64 s7,.int .i64 s8,.int .i64 s9,.slice ka lb kc] 86)) wr∧s10.all rL=(s10.drop k).all rL)) (fun vi _=>lb-(intOf vi).toNat)
  case atStart=>exact ⟨0,rfl,Nat.zero_le _,Below.refl _ _,by rw [List.drop_zero]⟩
  case round =>
   obtain ⟨k,rfl,hk,HR⟩:=hrel;obtain ⟨hcr,hfr⟩:=aA HR.out.1
   by_cases hlt:k<lb
   ·have HAr:=hide (BrksV.on (HK.out.on HB0.out) HR.out.1);obtain ⟨a',c',e',_,_,hcell⟩:=HAr.out;obtain ⟨b,off,l,rfl,hll,hcs,hv⟩:=hcell k (by rw [HLL.out];exact hlt);rw [HLL.out] at e';injection e' with e1 e2 e3;clear e2 e3 hcell;subst e1;obtain ⟨x,hx⟩:∃ x,s10.getD k bz=x:=⟨_,rfl⟩;have HS:=hide (HR.out.2.trans (jJ rL bz s10 k (by rw [HLL.out];exact hlt)));rw [hx] at hv HS;clear hx;obtain ⟨xw,rfl,hx⟩:=hv;obtain ⟨xa,xc,rfl⟩:=hx.shape;have HX:=hide hx;clear hx;obtain ⟨lx,hlx⟩:∃ lx,x.wins.length=lx:=⟨_,rfl⟩;have c0:wr.cell? ⟨b,off+k*2,none⟩=some (.slice xa lx xc):=by rw [← hlx];exact hcs 0 (by decide)
    have c1:wr.cell? ⟨b,off+k*2+1,none⟩=some (.int .i64 x.serv):=hcs 1 (by decide);rw [hlx] at HX;clear hcs hll hlx;have i3:(k:Int)<(lb:Int):=by omega
    unfold rL at HS;obtain ⟨p1,g1⟩:∃ b,uI x.wins=b:=⟨_,rfl⟩;obtain ⟨p2,g2⟩:∃ b,upB x.serv 1000000=b:=⟨_,rfl⟩;have G1:=hide g1;have G2:=hide g2;rw [g1,g2] at HS;clear g1 g2
    cases p1 with
    | false =>
     go_wp2_with (first
      | (go_at_call 118;refine (cY HX.out).mono ?_;rintro e w2 ⟨rfl,k2⟩;rw [G1.out];have K2:=hide (below_on HR.out.1 k2);clear k2))
     go_ret;exact ⟨by rw [← H11.out];unfold rL;rw [HS.out];simp,below_on HB0.out K2.out⟩
    | true =>
     cases p2 with
     | false =>
      go_wp2_with (first
       | (go_at_call 59;refine (bI _ _ _).mono ?_;rintro e w' ⟨rfl,rfl⟩;rw [G2.out])
       | (go_at_call 118;refine (cY HX.out).mono ?_;rintro e w2 ⟨rfl,k2⟩;rw [G1.out];have K2:=hide (below_on HR.out.1 k2);obtain ⟨hc2,hf2⟩:=aA K2.out;have c1':=(aA k2).1 b (off+k*2+1) (block_lt_of_cell c1);rw [c1] at c1';clear k2))
      go_ret;exact ⟨by rw [← H11.out];unfold rL;rw [HS.out];simp,below_on HB0.out K2.out⟩
     | true =>
      go_wp2_with (first
       | (go_at_call 59;refine (bI _ _ _).mono ?_;rintro e w' ⟨rfl,rfl⟩;rw [G2.out])
       | (go_at_call 118;refine (cY HX.out).mono ?_;rintro e w2 ⟨rfl,k2⟩;rw [G1.out];have K2:=hide (below_on HR.out.1 k2);obtain ⟨hc2,hf2⟩:=aA K2.out;have c1':=(aA k2).1 b (off+k*2+1) (block_lt_of_cell c1);rw [c1] at c1';clear k2))
      go_roundw
      case rel=>exact ⟨k+1,by go_num,by omega,K2.out,by unfold rL;rw [HS.out];simp⟩
      case measure=>simp [intOf];omega
   ·have i3:¬ (k:Int)<(lb:Int):=by omega
    have E:Hid (b11=true):=by show _=_;rw [← H11.out,HR.out.2];exact mA rL s10 k (by rw [HLL.out];exact hlt)
    cases b1 with
    | false =>
     go_wp2_with (first
      | (go_at_call 118;refine (cY (fT _ _ _)).mono ?_;rintro e w4 ⟨rfl,k4⟩;rw [H5.out];have K4:=hide (below_on (below_on HR.out.1 Mn.a) k4);obtain ⟨hc4,hf4⟩:=aA K4.out;clear k4)
      | (go_at_call 85;refine (cV _ ((HCA.out.later (HB0.out)).later HR.out.1) HLC.out (by omega)).mono ?_;rintro e w' ⟨rfl,rfl⟩;rw [HZ.out])
      | (go_at_call 59;refine (bI _ _ _).mono ?_;rintro e w' ⟨rfl,rfl⟩;first | rw [H1.out] | rw [H2.out] | rw [H6.out] | rw [H7.out] | rw [H8.out] | rw [H9.out]))
     go_ret
     first
      | exact ⟨by first | (rw [E.out];simp) | simp,below_on HB0.out K4.out⟩
      | exact ⟨by first | (rw [E.out];simp) | simp,below_on HB0.out HR.out.1⟩
    | true =>
     cases b2 with
     | false =>
      go_wp2_with (first
       | (go_at_call 118;refine (cY (fT _ _ _)).mono ?_;rintro e w4 ⟨rfl,k4⟩;rw [H5.out];have K4:=hide (below_on (below_on HR.out.1 Mn.a) k4);obtain ⟨hc4,hf4⟩:=aA K4.out;clear k4)
       | (go_at_call 85;refine (cV _ ((HCA.out.later (HB0.out)).later HR.out.1) HLC.out (by omega)).mono ?_;rintro e w' ⟨rfl,rfl⟩;rw [HZ.out])
       | (go_at_call 59;refine (bI _ _ _).mono ?_;rintro e w' ⟨rfl,rfl⟩;first | rw [H1.out] | rw [H2.out] | rw [H6.out] | rw [H7.out] | rw [H8.out] | rw [H9.out]))
      go_ret
      first
       | exact ⟨by first | (rw [E.out];simp) | simp,below_on HB0.out K4.out⟩
       | exact ⟨by first | (rw [E.out];simp) | simp,below_on HB0.out HR.out.1⟩
     | true =>
      cases b3 with
      | false =>
       go_wp2_with (first
        | (go_at_call 118;refine (cY (fT _ _ _)).mono ?_;rintro e w4 ⟨rfl,k4⟩;rw [H5.out];have K4:=hide (below_on (below_on HR.out.1 Mn.a) k4);obtain ⟨hc4,hf4⟩:=aA K4.out;clear k4)
        | (go_at_call 85;refine (cV _ ((HCA.out.later (HB0.out)).later HR.out.1) HLC.out (by omega)).mono ?_;rintro e w' ⟨rfl,rfl⟩;rw [HZ.out])
        | (go_at_call 59;refine (bI _ _ _).mono ?_;rintro e w' ⟨rfl,rfl⟩;first | rw [H1.out] | rw [H2.out] | rw [H6.out] | rw [H7.out] | rw [H8.out] | rw [H9.out]))
       go_ret
       first
        | exact ⟨by first | (rw [E.out];simp) | simp,below_on HB0.out K4.out⟩
        | exact ⟨by first | (rw [E.out];simp) | simp,below_on HB0.out HR.out.1⟩
      | true =>
       cases b4 with
       | false =>
        have i4:=zA H4.out
        go_wp2_with (first
         | (go_at_call 118;refine (cY (fT _ _ _)).mono ?_;rintro e w4 ⟨rfl,k4⟩;rw [H5.out];have K4:=hide (below_on (below_on HR.out.1 Mn.a) k4);obtain ⟨hc4,hf4⟩:=aA K4.out;clear k4)
         | (go_at_call 85;refine (cV _ ((HCA.out.later (HB0.out)).later HR.out.1) HLC.out (by omega)).mono ?_;rintro e w' ⟨rfl,rfl⟩;rw [HZ.out])
         | (go_at_call 59;refine (bI _ _ _).mono ?_;rintro e w' ⟨rfl,rfl⟩;first | rw [H1.out] | rw [H2.out] | rw [H6.out] | rw [H7.out] | rw [H8.out] | rw [H9.out]))
        go_ret
        first
         | exact ⟨by first | (rw [E.out];simp) | simp,below_on HB0.out K4.out⟩
         | exact ⟨by first | (rw [E.out];simp) | simp,below_on HB0.out HR.out.1⟩
       | true =>
        have i4:=uM H4.out
        cases b5 with
        | false =>
         go_wp2_with (first
          | (go_at_call 118;refine (cY (fT _ _ _)).mono ?_;rintro e w4 ⟨rfl,k4⟩;rw [H5.out];have K4:=hide (below_on (below_on HR.out.1 Mn.a) k4);obtain ⟨hc4,hf4⟩:=aA K4.out;clear k4)
          | (go_at_call 85;refine (cV _ ((HCA.out.later (HB0.out)).later HR.out.1) HLC.out (by omega)).mono ?_;rintro e w' ⟨rfl,rfl⟩;rw [HZ.out])
          | (go_at_call 59;refine (bI _ _ _).mono ?_;rintro e w' ⟨rfl,rfl⟩;first | rw [H1.out] | rw [H2.out] | rw [H6.out] | rw [H7.out] | rw [H8.out] | rw [H9.out]))
         go_ret
         first
          | exact ⟨by first | (rw [E.out];simp) | simp,below_on HB0.out K4.out⟩
          | exact ⟨by first | (rw [E.out];simp) | simp,below_on HB0.out HR.out.1⟩
        | true =>
         cases b6 with
         | false =>
          go_wp2_with (first
           | (go_at_call 118;refine (cY (fT _ _ _)).mono ?_;rintro e w4 ⟨rfl,k4⟩;rw [H5.out];have K4:=hide (below_on (below_on HR.out.1 Mn.a) k4);obtain ⟨hc4,hf4⟩:=aA K4.out;clear k4)
           | (go_at_call 85;refine (cV _ ((HCA.out.later (HB0.out)).later HR.out.1) HLC.out (by omega)).mono ?_;rintro e w' ⟨rfl,rfl⟩;rw [HZ.out])
           | (go_at_call 59;refine (bI _ _ _).mono ?_;rintro e w' ⟨rfl,rfl⟩;first | rw [H1.out] | rw [H2.out] | rw [H6.out] | rw [H7.out] | rw [H8.out] | rw [H9.out]))
          go_ret
          first
           | exact ⟨by first | (rw [E.out];simp) | simp,below_on HB0.out K4.out⟩
           | exact ⟨by first | (rw [E.out];simp) | simp,below_on HB0.out HR.out.1⟩
         | true =>
          cases b7 with
          | false =>
           go_wp2_with (first
            | (go_at_call 118;refine (cY (fT _ _ _)).mono ?_;rintro e w4 ⟨rfl,k4⟩;rw [H5.out];have K4:=hide (below_on (below_on HR.out.1 Mn.a) k4);obtain ⟨hc4,hf4⟩:=aA K4.out;clear k4)
            | (go_at_call 85;refine (cV _ ((HCA.out.later (HB0.out)).later HR.out.1) HLC.out (by omega)).mono ?_;rintro e w' ⟨rfl,rfl⟩;rw [HZ.out])
            | (go_at_call 59;refine (bI _ _ _).mono ?_;rintro e w' ⟨rfl,rfl⟩;first | rw [H1.out] | rw [H2.out] | rw [H6.out] | rw [H7.out] | rw [H8.out] | rw [H9.out]))
           go_ret
           first
            | exact ⟨by first | (rw [E.out];simp) | simp,below_on HB0.out K4.out⟩
            | exact ⟨by first | (rw [E.out];simp) | simp,below_on HB0.out HR.out.1⟩
          | true =>
           cases b8 with
           | false =>
            go_wp2_with (first
             | (go_at_call 118;refine (cY (fT _ _ _)).mono ?_;rintro e w4 ⟨rfl,k4⟩;rw [H5.out];have K4:=hide (below_on (below_on HR.out.1 Mn.a) k4);obtain ⟨hc4,hf4⟩:=aA K4.out;clear k4)
             | (go_at_call 85;refine (cV _ ((HCA.out.later (HB0.out)).later HR.out.1) HLC.out (by omega)).mono ?_;rintro e w' ⟨rfl,rfl⟩;rw [HZ.out])
             | (go_at_call 59;refine (bI _ _ _).mono ?_;rintro e w' ⟨rfl,rfl⟩;first | rw [H1.out] | rw [H2.out] | rw [H6.out] | rw [H7.out] | rw [H8.out] | rw [H9.out]))
            go_ret
            first
             | exact ⟨by first | (rw [E.out];simp) | simp,below_on HB0.out K4.out⟩
             | exact ⟨by first | (rw [E.out];simp) | simp,below_on HB0.out HR.out.1⟩
           | true =>
            go_wp2_with (first
             | (go_at_call 118;refine (cY (fT _ _ _)).mono ?_;rintro e w4 ⟨rfl,k4⟩;rw [H5.out];have K4:=hide (below_on (below_on HR.out.1 Mn.a) k4);obtain ⟨hc4,hf4⟩:=aA K4.out;clear k4)
             | (go_at_call 85;refine (cV _ ((HCA.out.later (HB0.out)).later HR.out.1) HLC.out (by omega)).mono ?_;rintro e w' ⟨rfl,rfl⟩;rw [HZ.out])
             | (go_at_call 59;refine (bI _ _ _).mono ?_;rintro e w' ⟨rfl,rfl⟩;first | rw [H1.out] | rw [H2.out] | rw [H6.out] | rw [H7.out] | rw [H8.out] | rw [H9.out]))
            go_ret
            first
             | exact ⟨by first | (rw [E.out];simp) | simp,below_on HB0.out K4.out⟩
             | exact ⟨by first | (rw [E.out];simp) | simp,below_on HB0.out HR.out.1⟩
end Go.Proofs.Ytgjpkpmikbpcnaa
