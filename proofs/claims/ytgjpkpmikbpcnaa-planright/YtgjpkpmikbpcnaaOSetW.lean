import Derived.Test.YtgjpkpmikbpcnaaOPtsG
namespace Go.Proofs.Ytgjpkpmikbpcnaa
open Go.RowKit
def cI (n:Int) (s l:Nat):Nat:=if n≤(s:Int) then s else if n≤(l:Int) then n.toNat else l
def mY (V:List Vst):Nat→Nat→List Int→List Vst
 | _,s,[]=>V.drop s
 | i,s,n::A=>(V.drop s).take (cI n s V.length-s) ++ ((4,(i:Int))::mY V (i+1) (cI n s V.length) A)
def fB (V:List Vst) (A:List Int):List Vst:=mY V 0 0 A
theorem yfX {n:Int} {s l:Nat} (h:s≤l):s≤cI n s l∧cI n s l≤l:=by
 unfold cI
 split
 ·omega
 ·split <;> omega
theorem wM (V:List Vst):∀ (A:List Int) (i s:Nat),s≤V.length→(mY V i s A).length=V.length-s+A.length
 | [],i,s,h=>by simp [mY]
 | n::A,i,s,h=>by
  have hc:=yfX (n:=n) h;simp only [mY,List.length_append,List.length_cons,List.length_take,List.length_drop];rw [wM V A (i+1) _ hc.2]
  omega
theorem kN (V:List Vst) (A:List Int):(fB V A).length=V.length+A.length:=by unfold fB;rw [wM V A 0 0 (Nat.zero_le _)];omega
theorem lF {w:World} {b off m c s n:Nat} {V:List Vst} (h:VsV w (.slice (some ⟨b,off,none⟩) m c) V) (hm:V.length=m) (hs:s≤n) (hn:n≤m) {c':Nat}:VsV w (.slice (some ⟨b,off+s*2,none⟩) (n-s) c') ((V.drop s).take (n-s)):=by
 have hl:((V.drop s).take (n-s)).length=n-s:=by rw [List.length_take,List.length_drop];omega
 have hb:m*16≤140737488351232:=by obtain ⟨_,_,e,hb,_⟩:=h;rw [← hm];exact hb
 refine ⟨some ⟨b,off+s*2,none⟩,c',by rw [hl],by rw [hl];omega,fun k hk=>?_⟩;rw [hl] at hk;have hx:V[s+k]? = some (V[s+k]'(by omega)):=List.getElem?_eq_getElem _;obtain ⟨b',off',e,_,c1,c2,_⟩:=bL h hx;injection e with e;injection e with e1 e2 _;subst e1 e2
 have hd:((V.drop s).take (n-s)).getD k (0,0)=V[s+k]'(by omega):=by
  rw [List.getD_eq_getElem?_getD,List.getElem?_take_of_lt hk,List.getElem?_drop,hx];rfl
 refine ⟨b,off+s*2,rfl,?_,?_⟩
 ·rw [show off+s*2+k*2=off+(s+k)*2 by omega,c1];simp only [hd]
 ·rw [show off+s*2+k*2+1=off+(s+k)*2+1 by omega,c2];simp only [hd]
theorem gK {V:List Vst} {A:List Int} {P:List Vst} {q s c:Nat} {x:Int} (h:fB V A=P ++ mY V q s (A.drop q)) (hq:q<A.length) (hx:A[q]! = x) (hc:cI x s V.length=c):fB V A=((P ++ (V.drop s).take (c-s)) ++ [(4,(q:Int))]) ++ mY V (q+1) c (A.drop (q+1)):=by
 rw [h,List.drop_eq_getElem_cons hq];have:A[q]=x:=by rw [← hx,getElem!_pos A q hq]
 rw [this];simp only [mY,hc,List.append_assoc,List.cons_append,List.nil_append]
set_option maxRecDepth 100000 in
set_option maxHeartbeats 6400000 in
theorem uO {w:World} {b off m vc n ac:Nat} {aa:Option Addr} {V:List Vst} {A:List Int} (hV:VsV w (.slice (some ⟨b,off,none⟩) m vc) V) (hm:V.length=m) (hm2:m≤200) (hvc:m≤vc) (hA:IntsAt w aa A) (hn:A.length=n) (hn2:n≤10):Calls Try.prog 45 #[.slice (some ⟨b,off,none⟩) m vc,.slice aa n ac] w fun e w'=>∃ v,e=.returned v∧VRow w' w.heap.size v (fB V A)∧Below w.heap.size w w':=by
 have HV:=hide hV;have HM:=hide hm;have HA:=hide hA;have HN:=hide hn;have hw1:IntKind.i64.wrap ((m:Int)+(n:Int))=((m+n:Nat):Int):=by rw [IntKind.wrap_i64];omega
 clear hV hm hA hn;go_enter Try.func45,Try.ntmps45;go_wp2_with (first | (at_make;refine m5 rC Try.underlying55 (.const (.int .i64 0)) (.tmp 13) rfl rfl (n:=m+n) rfl rfl (by omega) (by omega) (by omega) ?_;intro w1 k1 k2 k3;have HR1:Hid (VRow w1 w.heap.size (.slice (some ⟨w.heap.size,0,none⟩) 0 (m+n)) []):=k1;have E1:=hide k2;clear k1 k2 k3) | fail)
 go_loopw [17,5,6] (fun vi v5 v6 wr=>∃ (q k s:Nat) (va:Option Addr) (cp:Nat) (P:List Vst),vi=.int .i64 q∧v5=.slice va k cp∧v6=.int .i64 s∧q≤n∧s≤m∧k≤s+q∧Hid (P.length=k∧fB V A=P ++ mY V q s (A.drop q))∧Hid (VRow wr w.heap.size (.slice va k cp) P)∧Hid (Below w.heap.size w wr)) (fun vi _ _ _=>n-(intOf vi).toNat)
 case atStart=>exact ⟨0,0,0,_,_,[],rfl,rfl,rfl,Nat.zero_le _,Nat.zero_le _,Nat.zero_le _,⟨rfl,by rw [List.drop_zero];rfl⟩,HR1.out,E1.out⟩
 case round =>
  clear HR1 E1;obtain ⟨q,k,s,va,cp,P,rfl,rfl,rfl,hq,hsm,hks,HPK,HR,HB⟩:=hrel;have HVr:=hide (PrV.on HV.out HB.out)
  by_cases hqn:q<n
  ·have i1:(q:Int)<(n:Int):=by omega
   have i2:(0:Int)≤(q:Int):=by omega
   have i3:¬ (n:Int)≤(q:Int):=by omega
   obtain ⟨ab,aoff,rfl,ca⟩:=HA.out q (by rw [HN.out];exact hqn);obtain ⟨x,hx⟩:∃ x,A[q]! = x:=⟨_,rfl⟩;rw [hx] at ca;have c1:wr.cell? ⟨ab,aoff+q,none⟩=some (.int .i64 x):=((aA HB.out).1 _ _ (block_lt_of_cell ca)).trans ca;have HAQ:=hide hx;clear ca hx
   by_cases hv:vc=s
   ·have hvz:vc-s=0:=by omega
    have HHV:=hide hv;clear hv
    rcases Int.lt_trichotomy x (s:Int) with h1 | h1 | h1
    ·have hcl:cI x s V.length=s:=by unfold cI;rw [HM.out];first | (rw [if_pos (by omega)];done) | (rw [if_neg (by omega),if_pos (by omega)];omega) | (rw [if_neg (by omega),if_neg (by omega)];omega) | (rw [if_neg (by omega),if_neg (by omega)])
     have HST:=hide (gK HPK.out.2 (by rw [HN.out];exact hqn) HAQ.out hcl);have HPT:Hid (VsV wr (.slice (some ⟨b,off,none⟩) 0 (0)) ((V.drop s).take (s-s))):=by rw [Nat.sub_self,List.take_zero];exact ⟨_,_,rfl,by simp,fun k hk=>by simp at hk⟩
     have HPL:Hid (((V.drop s).take (s-s)).length=0):=by show _=_;rw [List.length_take,List.length_drop,HM.out];omega
     clear hcl;go_wp2_with (first | (at_builtin;refine bS (w:=w2.alloc (.cells #[.int .i64 4,.int .i64 q] 34)) (V:=[(4,(q:Int))]) (.tmp 34) (.tmp 37) rfl rfl rfl rfl (HR2.out.later (Nat.le_refl _) Mn.a) HL2.out (gU (aF w2 _)) rfl (fun e=>by cases e) (by omega) HS2.out ?_;intro va3 c3 w3 r1 r2 _;have HR3:=hide r1;have B3:Hid (Below w.heap.size w w3):=(B2.out.alloc B2.out.size _).trans r2;clear r1 r2) | (at_builtin;refine bS (V:=((V.drop s).take (s-s))) (.tmp 28) (.tmp 32) rfl rfl rfl rfl HR.out HPK.out.1 HPT.out HPL.out (fun e=>by cases e) (by omega) HB.out.size ?_;intro va2 c2 w2 r1 r2 _;have HR2:=hide r1;have B2:Hid (Below w.heap.size w w2):=HB.out.trans r2;have HL2:Hid ((P ++ ((V.drop s).take (s-s))).length=k+(0)):=(by show _=_;rw [List.length_append,HPK.out.1,HPL.out]);have HS2:Hid (w.heap.size≤(w2.alloc (.cells #[.int .i64 4,.int .i64 q] 34)).heap.size):=(by show _≤_;have:=B2.out.size;simp;omega);clear r1 r2) | fail);go_roundw
     case rel=>exact ⟨q+1,k+(0)+1,s,va3,c3,(P ++ ((V.drop s).take (s-s))) ++ [(4,(q:Int))],by go_num,rfl,rfl,by omega,by omega,by omega,⟨by rw [List.length_append,HL2.out];rfl,HST.out⟩,HR3.out,B3.out⟩
     case measure=>simp [intOf];omega
    ·subst h1;have hcl:cI (s:Int) s V.length=s:=by unfold cI;rw [HM.out];first | (rw [if_pos (by omega)];done) | (rw [if_neg (by omega),if_pos (by omega)];omega) | (rw [if_neg (by omega),if_neg (by omega)];omega) | (rw [if_neg (by omega),if_neg (by omega)])
     have HST:=hide (gK HPK.out.2 (by rw [HN.out];exact hqn) HAQ.out hcl);have HPT:Hid (VsV wr (.slice (some ⟨b,off,none⟩) 0 (0)) ((V.drop s).take (s-s))):=by rw [Nat.sub_self,List.take_zero];exact ⟨_,_,rfl,by simp,fun k hk=>by simp at hk⟩
     have HPL:Hid (((V.drop s).take (s-s)).length=0):=by show _=_;rw [List.length_take,List.length_drop,HM.out];omega
     clear hcl;go_wp2_with (first | (at_builtin;refine bS (w:=w2.alloc (.cells #[.int .i64 4,.int .i64 q] 34)) (V:=[(4,(q:Int))]) (.tmp 34) (.tmp 37) rfl rfl rfl rfl (HR2.out.later (Nat.le_refl _) Mn.a) HL2.out (gU (aF w2 _)) rfl (fun e=>by cases e) (by omega) HS2.out ?_;intro va3 c3 w3 r1 r2 _;have HR3:=hide r1;have B3:Hid (Below w.heap.size w w3):=(B2.out.alloc B2.out.size _).trans r2;clear r1 r2) | (at_builtin;refine bS (V:=((V.drop s).take (s-s))) (.tmp 28) (.tmp 32) rfl rfl rfl rfl HR.out HPK.out.1 HPT.out HPL.out (fun e=>by cases e) (by omega) HB.out.size ?_;intro va2 c2 w2 r1 r2 _;have HR2:=hide r1;have B2:Hid (Below w.heap.size w w2):=HB.out.trans r2;have HL2:Hid ((P ++ ((V.drop s).take (s-s))).length=k+(0)):=(by show _=_;rw [List.length_append,HPK.out.1,HPL.out]);have HS2:Hid (w.heap.size≤(w2.alloc (.cells #[.int .i64 4,.int .i64 q] 34)).heap.size):=(by show _≤_;have:=B2.out.size;simp;omega);clear r1 r2) | fail);go_roundw
     case rel=>exact ⟨q+1,k+(0)+1,s,va3,c3,(P ++ ((V.drop s).take (s-s))) ++ [(4,(q:Int))],by go_num,rfl,rfl,by omega,by omega,by omega,⟨by rw [List.length_append,HL2.out];rfl,HST.out⟩,HR3.out,B3.out⟩
     case measure=>simp [intOf];omega
    ·have hsm2:s=m:=by have:=HHV.out;omega
     subst hsm2;have hcl:cI x s V.length=s:=by unfold cI;rw [HM.out];first | (rw [if_pos (by omega)];done) | (rw [if_neg (by omega),if_pos (by omega)];omega) | (rw [if_neg (by omega),if_neg (by omega)];omega) | (rw [if_neg (by omega),if_neg (by omega)])
     have HST:=hide (gK HPK.out.2 (by rw [HN.out];exact hqn) HAQ.out hcl);have HPT:Hid (VsV wr (.slice (some ⟨b,off,none⟩) 0 (0)) ((V.drop s).take (s-s))):=by rw [Nat.sub_self,List.take_zero];exact ⟨_,_,rfl,by simp,fun k hk=>by simp at hk⟩
     have HPL:Hid (((V.drop s).take (s-s)).length=0):=by show _=_;rw [List.length_take,List.length_drop,HM.out];omega
     clear hcl;go_wp2_with (first | (at_builtin;refine bS (w:=w2.alloc (.cells #[.int .i64 4,.int .i64 q] 34)) (V:=[(4,(q:Int))]) (.tmp 34) (.tmp 37) rfl rfl rfl rfl (HR2.out.later (Nat.le_refl _) Mn.a) HL2.out (gU (aF w2 _)) rfl (fun e=>by cases e) (by omega) HS2.out ?_;intro va3 c3 w3 r1 r2 _;have HR3:=hide r1;have B3:Hid (Below w.heap.size w w3):=(B2.out.alloc B2.out.size _).trans r2;clear r1 r2) | (at_builtin;refine bS (V:=((V.drop s).take (s-s))) (.tmp 28) (.tmp 32) rfl rfl rfl rfl HR.out HPK.out.1 HPT.out HPL.out (fun e=>by cases e) (by omega) HB.out.size ?_;intro va2 c2 w2 r1 r2 _;have HR2:=hide r1;have B2:Hid (Below w.heap.size w w2):=HB.out.trans r2;have HL2:Hid ((P ++ ((V.drop s).take (s-s))).length=k+(0)):=(by show _=_;rw [List.length_append,HPK.out.1,HPL.out]);have HS2:Hid (w.heap.size≤(w2.alloc (.cells #[.int .i64 4,.int .i64 q] 34)).heap.size):=(by show _≤_;have:=B2.out.size;simp;omega);clear r1 r2) | fail);go_roundw
     case rel=>exact ⟨q+1,k+(0)+1,s,va3,c3,(P ++ ((V.drop s).take (s-s))) ++ [(4,(q:Int))],by go_num,rfl,rfl,by omega,by omega,by omega,⟨by rw [List.length_append,HL2.out];rfl,HST.out⟩,HR3.out,B3.out⟩
     case measure=>simp [intOf];omega
   ·have hvz:¬ vc-s=0:=by omega
    rcases Int.lt_trichotomy x (s:Int) with h1 | h1 | h1
    ·have hcl:cI x s V.length=s:=by unfold cI;rw [HM.out];first | (rw [if_pos (by omega)];done) | (rw [if_neg (by omega),if_pos (by omega)];omega) | (rw [if_neg (by omega),if_neg (by omega)];omega) | (rw [if_neg (by omega),if_neg (by omega)])
     have HST:=hide (gK HPK.out.2 (by rw [HN.out];exact hqn) HAQ.out hcl);have HPT:Hid (VsV wr (.slice (some ⟨b,off+s*2,none⟩) (0) (vc-s)) ((V.drop s).take (s-s))):=by have h9:=lF (c':=vc-s) (s:=s) (n:=s) HVr.out HM.out (by omega) (by omega);first | exact h9 | (rw [Nat.sub_self] at h9 ⊢;exact h9)
     have HPL:Hid (((V.drop s).take (s-s)).length=0):=by show _=_;rw [List.length_take,List.length_drop,HM.out];omega
     clear hcl;go_wp2_with (first | (at_builtin;refine bS (w:=w2.alloc (.cells #[.int .i64 4,.int .i64 q] 34)) (V:=[(4,(q:Int))]) (.tmp 34) (.tmp 37) rfl rfl rfl rfl (HR2.out.later (Nat.le_refl _) Mn.a) HL2.out (gU (aF w2 _)) rfl (fun e=>by cases e) (by omega) HS2.out ?_;intro va3 c3 w3 r1 r2 _;have HR3:=hide r1;have B3:Hid (Below w.heap.size w w3):=(B2.out.alloc B2.out.size _).trans r2;clear r1 r2) | (at_builtin;refine bS (V:=((V.drop s).take (s-s))) (.tmp 28) (.tmp 32) rfl rfl rfl rfl HR.out HPK.out.1 HPT.out HPL.out (fun e=>by cases e) (by omega) HB.out.size ?_;intro va2 c2 w2 r1 r2 _;have HR2:=hide r1;have B2:Hid (Below w.heap.size w w2):=HB.out.trans r2;have HL2:Hid ((P ++ ((V.drop s).take (s-s))).length=k+(0)):=(by show _=_;rw [List.length_append,HPK.out.1,HPL.out]);have HS2:Hid (w.heap.size≤(w2.alloc (.cells #[.int .i64 4,.int .i64 q] 34)).heap.size):=(by show _≤_;have:=B2.out.size;simp;omega);clear r1 r2) | fail);go_roundw
     case rel=>exact ⟨q+1,k+(0)+1,s,va3,c3,(P ++ ((V.drop s).take (s-s))) ++ [(4,(q:Int))],by go_num,rfl,rfl,by omega,by omega,by omega,⟨by rw [List.length_append,HL2.out];rfl,HST.out⟩,HR3.out,B3.out⟩
     case measure=>simp [intOf];omega
    ·subst h1;have hcl:cI (s:Int) s V.length=s:=by unfold cI;rw [HM.out];first | (rw [if_pos (by omega)];done) | (rw [if_neg (by omega),if_pos (by omega)];omega) | (rw [if_neg (by omega),if_neg (by omega)];omega) | (rw [if_neg (by omega),if_neg (by omega)])
     have HST:=hide (gK HPK.out.2 (by rw [HN.out];exact hqn) HAQ.out hcl);have HPT:Hid (VsV wr (.slice (some ⟨b,off+s*2,none⟩) (0) (vc-s)) ((V.drop s).take (s-s))):=by have h9:=lF (c':=vc-s) (s:=s) (n:=s) HVr.out HM.out (by omega) (by omega);first | exact h9 | (rw [Nat.sub_self] at h9 ⊢;exact h9)
     have HPL:Hid (((V.drop s).take (s-s)).length=0):=by show _=_;rw [List.length_take,List.length_drop,HM.out];omega
     clear hcl;go_wp2_with (first | (at_builtin;refine bS (w:=w2.alloc (.cells #[.int .i64 4,.int .i64 q] 34)) (V:=[(4,(q:Int))]) (.tmp 34) (.tmp 37) rfl rfl rfl rfl (HR2.out.later (Nat.le_refl _) Mn.a) HL2.out (gU (aF w2 _)) rfl (fun e=>by cases e) (by omega) HS2.out ?_;intro va3 c3 w3 r1 r2 _;have HR3:=hide r1;have B3:Hid (Below w.heap.size w w3):=(B2.out.alloc B2.out.size _).trans r2;clear r1 r2) | (at_builtin;refine bS (V:=((V.drop s).take (s-s))) (.tmp 28) (.tmp 32) rfl rfl rfl rfl HR.out HPK.out.1 HPT.out HPL.out (fun e=>by cases e) (by omega) HB.out.size ?_;intro va2 c2 w2 r1 r2 _;have HR2:=hide r1;have B2:Hid (Below w.heap.size w w2):=HB.out.trans r2;have HL2:Hid ((P ++ ((V.drop s).take (s-s))).length=k+(0)):=(by show _=_;rw [List.length_append,HPK.out.1,HPL.out]);have HS2:Hid (w.heap.size≤(w2.alloc (.cells #[.int .i64 4,.int .i64 q] 34)).heap.size):=(by show _≤_;have:=B2.out.size;simp;omega);clear r1 r2) | fail);go_roundw
     case rel=>exact ⟨q+1,k+(0)+1,s,va3,c3,(P ++ ((V.drop s).take (s-s))) ++ [(4,(q:Int))],by go_num,rfl,rfl,by omega,by omega,by omega,⟨by rw [List.length_append,HL2.out];rfl,HST.out⟩,HR3.out,B3.out⟩
     case measure=>simp [intOf];omega
    ·rcases Int.lt_trichotomy x (m:Int) with h2 | h2 | h2
     ·obtain ⟨c,rfl⟩:∃ c:Nat,x=c:=⟨x.toNat,by omega⟩;have hcl:cI (c:Int) s V.length=c:=by unfold cI;rw [HM.out];first | (rw [if_pos (by omega)];done) | (rw [if_neg (by omega),if_pos (by omega)];omega) | (rw [if_neg (by omega),if_neg (by omega)];omega) | (rw [if_neg (by omega),if_neg (by omega)])
      have HST:=hide (gK HPK.out.2 (by rw [HN.out];exact hqn) HAQ.out hcl);have HPT:Hid (VsV wr (.slice (some ⟨b,off+s*2,none⟩) (c-s) (vc-s)) ((V.drop s).take (c-s))):=by have h9:=lF (c':=vc-s) (s:=s) (n:=c) HVr.out HM.out (by omega) (by omega);first | exact h9 | (rw [Nat.sub_self] at h9 ⊢;exact h9)
      have HPL:Hid (((V.drop s).take (c-s)).length=c-s):=by show _=_;rw [List.length_take,List.length_drop,HM.out];omega
      clear hcl;go_wp2_with (first | (at_builtin;refine bS (w:=w2.alloc (.cells #[.int .i64 4,.int .i64 q] 34)) (V:=[(4,(q:Int))]) (.tmp 34) (.tmp 37) rfl rfl rfl rfl (HR2.out.later (Nat.le_refl _) Mn.a) HL2.out (gU (aF w2 _)) rfl (fun e=>by cases e) (by omega) HS2.out ?_;intro va3 c3 w3 r1 r2 _;have HR3:=hide r1;have B3:Hid (Below w.heap.size w w3):=(B2.out.alloc B2.out.size _).trans r2;clear r1 r2) | (at_builtin;refine bS (V:=((V.drop s).take (c-s))) (.tmp 28) (.tmp 32) rfl rfl rfl rfl HR.out HPK.out.1 HPT.out HPL.out (fun e=>by cases e) (by omega) HB.out.size ?_;intro va2 c2 w2 r1 r2 _;have HR2:=hide r1;have B2:Hid (Below w.heap.size w w2):=HB.out.trans r2;have HL2:Hid ((P ++ ((V.drop s).take (c-s))).length=k+(c-s)):=(by show _=_;rw [List.length_append,HPK.out.1,HPL.out]);have HS2:Hid (w.heap.size≤(w2.alloc (.cells #[.int .i64 4,.int .i64 q] 34)).heap.size):=(by show _≤_;have:=B2.out.size;simp;omega);clear r1 r2) | fail);go_roundw
      case rel=>exact ⟨q+1,k+(c-s)+1,c,va3,c3,(P ++ ((V.drop s).take (c-s))) ++ [(4,(q:Int))],by go_num,rfl,rfl,by omega,by omega,by omega,⟨by rw [List.length_append,HL2.out];rfl,HST.out⟩,HR3.out,B3.out⟩
      case measure=>simp [intOf];omega
     ·subst h2;have hcl:cI (m:Int) s V.length=m:=by unfold cI;rw [HM.out];first | (rw [if_pos (by omega)];done) | (rw [if_neg (by omega),if_pos (by omega)];omega) | (rw [if_neg (by omega),if_neg (by omega)];omega) | (rw [if_neg (by omega),if_neg (by omega)])
      have HST:=hide (gK HPK.out.2 (by rw [HN.out];exact hqn) HAQ.out hcl);have HPT:Hid (VsV wr (.slice (some ⟨b,off+s*2,none⟩) (m-s) (vc-s)) ((V.drop s).take (m-s))):=by have h9:=lF (c':=vc-s) (s:=s) (n:=m) HVr.out HM.out (by omega) (by omega);first | exact h9 | (rw [Nat.sub_self] at h9 ⊢;exact h9)
      have HPL:Hid (((V.drop s).take (m-s)).length=m-s):=by show _=_;rw [List.length_take,List.length_drop,HM.out];omega
      clear hcl;go_wp2_with (first | (at_builtin;refine bS (w:=w2.alloc (.cells #[.int .i64 4,.int .i64 q] 34)) (V:=[(4,(q:Int))]) (.tmp 34) (.tmp 37) rfl rfl rfl rfl (HR2.out.later (Nat.le_refl _) Mn.a) HL2.out (gU (aF w2 _)) rfl (fun e=>by cases e) (by omega) HS2.out ?_;intro va3 c3 w3 r1 r2 _;have HR3:=hide r1;have B3:Hid (Below w.heap.size w w3):=(B2.out.alloc B2.out.size _).trans r2;clear r1 r2) | (at_builtin;refine bS (V:=((V.drop s).take (m-s))) (.tmp 28) (.tmp 32) rfl rfl rfl rfl HR.out HPK.out.1 HPT.out HPL.out (fun e=>by cases e) (by omega) HB.out.size ?_;intro va2 c2 w2 r1 r2 _;have HR2:=hide r1;have B2:Hid (Below w.heap.size w w2):=HB.out.trans r2;have HL2:Hid ((P ++ ((V.drop s).take (m-s))).length=k+(m-s)):=(by show _=_;rw [List.length_append,HPK.out.1,HPL.out]);have HS2:Hid (w.heap.size≤(w2.alloc (.cells #[.int .i64 4,.int .i64 q] 34)).heap.size):=(by show _≤_;have:=B2.out.size;simp;omega);clear r1 r2) | fail);go_roundw
      case rel=>exact ⟨q+1,k+(m-s)+1,m,va3,c3,(P ++ ((V.drop s).take (m-s))) ++ [(4,(q:Int))],by go_num,rfl,rfl,by omega,by omega,by omega,⟨by rw [List.length_append,HL2.out];rfl,HST.out⟩,HR3.out,B3.out⟩
      case measure=>simp [intOf];omega
     ·have hcl:cI x s V.length=m:=by unfold cI;rw [HM.out];first | (rw [if_pos (by omega)];done) | (rw [if_neg (by omega),if_pos (by omega)];omega) | (rw [if_neg (by omega),if_neg (by omega)];omega) | (rw [if_neg (by omega),if_neg (by omega)])
      have HST:=hide (gK HPK.out.2 (by rw [HN.out];exact hqn) HAQ.out hcl);have HPT:Hid (VsV wr (.slice (some ⟨b,off+s*2,none⟩) (m-s) (vc-s)) ((V.drop s).take (m-s))):=by have h9:=lF (c':=vc-s) (s:=s) (n:=m) HVr.out HM.out (by omega) (by omega);first | exact h9 | (rw [Nat.sub_self] at h9 ⊢;exact h9)
      have HPL:Hid (((V.drop s).take (m-s)).length=m-s):=by show _=_;rw [List.length_take,List.length_drop,HM.out];omega
      clear hcl;go_wp2_with (first | (at_builtin;refine bS (w:=w2.alloc (.cells #[.int .i64 4,.int .i64 q] 34)) (V:=[(4,(q:Int))]) (.tmp 34) (.tmp 37) rfl rfl rfl rfl (HR2.out.later (Nat.le_refl _) Mn.a) HL2.out (gU (aF w2 _)) rfl (fun e=>by cases e) (by omega) HS2.out ?_;intro va3 c3 w3 r1 r2 _;have HR3:=hide r1;have B3:Hid (Below w.heap.size w w3):=(B2.out.alloc B2.out.size _).trans r2;clear r1 r2) | (at_builtin;refine bS (V:=((V.drop s).take (m-s))) (.tmp 28) (.tmp 32) rfl rfl rfl rfl HR.out HPK.out.1 HPT.out HPL.out (fun e=>by cases e) (by omega) HB.out.size ?_;intro va2 c2 w2 r1 r2 _;have HR2:=hide r1;have B2:Hid (Below w.heap.size w w2):=HB.out.trans r2;have HL2:Hid ((P ++ ((V.drop s).take (m-s))).length=k+(m-s)):=(by show _=_;rw [List.length_append,HPK.out.1,HPL.out]);have HS2:Hid (w.heap.size≤(w2.alloc (.cells #[.int .i64 4,.int .i64 q] 34)).heap.size):=(by show _≤_;have:=B2.out.size;simp;omega);clear r1 r2) | fail);go_roundw
      case rel=>exact ⟨q+1,k+(m-s)+1,m,va3,c3,(P ++ ((V.drop s).take (m-s))) ++ [(4,(q:Int))],by go_num,rfl,rfl,by omega,by omega,by omega,⟨by rw [List.length_append,HL2.out];rfl,HST.out⟩,HR3.out,B3.out⟩
      case measure=>simp [intOf];omega
  ·have i1:¬ (q:Int)<(n:Int):=by omega
   have HFN:Hid (fB V A=P ++ (V.drop s).take (m-s)):=by show _=_;rw [HPK.out.2,List.drop_eq_nil_of_le (by rw [HN.out];omega)];simp only [mY];rw [List.take_of_length_le (by rw [List.length_drop,HM.out];exact Nat.le_refl _)]
   have HPL:Hid (((V.drop s).take (m-s)).length=m-s):=by show _=_;rw [List.length_take,List.length_drop,HM.out];omega
   by_cases hv:vc=s
   ·have hvz:vc-s=0:=by omega
    have hsm2:s=m:=by omega
    clear hv;subst hsm2;rw [Nat.sub_self] at HFN HPL;have HPT:Hid (VsV wr (.slice (some ⟨b,off,none⟩) 0 0) ((V.drop s).take 0)):=by rw [List.take_zero];exact ⟨_,_,rfl,by simp,fun k hk=>by simp at hk⟩
    go_wp2_with (first | (at_builtin;refine bS (V:=(V.drop s).take 0) (.tmp 41) (.tmp 44) rfl rfl rfl rfl HR.out HPK.out.1 HPT.out HPL.out (fun e=>by cases e) (by omega) HB.out.size ?_;intro va2 c2 w2 r1 r2 _;have HR2:=hide r1;have B2:Hid (Below w.heap.size w w2):=HB.out.trans r2;clear r1 r2) | fail);go_ret;exact ⟨_,rfl,by rw [HFN.out];exact HR2.out,B2.out⟩
   ·have hvz:¬ vc-s=0:=by omega
    have HPT:Hid (VsV wr (.slice (some ⟨b,off+s*2,none⟩) (m-s) (vc-s)) ((V.drop s).take (m-s))):=lF HVr.out HM.out hsm (Nat.le_refl _);go_wp2_with (first | (at_builtin;refine bS (V:=(V.drop s).take (m-s)) (.tmp 41) (.tmp 44) rfl rfl rfl rfl HR.out HPK.out.1 HPT.out HPL.out (fun e=>by cases e) (by omega) HB.out.size ?_;intro va2 c2 w2 r1 r2 _;have HR2:=hide r1;have B2:Hid (Below w.heap.size w w2):=HB.out.trans r2;clear r1 r2) | fail);go_ret;exact ⟨_,rfl,by rw [HFN.out];exact HR2.out,B2.out⟩
end Go.Proofs.Ytgjpkpmikbpcnaa
