import Derived.Test.YtgjpkpmikbpcnaaOSetW
namespace Go.Proofs.Ytgjpkpmikbpcnaa
open Go.RowKit
def kD (A:List Int) (i:Int) (k:Nat):List Vst:=(List.range k).filterMap fun (j:Nat)=>if A[j]! = i then some (4,(j:Int)) else none
def eM (V:List Vst) (A:List Int):Nat→List Vst
 | 0=>[]
 | i+1=>(eM V A i ++ kD A (i:Int) A.length) ++ (V.drop i).take 1
def oZ (V:List Vst) (A:List Int):List Vst:=eM V A (V.length+1)
theorem l9 (A:List Int) (i:Int) (k:Nat):kD A i (k+1)=kD A i k ++ (if A[k]! = i then [(4,(k:Int))] else []):=by
 unfold kD;rw [List.range_succ,List.filterMap_append]
 congr 1
 split <;> simp_all
theorem uF (P:List Vst) (A:List Int) (i:Int):P ++ kD A i 0=P:=by simp [kD]
set_option maxRecDepth 100000 in
set_option maxHeartbeats 6400000 in
theorem yeH {w:World} {m vc n ac:Nat} {aV aa:Option Addr} {V:List Vst} {A:List Int} (hV:VsV w (.slice aV m vc) V) (hm:V.length=m) (hm2:m≤100) (hA:IntsAt w aa A) (hn:A.length=n) (hn2:n≤2):Calls Try.prog 46 #[.slice aV m vc,.slice aa n ac] w fun e w'=>∃ v,e=.returned v∧VRow w' w.heap.size v (oZ V A)∧Below w.heap.size w w':=by
 have HV:=hide hV;have HM:=hide hm;have HA:=hide hA;have HN:=hide hn;clear hV hm hA hn;go_enter Try.func46,Try.ntmps46;go_wp2_with fail
 go_loopw [6,5] (fun vi v5 wr=>∃ (q k:Nat) (va:Option Addr) (cp:Nat),vi=.int .i64 q∧v5=.slice va k cp∧q≤m+1∧k≤q*3∧Hid ((eM V A q).length=k)∧Hid (VRow wr w.heap.size (.slice va k cp) (eM V A q))∧Hid (Below w.heap.size w wr)) (fun vi _ _=>m+1-(intOf vi).toNat)
 case atStart=>exact ⟨0,0,none,0,rfl,rfl,Nat.zero_le _,Nat.zero_le _,rfl,World.ownsRow_nil _ _ _ _,Below.refl _ _⟩
 case round =>
  obtain ⟨q,k,va,cp,rfl,rfl,hq,hk,HPK,HR,HB⟩:=hrel
  by_cases hqm:q≤m
  ·have i1:(q:Int)≤(m:Int):=by omega
   go_wp2_with fail
   go_loopw [7,5] (fun vi v5 wr=>∃ (j k:Nat) (va:Option Addr) (cp:Nat),vi=.int .i64 j∧v5=.slice va k cp∧j≤n∧k≤q*3+j∧Hid ((eM V A q ++ kD A (q:Int) j).length=k)∧Hid (VRow wr w.heap.size (.slice va k cp) (eM V A q ++ kD A (q:Int) j))∧Hid (Below w.heap.size w wr)) (fun vi _ _=>n-(intOf vi).toNat)
   case atStart=>exact ⟨0,k,va,cp,rfl,rfl,Nat.zero_le _,by omega,by rw [uF];exact HPK.out,by rw [uF];exact HR.out,HB.out⟩
   case round =>
    clear HPK HR HB hk;obtain ⟨j,k,va,cp,rfl,rfl,hj,hk,HPK,HR,HB⟩:=hrel
    by_cases hjn:j<n
    ·have j1:(j:Int)<(n:Int):=by omega
     have j2:(0:Int)≤(j:Int):=by omega
     have j3:¬ (n:Int)≤(j:Int):=by omega
     obtain ⟨ab,aoff,rfl,ca⟩:=HA.out j (by rw [HN.out];exact hjn);obtain ⟨x,hx⟩:∃ x,A[j]! = x:=⟨_,rfl⟩;rw [hx] at ca;have c1:wr.cell? ⟨ab,aoff+j,none⟩=some (.int .i64 x):=((aA HB.out).1 _ _ (block_lt_of_cell ca)).trans ca;have HST:=hide (l9 A (q:Int) j);rw [hx] at HST;clear ca hx
     by_cases he:x=(q:Int)
     ·subst he;have HS2:Hid (eM V A q ++ kD A (q:Int) (j+1)=(eM V A q ++ kD A (q:Int) j) ++ [(4,(j:Int))]):=by show _=_;rw [HST.out,if_pos rfl,List.append_assoc]
      go_wp2_with (first | (at_builtin;refine bS (w:=wr.alloc (.cells #[.int .i64 4,.int .i64 j] 34)) (V:=[(4,(j:Int))]) (.tmp 26) (.tmp 29) rfl rfl rfl rfl (HR.out.later (Nat.le_refl _) Mn.a) HPK.out (gU (aF wr _)) rfl (fun e=>by cases e) (by omega) (by have:=HB.out.size;simp;omega) ?_;intro va3 c3 w3 r1 r2 _;have HR3:=hide r1;have B3:Hid (Below w.heap.size w w3):=(HB.out.alloc HB.out.size _).trans r2;clear r1 r2) | fail);go_roundw
      case rel=>exact ⟨j+1,k+1,va3,c3,by go_num,rfl,by omega,by omega,by show _=_;rw [HS2.out,List.length_append,HPK.out];rfl,by rw [HS2.out];exact HR3.out,B3.out⟩
      case measure=>simp [intOf];omega
     ·have y1:(x == (q:Int))=false:=by simpa using he
      have HS2:Hid (kD A (q:Int) (j+1)=kD A (q:Int) j):=by show _=_;rw [HST.out,if_neg he,List.append_nil]
      go_wp2_with fail;go_roundw
      case rel=>exact ⟨j+1,k,va,cp,by go_num,rfl,by omega,by omega,by rw [HS2.out];exact HPK.out,by rw [HS2.out];exact HR.out,HB.out⟩
      case measure=>simp [intOf];omega
    ·have j1:¬ (j:Int)<(n:Int):=by omega
     have hje:j=n:=by omega
     subst hje
     by_cases hqm2:q<m
     ·have i2:(q:Int)<(m:Int):=by omega
      have i3:(0:Int)≤(q:Int):=by omega
      have i4:¬ (m:Int)≤(q:Int):=by omega
      obtain ⟨⟨kd,it⟩,hu⟩:∃ u,V[q]? = some u:=⟨_,List.getElem?_eq_getElem (by rw [HM.out];exact hqm2)⟩;obtain ⟨b,off,rfl,hb,c1,c2,_⟩:=bL HV.out hu;simp only at c1 c2;have d1:wr.cell? ⟨b,off+q*2,none⟩=some (.int .i64 kd):=((aA HB.out).1 _ _ hb).trans c1;have d2:wr.cell? ⟨b,off+q*2+1,none⟩=some (.int .i64 it):=((aA HB.out).1 _ _ hb).trans c2
      have HS2:Hid (eM V A (q+1)=(eM V A q ++ kD A (q:Int) j) ++ [(kd,it)]):=by
       obtain ⟨hk',e'⟩:=List.getElem?_eq_some_iff.1 hu;show _=_;simp only [eM];rw [HN.out,List.drop_eq_getElem_cons hk',e']
       rfl
      clear c1 c2 hu hb;go_wp2_with (first | (at_builtin;refine bS (w:=wr.alloc (.cells #[.int .i64 kd,.int .i64 it] 34)) (V:=[(kd,it)]) (.tmp 35) (.tmp 40) rfl rfl rfl rfl (HR.out.later (Nat.le_refl _) Mn.a) HPK.out (gU (aF wr _)) rfl (fun e=>by cases e) (by omega) (by have:=HB.out.size;simp;omega) ?_;intro va3 c3 w3 r1 r2 _;have HR3:=hide r1;have B3:Hid (Below w.heap.size w w3):=(HB.out.alloc HB.out.size _).trans r2;clear r1 r2) | fail);go_roundw
      case rel=>exact ⟨q+1,k+1,va3,c3,by go_num,rfl,by omega,by omega,by show _=_;rw [HS2.out,List.length_append,HPK.out];rfl,by rw [HS2.out];exact HR3.out,B3.out⟩
      case measure=>simp [intOf];omega
     ·have i2:¬ (q:Int)<(m:Int):=by omega
      have HS2:Hid (eM V A (q+1)=eM V A q ++ kD A (q:Int) j):=by
       show _=_;simp only [eM];rw [HN.out,List.drop_eq_nil_of_le (by rw [HM.out];omega)]
       simp
      go_wp2_with fail;go_roundw
      case rel=>exact ⟨q+1,k,va,cp,by go_num,rfl,by omega,by omega,by rw [HS2.out];exact HPK.out,by rw [HS2.out];exact HR.out,HB.out⟩
      case measure=>simp [intOf];omega
  ·have i1:¬ (q:Int)≤(m:Int):=by omega
   have hqe:q=m+1:=by omega
   have HE:Hid (eM V A q=oZ V A):=by show _=_;unfold oZ;rw [HM.out,hqe]
   clear hqe;go_wp2_with fail;go_ret;exact ⟨_,rfl,by have h9:=HR.out;rw [HE.out] at h9;exact h9,HB.out⟩
end Go.Proofs.Ytgjpkpmikbpcnaa
namespace Go.Proofs.Ytgjpkpmikbpcnaa
theorem vW (V:List Vst) (i:Nat):V.take i ++ (V.drop i).take 1=V.take (i+1):=by
 rw [List.take_add]
theorem qQ (V:List Vst) (a i:Nat) (h:a≤i):(V.drop a).take (i-a) ++ (V.drop i).take 1=(V.drop a).take (i+1-a):=by
 have:(V.drop i)=(V.drop a).drop (i-a):=by rw [List.drop_drop];congr 1;omega
 rw [this,← List.take_add]
 congr 1
 omega
theorem ygC (a i:Nat):kD [(a:Int)] (i:Int) 1=if a=i then [(4,0)] else []:=by
 rw [l9];simp only [kD,List.range_zero,List.filterMap_nil,List.nil_append]
 by_cases e:a=i
 ·subst e;simp
 ·simp [e];omega
theorem ygB (a b i:Nat):kD [(a:Int),(b:Int)] (i:Int) 2=(if a=i then [(4,0)] else []) ++ (if b=i then [(4,1)] else []):=by
 rw [l9,l9];simp only [kD,List.range_zero,List.filterMap_nil,List.nil_append]
 congr 1
 ·by_cases e:a=i
  ·subst e;simp
  ·simp [e];omega
 ·by_cases e:b=i
  ·subst e;simp
  ·simp [e];omega
theorem wU (V:List Vst) (a:Nat):∀ i,eM V [(a:Int)] i=if i≤a then V.take i else V.take a ++ ((4,0)::(V.drop a).take (i-a))
 | 0=>by simp [eM]
 | i+1=>by
  simp only [eM,List.length_singleton];rw [wU V a i,ygC]
  by_cases h1:i≤a
  ·rw [if_pos h1]
   by_cases h2:a=i
   ·subst h2;rw [if_pos rfl,if_neg (by omega)]
    simp
   ·rw [if_neg h2,if_pos (by omega),List.append_nil,vW]
  ·rw [if_neg h1,if_neg (by omega),if_neg (by omega),List.append_nil,List.append_assoc,List.cons_append,qQ V a i (by omega)]
theorem wT (V:List Vst) (a b:Nat) (hab:a≤b):∀ i,eM V [(a:Int),(b:Int)] i=if i≤a then V.take i else if i≤b then V.take a ++ ((4,0)::(V.drop a).take (i-a)) else V.take a ++ ((4,0)::((V.drop a).take (b-a) ++ ((4,1)::(V.drop b).take (i-b))))
 | 0=>by simp [eM]
 | i+1=>by
  simp only [eM,List.length_cons,List.length_nil,Nat.zero_add];rw [wT V a b hab i,ygB]
  by_cases h1:i≤a
  ·rw [if_pos h1]
   by_cases h2:a=i
   ·subst h2
    by_cases h3:b=a
    ·subst h3;rw [if_pos rfl,if_pos rfl,if_neg (by omega),if_neg (by omega)]
     simp
    ·rw [if_pos rfl,if_neg h3,if_neg (by omega),if_pos (by omega)]
     simp
   ·rw [if_neg h2,if_neg (by omega),if_pos (by omega),List.append_nil,List.append_nil,vW]
  ·rw [if_neg h1,if_neg (show ¬ a=i by omega)]
   by_cases h3:i≤b
   ·rw [if_pos h3]
    by_cases h4:b=i
    ·subst h4;rw [if_pos rfl,if_neg (by omega),if_neg (by omega)]
     simp
    ·rw [if_neg h4,if_neg (by omega),if_pos (by omega)];simp only [List.append_nil,List.append_assoc,List.cons_append,qQ V a i (by omega)]
   ·rw [if_neg h3,if_neg (show ¬ b=i by omega),if_neg (by omega),if_neg (by omega)];simp only [List.append_nil,List.append_assoc,List.cons_append,qQ V b i (by omega)]
theorem nE {a s l:Nat} (h1:s≤a) (h2:a≤l):cI (a:Int) s l=a:=by
 unfold cI
 split
 ·omega
 ·rw [if_pos (by omega)];simp
theorem set_one (V:List Vst) (a:Nat) (h:a≤V.length):fB V [(a:Int)]=oZ V [(a:Int)]:=by
 unfold fB oZ;rw [wU,if_neg (by omega)];simp only [mY,nE (Nat.zero_le a) h,List.drop_zero,Nat.sub_zero]
 congr 2
 rw [List.take_of_length_le (by rw [List.length_drop];omega)]
theorem set_two (V:List Vst) (a b:Nat) (hab:a≤b) (h:b≤V.length):fB V [(a:Int),(b:Int)]=oZ V [(a:Int),(b:Int)]:=by
 unfold fB oZ;rw [wT V a b hab,if_neg (by omega),if_neg (by omega)];simp only [mY,nE (Nat.zero_le a) (show a≤V.length by omega),nE hab h,List.drop_zero,Nat.sub_zero]
 congr 4
 rw [List.take_of_length_le (by rw [List.length_drop];omega)]
end Go.Proofs.Ytgjpkpmikbpcnaa
