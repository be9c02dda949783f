import Derived.Test.YtgjpkpmikbpcnaaOFitHG
namespace Go.Proofs.Ytgjpkpmikbpcnaa
open Go.RowKit
theorem yaY:∀ (ps:List Nat) (k q:Nat) (L:List Vst),(cJ k q ps L).length=L.length+ps.length
 | [],_,_,_=>rfl
 | a::ps,k,q,L=>by
  show (L.take (a-q) ++ ((4,(k:Int))::cJ (k+1) a ps (L.drop (a-q)))).length=_;rw [List.length_append,List.length_cons,yaY ps (k+1) a,List.length_take,List.length_drop]
  simp
  omega
section
variable {p:Prb} {v:Veh} {V:List Vst} {ps:List Nat}
end
end Go.Proofs.Ytgjpkpmikbpcnaa
namespace Go.Proofs.Ytgjpkpmikbpcnaa
open Go.RowKit
def iY (U:List Vst):Nat:=(U.filter fun u=>decide (u.1=4)).length
theorem ydJ {U:List Vst} {i:Nat} {u:Vst} (h:U[i]? = some u):iY (U.take (i+1))=(if u.1=4 then iY (U.take i)+1 else iY (U.take i))∧(nob (U.take (i+1))).length=(if u.1=4 then (nob (U.take i)).length else (nob (U.take i)).length+1):=by
 rw [eI h];unfold iY nob;rw [List.filter_append,List.filter_append,List.length_append,List.length_append]
 by_cases e:u.1=4
 ·rw [if_pos e,if_pos e];simp [e]
 ·rw [if_neg e,if_neg e];simp [e]
theorem vN:∀ (U:List Vst) (k q:Nat),gC k U=some q→q=k+iY U∧∀ i u,U[i]? = some u→u.1=4→u.2=((k+iY (U.take i):Nat):Int)∧k+iY (U.take i)<q
 | [],k,q,h=>by
  simp only [gC,Option.some.injEq] at h;exact ⟨by subst h;rfl,fun i u hu=>by simp at hu⟩
 | v::V,k,q,h=>by
  unfold gC at h
  by_cases e:v.1=4
  ·rw [if_pos e] at h
   by_cases e2:v.2=(k:Int)
   ·rw [if_pos e2] at h;obtain ⟨a1,a2⟩:=vN V (k+1) q h;have c1:iY (v::V)=iY V+1:=by unfold iY;rw [List.filter_cons_of_pos (by simpa using e)];rfl
    refine ⟨by rw [c1];omega,fun i u hu h4=>?_⟩
    cases i with
    | zero =>
     simp only [List.getElem?_cons_zero,Option.some.injEq] at hu;subst hu;rw [List.take_zero];exact ⟨e2,by show k+0<q;omega⟩
    | succ i =>
     rw [List.getElem?_cons_succ] at hu;have c2:iY ((v::V).take (i+1))=iY (V.take i)+1:=by rw [List.take_succ_cons];unfold iY;rw [List.filter_cons_of_pos (by simpa using e)];rfl
     obtain ⟨b1,b2⟩:=a2 i u hu h4;rw [c2];exact ⟨by rw [b1];omega,by omega⟩
   ·rw [if_neg e2] at h;cases h
  ·rw [if_neg e] at h;obtain ⟨a1,a2⟩:=vN V k q h;have c1:iY (v::V)=iY V:=by unfold iY;rw [List.filter_cons_of_neg (by simpa using e)]
   refine ⟨by rw [c1];exact a1,fun i u hu h4=>?_⟩
   cases i with
   | zero =>
    simp only [List.getElem?_cons_zero,Option.some.injEq] at hu;subst hu;exact absurd h4 e
   | succ i =>
    rw [List.getElem?_cons_succ] at hu;have c2:iY ((v::V).take (i+1))=iY (V.take i):=by rw [List.take_succ_cons];unfold iY;rw [List.filter_cons_of_neg (by simpa using e)]
    rw [c2];exact a2 i u hu h4
theorem nob_at {U:List Vst} {i:Nat} {u:Vst} (h:U[i]? = some u) (hu:u.1≠4):(nob U)[(nob (U.take i)).length]? = some u:=by
 have e:U=U.take i ++ u::U.drop (i+1):=by
  obtain ⟨hi,e⟩:=List.getElem?_eq_some_iff.1 h;rw [← e]
  simp
 have e2:nob U=nob (U.take i) ++ u::nob (U.drop (i+1)):=by
  conv=>lhs;rw [e]
  rw [yaU,lU hu]
 rw [e2,List.getElem?_append_right (Nat.le_refl _),Nat.sub_self]
 rfl
theorem rF {p:Prb} {vi:Int} {V:List Vst} (hl:aY p=true):(eD p vi V≠0→dS p vi V=planZ)∧(eD p vi V=0→eO p vi=true∧∃ U,nob U=V∧U.length=V.length+(p.vs.getD vi.toNat vz).brks.length∧dI p (p.vs.getD vi.toNat vz) U=0∧dS p vi V=dK p vi (p.vs.getD vi.toNat vz) U):=by
 cases hm:eO p vi with
 | false =>
  unfold eD dS;rw [hm];exact ⟨fun _=>rfl,fun h=>by cases h⟩
 | true =>
 cases hb:gX V with
 | true =>
  unfold eD dS;rw [hm,hb];exact ⟨fun _=>rfl,fun h=>by cases h⟩
 | false =>
 have hV:=nD hb;obtain ⟨k,hk,hkl⟩:=fU (show (decide (0≤vi) && decide (vi<(p.vs.length:Int)))=true from hm);have hvo:iS p.dims p.time.n (p.vs.getD vi.toNat vz):=fL (eC hl (by rw [hk];simpa using hkl));have hH:dO p vi V=cJ 0 0 (List.replicate (p.vs.getD vi.toNat vz).brks.length 0) V:=rD rfl
 have hI:∀ ps:List Nat,ps.length=(p.vs.getD vi.toNat vz).brks.length→(ofE p vi (cJ 0 0 ps V)≠0→ofP p vi (cJ 0 0 ps V)=planZ)∧(ofE p vi (cJ 0 0 ps V)=0→true=true∧∃ U,nob U=V∧U.length=V.length+(p.vs.getD vi.toNat vz).brks.length∧dI p (p.vs.getD vi.toNat vz) U=0∧ofP p vi (cJ 0 0 ps V)=dK p vi (p.vs.getD vi.toNat vz) U):=fun ps hp =>
  ⟨fun h=>eX h,fun h=>⟨rfl,cJ 0 0 ps V,uV ps 0 0 V hV,by rw [yaY,hp],by rw [← iP hm];exact h,qU h⟩⟩
 cases hd:decide (ofE p vi (dO p vi V)=167) with
 | false =>
  unfold eD dS;rw [hm,hb,hd,hH];exact hI _ List.length_replicate
 | true =>
  have hF:yI p (p.vs.getD vi.toNat vz) V (eE p (p.vs.getD vi.toNat vz) V):=kV hl hvo hV (List.length_replicate (n:=(p.vs.getD vi.toNat vz).brks.length) (a:=0)) (by rw [← iP hm,← hH];exact of_decide_eq_true hd)
  cases hs:eE p (p.vs.getD vi.toNat vz) V with
  | none =>
   unfold eD dS;rw [hm,hb,hd,hs];exact ⟨fun _=>rfl,fun h=>by cases h⟩
  | some ps =>
   rw [hs] at hF;obtain ⟨y1,y2,_,_⟩:=hF.yes ps rfl;unfold eD dS;rw [hm,hb,hd,hs];show (ofE p vi (fB V (ps.map _))≠0→ofP p vi (fB V (ps.map _))=planZ)∧_;have h9:=hI ps y1;rw [← mX y2] at h9;exact h9
theorem tZ {p:Prb} {v:Veh} {U:List Vst} (h:dI p v U=0):aQ p U=true∧cO U v.brks.length=true∧cA p p.dims.toNat v U=true∧bN p (aB p v U)=true∧cR p.time (aB p v U) v.shift.1=true:=by
 unfold dI at h
 cases h1:aQ p U <;> cases h2:cO U v.brks.length <;> cases h3:dH p v U <;> cases h4:cG v U <;> cases h5:cA p p.dims.toNat v U <;> cases h6:bN p (aB p v U) <;> cases h7:cR p.time (aB p v U) v.shift.1 <;> rw [h1,h2,h3,h4,h5,h6,h7] at h <;> first | exact ⟨rfl,rfl,rfl,rfl,rfl⟩ | (exfalso;revert h;decide)
theorem wH {t:Int} {L:List Win} (h:Lw L) (hs:(Hr.startM t L).2=true):Hr.startM (Hr.startM t L).1 L=((Hr.startM t L).1,true):=by
 rcases Hr.startM_is t L h with ⟨_,h2,h3,h4⟩ | ⟨e,_⟩
 ·exact (Hr.startM_is _ L h).eq (.inl ⟨rfl,Int.le_refl _,h3,fun x a b=>absurd (Int.lt_of_le_of_lt a b) (Int.lt_irrefl _)⟩)
 ·rw [e] at hs;cases hs
theorem zM {p:Prb} {v:Veh} {U:List Vst} {dd:Nat} (h:cA p dd v U=true) {i:Nat} (hi:i<U.length+2):Ld.underB ((dG p dd U).getD i []) v.cap=true:=by
 have ha:∀ xs ∈ bZ p dd U,Ld.underB xs v.cap=true:=List.all_eq_true.1 h
 have hm:∀ xs ∈ dG p dd U,Ld.underB xs v.cap=true:=fun xs hx=>by
  unfold dG at hx
  rcases List.mem_append.1 hx with h1 | h1
  ·exact ha xs h1
  ·simp only [List.mem_singleton] at h1;subst h1;exact ha _ (List.mem_of_getElem? (kP p dd U))
 have hl:i<(dG p dd U).length:=by rw [qY];exact hi
 rw [List.getD_eq_getElem?_getD,List.getElem?_eq_getElem hl];exact hm _ (List.getElem_mem hl)
end Go.Proofs.Ytgjpkpmikbpcnaa
