import Derived.Test.YtgjpkpmikbpcnaaOPlBG
namespace Go.Proofs.Ytgjpkpmikbpcnaa
def cT (p:Prb) (V:List Vst) (k d i:Nat):Int :=
 if aI p (V.getD i (0,0)).1 (V.getD i (0,0)).2=true then
  (if (V.getD i (0,0)).1=1 then (if k≤i then (p.js.getD (V.getD i (0,0)).2.toNat jz).drop[d]! else (p.js.getD (V.getD i (0,0)).2.toNat jz).pick[d]!)
   else if (V.getD i (0,0)).1=2 then (if i<k then (p.ss.getD (V.getD i (0,0)).2.toNat hz).amt[d]! else 0)
   else (if i<k then-(p.ss.getD (V.getD i (0,0)).2.toNat hz).amt[d]! else 0))
 else 0
def bY (p:Prb) (dd:Nat) (V:List Vst) (k:Nat):List Int:=(List.range dd).map fun d=>aH (cT p V k d) V.length
theorem mF {f g:Nat→Int}:∀ n:Nat,(∀ i,i<n→f i=g i)→aH f n=aH g n
 | 0,_=>rfl
 | n+1,h=>by unfold aH;rw [mF n fun i hi=>h i (by omega),h n (by omega)]
theorem oX {f g:Nat→Int} {k:Nat}:∀ n:Nat,k<n→(∀ i,i<n→i≠k→f i=g i)→aH f n=aH g n+(f k-g k)
 | 0,hk,_=>by omega
 | n+1,hk,h=>by
  unfold aH
  by_cases e:k=n
  · subst e;rw [mF k fun i hi=>h i (by omega) (by omega)]
    omega
  · rw [oX n (by omega) fun i hi hn=>h i (by omega) hn,h n (by omega) (fun e'=>e e'.symm)]
    omega
theorem tJ (V W:List Vst) (i:Nat) (h:i<V.length):(V ++ W).getD i (0,0)=V.getD i (0,0):=by
 rw [List.getD_eq_getElem?_getD,List.getD_eq_getElem?_getD,List.getElem?_append_left h]
theorem ycT (V:List Vst) (v:Vst):(V ++ [v]).getD V.length (0,0)=v:=by
 rw [List.getD_eq_getElem?_getD,List.getElem?_append_right (Nat.le_refl _),Nat.sub_self];rfl
theorem yb1 {p:Prb} {dd:Nat} (h:aY p=true) (hd:p.dims=dd) (V:List Vst) (d:Nat) (hdd:d<dd):(startM p dd V)[d]! = aH (cT p V 0 d) V.length:=by
 refine cH (Q:=fun V=>(startM p dd V)[d]! = aH (cT p V 0 d) V.length) ?_ (fun V v ih=>?_) V
 ·show (List.replicate dd (0:Int))[d]! = 0;rw [getElem!_pos _ d (by simpa using hdd),List.getElem_replicate]
 ·rw [kL,List.length_append];show _=aH (cT p (V ++ [v]) 0 d) V.length+cT p (V ++ [v]) 0 d V.length;have e1:aH (cT p (V ++ [v]) 0 d) V.length=aH (cT p V 0 d) V.length:=mF _ fun i hi=>by unfold cT;rw [tJ V [v] i hi]
  rw [e1,← ih];have hl:=(g8 h hd V).1;unfold cT kC;rw [ycT];obtain ⟨k,i⟩:=v;simp only
  by_cases ht:aI p k i=true
  · rw [if_pos ht]
    by_cases hk:k=1
    ·subst hk;rw [if_pos ⟨rfl,ht⟩,if_pos rfl,if_pos (Nat.zero_le _),nN _ _ d (by omega)]
    ·rw [if_neg (fun e=>hk e.1),if_neg hk]
     split <;> simp
  · rw [if_neg ht,if_neg (fun e=>ht e.2)]
    omega
theorem xJ {p:Prb} {dd:Nat} (h:aY p=true) (hd:p.dims=dd) (V:List Vst) (d:Nat) (hdd:d<dd):∀ k,k≤V.length→(dV p (startM p dd V) (V.take k))[d]! = aH (cT p V k d) V.length
 | 0,_=>by rw [List.take_zero];exact yb1 h hd V d hdd
 | k+1,hk=>by
  have ih:=xJ h hd V d hdd k (by omega);have hu:V[k]? = some V[k]:=List.getElem?_eq_getElem (by omega);rw [tG hu];obtain ⟨v,hv⟩:∃ v,V[k]=v:=⟨_,rfl⟩;rw [hv] at hu ⊢;have hg:V.getD k (0,0)=v:=by rw [List.getD_eq_getElem?_getD,hu];rfl
  have hc:=oX (f:=cT p V (k+1) d) (g:=cT p V k d) (k:=k) V.length (by omega) fun i hi hn=>by
    unfold cT;have a1:(k+1≤i)=(k≤i):=by apply propext;omega
    have a2:(i<k+1)=(i<k):=by apply propext;omega
    simp only [a1,a2]
  rw [hc,← ih];obtain ⟨h1,h2⟩:=g8 h hd V;have hl:=(rA h hd h1 h2 (V.take k)).1;obtain ⟨kd,it⟩:=v
  cases ht:aI p kd it with
  | false =>
    rw [jY ht];unfold cT;rw [hg]
    simp [ht]
  | true =>
    rcases aN ht with ⟨rfl,j,rfl,hj,_⟩ | ⟨rfl,j,rfl,hj,_⟩ | ⟨rfl,j,rfl,hj,_⟩
    ·rw [kW ht,nN _ _ d (by rw [eL];omega),qD _ _ d (by omega)];unfold cT;rw [hg]
     simp [ht]
     omega
    ·rw [jX ht,nN _ _ d (by omega)];unfold cT;rw [hg]
     simp [ht]
    ·rw [jZ ht,qD _ _ d (by omega)];unfold cT;rw [hg]
     simp [ht]
     omega
theorem lX {p:Prb} {dd:Nat} (h:aY p=true) (hd:p.dims=dd) (V:List Vst) (k:Nat) (hk:k≤V.length):(bZ p dd V)[k]? = some (bY p dd V k):=by
 have e:bZ p dd V=ldQ p dd V V.length:=by unfold ldQ bZ;rw [List.take_length]
 have hq:(bZ p dd V)[k]? = some (dV p (startM p dd V) (V.take k)):=by
  unfold bZ
  cases k with
  | zero=>rfl
  | succ k=>rw [List.getElem?_cons_succ,pP _ _ k (by omega)]
 rw [hq]
 congr 1
 obtain ⟨h1,h2⟩:=g8 h hd V;have hl:=(rA h hd h1 h2 (V.take k)).1;refine Ld.list_ext (by rw [hl];simp [bY]) fun d hdl=>?_;rw [hl] at hdl;rw [xJ h hd V d hdl k hk];unfold bY;rw [getElem!_pos _ d (by simpa using hdl)]
 simp
end Go.Proofs.Ytgjpkpmikbpcnaa
namespace Go.Proofs.Ytgjpkpmikbpcnaa
def bU (p:Prb) (dd:Nat) (V:List Vst) (k i d:Nat):List Int:=(List.range dd).map fun j=>aH (cT p V k j) (if j<d then i+1 else i)
section
variable {p:Prb} {dd:Nat} {V:List Vst} {k i d:Nat}
theorem oG:(bU p dd V k i d).length=dd:=by simp [bU]
theorem sM {j:Nat} (h:j<dd):(bU p dd V k i d)[j]! = aH (cT p V k j) (if j<d then i+1 else i):=by
 rw [getElem!_pos _ j (by rw [oG];exact h)]
 simp [bU]
theorem eF (h:d<dd):(bU p dd V k i d).set d ((bU p dd V k i d)[d]!+cT p V k d i)=bU p dd V k i (d+1):=by
 rw [sM h,if_neg (Nat.lt_irrefl d)];refine List.ext_getElem (by simp [bU]) fun j h1 h2=>?_;rw [List.getElem_set]
 by_cases e:d=j
 ·subst e;rw [if_pos rfl]
  simp [bU,aH]
 ·rw [if_neg e];have hiff:(j<d)↔(j<d+1):=by omega
  simp [bU,hiff]
theorem jN (h:cT p V k d i=0):bU p dd V k i (d+1)=bU p dd V k i d:=by
 unfold bU;refine List.map_congr_left fun j _=>?_
 by_cases e:j=d
 ·subst e;rw [if_pos (by omega),if_neg (by omega)];show aH (cT p V k j) i+cT p V k j i=_;rw [h];omega
 ·have hiff:(j<d+1)↔(j<d):=by omega
  simp [hiff]
theorem sO:bU p dd V k i dd=bU p dd V k (i+1) 0:=by
 unfold bU;refine List.map_congr_left fun j hj=>?_;rw [if_pos (List.mem_range.1 hj),if_neg (Nat.not_lt_zero j)]
theorem qK (h:∀ d,cT p V k d i=0):bU p dd V k (i+1) 0=bU p dd V k i 0:=by
 unfold bU;refine List.map_congr_left fun j _=>?_;rw [if_neg (Nat.not_lt_zero j),if_neg (Nat.not_lt_zero j)];show aH (cT p V k j) i+cT p V k j i=_;rw [h j];omega
theorem zC:bU p dd V k 0 0=List.replicate dd 0:=by
 refine List.ext_getElem (by simp [bU]) fun j h1 h2=>?_
 simp [bU,aH]
theorem yb7:bU p dd V k V.length 0=bY p dd V k:=by
 unfold bU bY;refine List.map_congr_left fun j _=>?_;rw [if_neg (Nat.not_lt_zero j)]
theorem rowC_ok (h:aY p=true) (hd:p.dims=dd) (hdd:d<dd):-1000000≤cT p V k d i∧cT p V k d i≤1000000:=by
 unfold cT
 split
 ·rename_i ht;obtain ⟨⟨kd,it⟩,hv⟩:∃ v,V.getD i (0,0)=v:=⟨_,rfl⟩;rw [hv] at ht ⊢;simp only at ht ⊢
  rcases aN ht with ⟨rfl,j,rfl,hj,_⟩ | ⟨rfl,j,rfl,hj,_⟩ | ⟨rfl,j,rfl,hj,_⟩
  ·obtain ⟨l1,l2,s1,s2⟩:=fW h hd hj;rw [if_pos rfl];simp only [Int.toNat_natCast];have a1:=s1 d (by rw [l1];exact hdd);have a2:=s2 d (by rw [l2];exact hdd)
   split <;> omega
  ·obtain ⟨l1,s1⟩:=iR h hd hj;rw [if_neg (by decide),if_pos rfl];simp only [Int.toNat_natCast];have a1:=s1 d (by rw [l1];exact hdd)
   split <;> omega
  ·obtain ⟨l1,s1⟩:=iR h hd hj;rw [if_neg (by decide),if_neg (by decide)];simp only [Int.toNat_natCast];have a1:=s1 d (by rw [l1];exact hdd)
   split <;> omega
 ·omega
theorem wV (h:aY p=true) (hd:p.dims=dd) (hdd:d<dd) (hi:i≤110):-1000000000≤(bU p dd V k i d)[d]!∧(bU p dd V k i d)[d]!≤1000000000:=by
 rw [sM hdd];have:=mU (f:=cT p V k d) (l:=-1000000) (u:=1000000) (if d<d then i+1 else i) fun j _=>rowC_ok h hd hdd;rw [if_neg (Nat.lt_irrefl d)] at this ⊢
 omega
end
end Go.Proofs.Ytgjpkpmikbpcnaa
