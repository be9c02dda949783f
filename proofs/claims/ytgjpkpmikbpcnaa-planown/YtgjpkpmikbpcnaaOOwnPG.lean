import Derived.Deep.CutRange
import Derived.Test.YtgjpkpmikbpcnaaOBrkPG
import Derived.Test.YtgjpkpmikbpcnaaORofOG
namespace Go.Proofs.Ytgjpkpmikbpcnaa
theorem yaM {α:Type} (f:α→Int) (hf:∀ x,0≤f x):∀ B:List α,0≤(B.map f).sum
 | []=>by simp
 | b::B=>by
  have h1:=yaM f hf B;have h2:=hf b;rw [List.map_cons,List.sum_cons]
  omega
theorem yaL {α:Type} (f:α→Int) (hf:∀ x,0≤f x):∀ A B:List α,A.Nodup→(∀ a ∈ A,a ∈ B)→(A.map f).sum≤(B.map f).sum
 | [],B,_,_=>by
  have h1:=yaM f hf B
  simpa using h1
 | a::A,B,hn,h=>by
  obtain ⟨B1,B2,rfl⟩:=List.append_of_mem (h a List.mem_cons_self);have hn2:=List.nodup_cons.1 hn
  have ih:=yaL f hf A (B1 ++ B2) hn2.2 (fun x hx=>by
   have h1:=h x (List.mem_cons_of_mem _ hx)
   rcases List.mem_append.1 h1 with h2 | h2
   ·exact List.mem_append_left _ h2
   ·rcases List.mem_cons.1 h2 with h3 | h3
    ·subst h3;exact absurd hx hn2.1
    ·exact List.mem_append_right _ h3)
  simp only [List.map_append,List.map_cons,List.sum_append,List.sum_cons] at ih ⊢
  omega
def pkI (V:List Vst):List Int:=V.filterMap fun u=>if u.1=2 then some u.2 else none
def dlI (V:List Vst):List Int:=V.filterMap fun u=>if u.1=3 then some u.2 else none
theorem pkI_mem {V:List Vst} {j:Int}:j ∈ pkI V↔((2,j):Vst) ∈ V:=by
 unfold pkI;rw [List.mem_filterMap]
 constructor
 ·rintro ⟨⟨a,b⟩,hu,e⟩;simp only at e
  split at e
  ·injection e with e;subst e;rename_i h1;subst h1;exact hu
  ·cases e
 ·intro h;exact ⟨_,h,by simp⟩
theorem dlI_mem {V:List Vst} {j:Int}:j ∈ dlI V↔((3,j):Vst) ∈ V:=by
 unfold dlI;rw [List.mem_filterMap]
 constructor
 ·rintro ⟨⟨a,b⟩,hu,e⟩;simp only at e
  split at e
  ·injection e with e;subst e;rename_i h1;subst h1;exact hu
  ·cases e
 ·intro h;exact ⟨_,h,by simp⟩
theorem mE {V:List Vst} {k:Nat} {u:Vst} (h:V[k]? = some u):V.take (k+1)=V.take k ++ [u]:=by
 rw [List.take_add_one,h];rfl
theorem xW {p:Prb} {V:List Vst} (h:Gd p V):∀ k,k≤V.length→(dlI (V.take k)).Nodup
 | 0,_=>by simp [dlI]
 | k+1,hk=>by
  have hu:V[k]? = some V[k]:=List.getElem?_eq_getElem (by omega);obtain ⟨u,e⟩:∃ u,V[k]=u:=⟨_,rfl⟩;rw [e] at hu;have ih:=xW h k (by omega);rw [mE hu];unfold dlI;rw [List.filterMap_append];show (dlI (V.take k) ++ List.filterMap _ [u]).Nodup
  by_cases h3:u.1=3
  ·rw [show List.filterMap (fun u:Vst=>if u.1=3 then some u.2 else none) [u]=[u.2] by simp [h3]];refine List.nodup_append.2 ⟨ih,by simp,fun a ha b hb hab=>?_⟩;simp only [List.mem_singleton] at hb;subst hb hab;have h4:=(h k u hu (by omega)).2.1;have h5:=dlI_mem.1 ha;rw [show ((3,u.2):Vst)=u by rw [← h3]] at h5;exact h4 h5
  ·rw [show List.filterMap (fun u:Vst=>if u.1=3 then some u.2 else none) [u]=[] by simp [h3],List.append_nil];exact ih
theorem yfU {p:Prb} {V:List Vst} (h:Gd p V):∀ k,k≤V.length→∀ j ∈ dlI (V.take k),j ∈ pkI (V.take k)
 | 0,_,j,hj=>by simp [dlI] at hj
 | k+1,hk,j,hj=>by
  have hu:V[k]? = some V[k]:=List.getElem?_eq_getElem (by omega);obtain ⟨u,e⟩:∃ u,V[k]=u:=⟨_,rfl⟩;rw [e] at hu;have ih:=yfU h k (by omega);rw [mE hu] at hj ⊢;rw [pkI_mem]
  rcases List.mem_append.1 (dlI_mem.1 hj) with h1 | h1
  ·exact List.mem_append_left _ (pkI_mem.1 (ih j (dlI_mem.2 h1)))
  ·simp only [List.mem_singleton] at h1;subst h1;exact List.mem_append_left _ ((h k _ hu (show (3:Int)≠4 by decide)).2.2 rfl)
def rM (p:Prb) (d:Nat) (j:Int):Int:=if (p.ss.getD j.toNat hz).amt[d]!<0 then 0 else (p.ss.getD j.toNat hz).amt[d]!
theorem ygH (p:Prb) (d:Nat) (j:Int):0≤rM p d j:=by unfold rM;split <;> omega
def pG (p:Prb) (V:List Vst) (k d i:Nat):Int :=
 if i<k then (if (V.getD i (0,0)).1=2 then rM p d (V.getD i (0,0)).2 else if (V.getD i (0,0)).1=3 then-rM p d (V.getD i (0,0)).2 else 0) else 0
theorem yaV (p:Prb) (V:List Vst) (k d:Nat):∀ n,n≤k→n≤V.length→aH (pG p V k d) n=((pkI (V.take n)).map (rM p d)).sum-((dlI (V.take n)).map (rM p d)).sum
 | 0,_,_=>by simp [aH,pkI,dlI]
 | n+1,hk,hn=>by
  have ih:=yaV p V k d n (by omega) (by omega);have hu:V[n]? = some V[n]:=List.getElem?_eq_getElem (by omega);obtain ⟨u,e⟩:∃ u,V[n]=u:=⟨_,rfl⟩;rw [e] at hu;have hg:V.getD n (0,0)=u:=by rw [List.getD_eq_getElem?_getD,hu];rfl
  unfold aH;rw [ih,mE hu];unfold pG;rw [hg,if_pos (by omega)];unfold pkI dlI;rw [List.filterMap_append,List.filterMap_append,List.map_append,List.map_append,List.sum_append,List.sum_append]
  by_cases h2:u.1=2
  ·simp [h2]
   omega
  ·by_cases h3:u.1=3
   ·simp [h3]
    omega
   ·simp [h2,h3]
theorem xE (p:Prb) (V:List Vst) (k d:Nat):∀ m,aH (pG p V k d) (k+m)=aH (pG p V k d) k
 | 0=>rfl
 | m+1=>by
  show aH (pG p V k d) (k+m)+pG p V k d (k+m)=_;rw [xE p V k d m];unfold pG;rw [if_neg (by omega)]
  omega
theorem sI {f g:Nat→Int}:∀ n:Nat,(∀ i,i<n→f i≤g i)→aH f n≤aH g n
 | 0,_=>Int.le_refl _
 | n+1,h=>by
  have h1:=sI n fun i hi=>h i (by omega);have h2:=h n (by omega);unfold aH
  omega
theorem pW {L:List Int} {d:Int} (h:pI L d=true) {i:Nat} (hi:(i:Int)<d):0≤L[i]!:=by
 obtain ⟨h1,h2⟩:=iZ h;exact (h2 i (by omega)).1
theorem row_net {p:Prb} {dd:Nat} {V:List Vst} (hl:aY p=true) (hd:p.dims=dd) (hg:Gd p V) {k d:Nat} (hdd:d<dd) {i:Nat} (hi:i<V.length):pG p V k d i≤cT p V k d i:=by
 have hu:V[i]? = some V[i]:=List.getElem?_eq_getElem hi;obtain ⟨u,e⟩:∃ u,V[i]=u:=⟨_,rfl⟩;rw [e] at hu;have hgd:V.getD i (0,0)=u:=by rw [List.getD_eq_getElem?_getD,hu];rfl
 unfold pG cT;rw [hgd]
 by_cases h4:u.1=4
 ·have ht:aI p u.1 u.2=false:=by
   cases h:aI p u.1 u.2 with
   | false=>rfl
   | true=>rcases aN h with ⟨h1,_⟩ | ⟨h1,_⟩ | ⟨h1,_⟩ <;> omega
  rw [ht,if_neg (show ¬ u.1=2 by omega),if_neg (show ¬ u.1=3 by omega)]
  simp
 ·have ht:=(hg i u hu h4).1;rw [ht,if_pos rfl]
  rcases aN ht with ⟨h1,j,hj,hj2,_⟩ | ⟨h1,j,hj,hj2,_⟩ | ⟨h1,j,hj,hj2,_⟩
  ·rw [h1,hj,if_pos rfl,Int.toNat_natCast];have hJ:=lY hl hj2;unfold mK at hJ;simp only [Bool.and_eq_true] at hJ;have h5:=pW hJ.1.1.1.2 (i:=d) (by omega);have h6:=pW hJ.1.1.2 (i:=d) (by omega);have e0:(if i<k then (if (1:Int)=2 then rM p d (j:Int) else if (1:Int)=3 then-rM p d (j:Int) else 0) else 0)=0:=by split <;> simp
   rw [e0]
   split <;> assumption
  ·have hJ:=fV hl hj2;unfold jE at hJ;simp only [Bool.and_eq_true] at hJ;have h5:=pW hJ.1.1.2 (i:=d) (by omega);rw [h1,hj];unfold rM;rw [Int.toNat_natCast,if_neg (show ¬ (p.ss.getD j hz).amt[d]!<0 by omega)]
   simp
  ·have hJ:=fV hl hj2;unfold jE at hJ;simp only [Bool.and_eq_true] at hJ;have h5:=pW hJ.1.1.2 (i:=d) (by omega);rw [h1,hj];unfold rM;rw [Int.toNat_natCast,if_neg (show ¬ (p.ss.getD j hz).amt[d]!<0 by omega)]
   simp
theorem rld_pos {p:Prb} {dd:Nat} {V:List Vst} (hl:aY p=true) (hd:p.dims=dd) (hg:Gd p V) {k:Nat} (hk:k≤V.length):∀ z ∈ bY p dd V k,0≤z:=by
 intro z hz;unfold bY at hz;obtain ⟨d,hd1,rfl⟩:=List.mem_map.1 hz;have hdd:=List.mem_range.1 hd1;have h1:aH (pG p V k d) V.length≤aH (cT p V k d) V.length:=sI _ fun i hi=>row_net hl hd hg hdd hi
 have h2:aH (pG p V k d) V.length=aH (pG p V k d) k:=by
  have h3:=xE p V k d (V.length-k);rw [show k+(V.length-k)=V.length by omega] at h3;exact h3
 rw [h2,yaV p V k d k (Nat.le_refl _) hk] at h1;have h4:=yaL (rM p d) (ygH p d) _ _ (xW hg k hk) (yfU hg k hk)
 omega
theorem yd6 {p:Prb} {V:List Vst} {dd:Nat} (hl:aY p=true) (hd:p.dims=dd) (hg:Gd p V) {S:List Stp} {f:Int} {i:Nat}:∀ z ∈ (bG p dd f V S i).load,0≤z:=by
 show ∀ z ∈ (dG p dd V).getD i [],0≤z
 have hm:∀ xs ∈ dG p dd V,∀ z ∈ xs,0≤z:=fun xs hx=>by
  have hm1:∀ xs ∈ bZ p dd V,∀ z ∈ xs,0≤z:=fun xs hx=>by
   obtain ⟨k,hk⟩:=List.getElem?_of_mem hx;have hkl:=(List.getElem?_eq_some_iff.1 hk).1;rw [eG] at hkl;rw [lX hl hd V k (by omega)] at hk;injection hk with hk;subst hk;exact rld_pos hl hd hg (by omega)
  unfold dG at hx
  rcases List.mem_append.1 hx with h1 | h1
  ·exact hm1 xs h1
  ·simp only [List.mem_singleton] at h1;subst h1;exact hm1 _ (List.mem_of_getElem? (kP p dd V))
 rw [List.getD_eq_getElem?_getD]
 cases h:(dG p dd V)[i]? with
 | none=>intro z hz;simp at hz
 | some xs=>exact hm xs (List.mem_of_getElem? h)
theorem fit_pos {p:Prb} {vi:Int} {V:List Vst} (hl:aY p=true) (h0:eD p vi V=0):∀ s ∈ (dS p vi V).steps,∀ z ∈ s.load,0≤z:=by
 obtain ⟨_,U,_,_,h3,h4⟩:=(rF (vi:=vi) (V:=V) hl).2 h0;have hw:=(tZ h3).1;rw [dE] at hw;rw [h4];intro s hs;obtain ⟨i,_,rfl⟩:=List.mem_map.1 (show s ∈ (List.range _).map _ from hs);obtain ⟨dd,hdd⟩:∃ dd:Nat,p.dims=dd:=⟨p.dims.toNat,by have:=(bF hl).dim;omega⟩;rw [show p.dims.toNat=dd by rw [hdd];simp];exact yd6 hl hdd hw.1
end Go.Proofs.Ytgjpkpmikbpcnaa
namespace Go.Proofs.Ytgjpkpmikbpcnaa
open Go.RowKit
def TurnO (B:Nat) (z wr:World) (ys:List Value) (q:Nat):Prop:=Below B z wr∧∀ g,g<z.heap.size→(∀ (j:Nat) (y:Value),j<q→ys[j]? = some y→y.ownBlock≠some g)→wr.heap[g]? = z.heap[g]?
theorem TurnO.refl {B:Nat} {z:World} {ys:List Value} {q:Nat}:TurnO B z z ys q:=⟨Below.refl _ _,fun _ _ _=>rfl⟩
theorem TurnO.drew {B:Nat} {z wr:World} {ys:List Value} {q:Nat} (h:TurnO B z wr ys q):TurnO B z wr.drew ys q:=⟨h.1.drew,h.2⟩
theorem TurnO.next {B:Nat} {z wr:World} {ys:List Value} {q:Nat} (h:TurnO B z wr ys q):TurnO B z wr ys (q+1):=⟨h.1,fun g hg hn=>h.2 g hg fun j y hj hy=>hn j y (by omega) hy⟩
theorem TurnO.set {B b:Nat} {z wr:World} {ys:List Value} {q:Nat} {y:Value} (h:TurnO B z wr ys (q+1)) (hy:ys[q]? = some y) (hb:y.ownBlock=some b) (hB:B≤b) (j:Nat) (v:Value):TurnO B z (wr.setCell ⟨b,j,none⟩ v) ys (q+1) :=
 ⟨h.1.setCell hB v,fun g hg hn=>(heap_setCell_other _ _ _ _ (fun e=>hn q y (by omega) hy (by rw [hb,e]))).trans (h.2 g hg hn)⟩
theorem TurnO.cell {B:Nat} {z wr:World} {ys:List Value} {q g j:Nat} {v:Value} (h:TurnO B z wr ys q) (hn:∀ (j:Nat) (y:Value),ys[j]? = some y→y.ownBlock≠some g) (hc:z.cell? ⟨g,j,none⟩=some v):wr.cell? ⟨g,j,none⟩=some v :=
 (World.cell?_of_block (w:=z) (a:=⟨g,j,none⟩) (h.2 g (World.block_lt_of_cell? z _ hc) fun k y _ hy=>hn k y hy)).trans hc
theorem yeA {ys:List Value} (hs:Sep ys) {j k:Nat} {y u:Value} {g:Nat} (hj:j<k) (hy:ys[j]? = some y) (hu:ys[k]? = some u) (hg:u.ownBlock=some g):y.ownBlock≠some g:=by
 obtain ⟨lj,ej⟩:=List.getElem?_eq_some_iff.1 hy;obtain ⟨lk,ek⟩:=List.getElem?_eq_some_iff.1 hu;have h1:=List.pairwise_iff_getElem.1 hs j k lj lk hj;rw [ej,ek] at h1;exact fun e=>h1 g e hg
theorem TurnO.row {B base:Nat} {z wr:World} {ys:List Value} {q k:Nat} {u:Value} {xs:List Int} (h:TurnO B z wr ys q) (hs:Sep ys) (hk:q≤k) (hu:ys[k]? = some u) (hr:IRow z base u xs):IRow wr base u xs :=
 own_of_block hr fun g hg=>h.2 g (hr.lt g hg).2 fun _ _ hj hy=>yeA hs (Nat.lt_of_lt_of_le hj hk) hy hu hg
def RowN (w:World) (b n:Nat):Prop:=∃ cur t,w.heap[b]? = some (.cells cur t (0,0))∧n≤cur.size∧∀ d,d<n→∃ z,cur[d]? = some (.int .i64 z)
theorem RowN.set {w:World} {b n d:Nat} {x:Int} (h:RowN w b n) (hd:d<n):RowN (w.setCell ⟨b,d,none⟩ (.int .i64 x)) b n:=by
 obtain ⟨cur,t,h1,h2,h3⟩:=h;refine ⟨_,t,heap_setCell_same w b d _ _ _ h1,by simpa using h2,fun e he=>?_⟩
 by_cases h4:d=e
 ·subst h4;exact ⟨x,by rw [Array.getElem?_setIfInBounds,if_pos rfl,if_pos (by omega)]⟩
 ·obtain ⟨z,hz⟩:=h3 e he;exact ⟨z,by rw [Array.getElem?_setIfInBounds,if_neg h4];exact hz⟩
theorem RowN.drew {w:World} {b n:Nat} (h:RowN w b n):RowN w.drew b n:=h
theorem RowN.get {w:World} {b n d:Nat} (h:RowN w b n) (hd:d<n):(∃ z,w.cell? ⟨b,d,none⟩=some (.int .i64 z))∧w.frozen? ⟨b,d,none⟩=false:=by
 obtain ⟨cur,t,h1,h2,h3⟩:=h;obtain ⟨z,hz⟩:=h3 d hd;exact ⟨⟨z,(cell_of_row _ _ _ _ _ _ h1).trans hz⟩,pQ h1⟩
theorem irow_n {w:World} {base:Nat} {a:Option Addr} {n c:Nat} {xs:List Int} (h:IRow w base (.slice a n c) xs) (hn:0<n):∃ b,a=some ⟨b,0,none⟩∧base≤b∧RowN w b n∧n≤c:=by
 have hlen:xs.length=n:=by
  obtain ⟨y,yc,e⟩:=IRow.shape h;injection e with _ e _;exact e.symm
 rcases h.2 with ⟨e1,e2⟩ | ⟨g,cap,cur,e1,hb,hg,hc1,_,hc2,hc3⟩
 ·omega
 ·injection e1 with e1 e2 e3;subst e1 e3;rw [hlen] at hc1 hc3;refine ⟨g,rfl,hb,⟨cur,3,hg,by omega,fun d hd=>?_⟩,hc1⟩;have h1:d<(intsV xs).length:=by rw [h.1,hlen];omega
  have h2:(intsV xs)[d]? = cur.toList[d]?:=by rw [← hc3,List.getElem?_take,if_pos (by omega)]
  rw [← Array.getElem?_toList,← h2];unfold intsV;rw [List.getElem?_map,List.getElem?_eq_getElem (by omega)];exact ⟨_,rfl⟩
def PlanX (w:World) (base:Nat) (v:Value) (pl:dQ) (x:Nat):Prop:=∃ a n c ys,v=.agg (bV pl.veh (.slice a n c) pl.time pl.dist pl.wait pl.serv pl.cost)∧StpR w base base (.slice a n c) pl.steps ys∧Sep ys∧pl.steps.length=n∧(∀ (j:Nat) (y:Value),ys[j]? = some y→y.ownBlock≠some x)
theorem PlanX.v {w:World} {base x:Nat} {v:Value} {pl:dQ} (h:PlanX w base v pl x):PlanV w base v pl:=by
 obtain ⟨a,n,c,ys,h1,h2,h3,h4,_⟩:=h;exact ⟨a,n,c,ys,h1,h2,h3,h4⟩
theorem PlanX.of {u w:World} {base x:Nat} {v:Value} {pl:dQ} (h:PlanV u base v pl) (f:Below u.heap.size u w) (hx:u.heap.size≤x):PlanX w base v pl x:=by
 obtain ⟨a,n,c,ys,h1,h2,h3,h4⟩:=h;refine ⟨a,n,c,ys,h1,RowS.on h2 (eJ base) f,h3,h4,fun j y hy e=>?_⟩;have h5:=RowS.inH h2 y (List.mem_of_getElem? hy) x e
 omega
theorem PlanX.low {w:World} {base x:Nat} {v:Value} {pl:dQ} (h:PlanV w base v pl) (hx:x<base):PlanX w base v pl x:=by
 obtain ⟨a,n,c,ys,h1,h2,h3,h4⟩:=h;refine ⟨a,n,c,ys,h1,h2,h3,h4,fun j y hy e=>?_⟩;have hl:=(List.getElem?_eq_some_iff.1 hy).1;rw [h2.len] at hl;have h5:=(World.ownsRow.lt (h2.sat j _ y (List.getElem?_eq_getElem hl) hy).1 x e).1
 omega
theorem PlanX.mono {w:World} {base base' x:Nat} {v:Value} {pl:dQ} (h:PlanX w base v pl x) (hb:base'≤base):PlanX w base' v pl x:=by
 obtain ⟨a,n,c,ys,e,hr,hs,hn,hx⟩:=h;exact ⟨a,n,c,ys,e,⟨hr.len,lP hr.own hb,fun k x y hx hy=>by obtain ⟨h1,h2,h3⟩:=hr.sat k x y hx hy;exact ⟨lP h1 hb,h2,h3⟩⟩,hs,hn,hx⟩
theorem PlanX.on {w w':World} {base x:Nat} {v:Value} {pl:dQ} (h:PlanX w base v pl x) (f:Below w.heap.size w w'):PlanX w' base v pl x:=by
 obtain ⟨a,n,c,ys,e,hr,hs,hn,hx⟩:=h;exact ⟨a,n,c,ys,e,RowS.on hr (eJ base) f,hs,hn,hx⟩
theorem PlanX.take {w:World} {base x n c:Nat} {a:Option Addr} {pl:dQ} (h:PlanX w base (.agg #[.int .i64 pl.veh,.slice a n c,.int .i64 pl.time,.int .i64 pl.dist,.int .i64 pl.wait,.int .i64 pl.serv,.int .i64 pl.cost]) pl x) (h0:pl.steps.length=0→False):∃ g ys,a=some ⟨g,0,none⟩∧pl.steps.length=n∧((∀ (j:Nat) (y:Value),ys[j]? = some y→y.ownBlock≠some x)∧(∀ (j:Nat) (y:Value),ys[j]? = some y→y.ownBlock≠some g)∧Sep ys∧∀ k s,pl.steps[k]? = some s→∃ a2 c2,ys[k]? = some (.slice a2 s.load.length c2)∧w.cell? ⟨g,k*9+6,none⟩=some (.slice a2 s.load.length c2)∧IRow w base (.slice a2 s.load.length c2) s.load):=by
 obtain ⟨a1,n1,c1,ys,e1,hr,hs,hn,hx⟩:=h;unfold bV at e1;injection e1 with e1;simp only [Array.mk.injEq,List.cons.injEq,Value.slice.injEq,true_and,and_true] at e1;obtain ⟨rfl,rfl,rfl⟩:=e1;obtain ⟨s0,hs0⟩:∃ s,pl.steps[0]? = some s:=⟨_,List.getElem?_eq_getElem (Nat.pos_of_ne_zero h0)⟩;obtain ⟨_,g,_,_,hg,_,_⟩:=RowS.some hr hs0;injection hg with hg _ _;subst hg;refine ⟨g,ys,rfl,hn,hx,fun j y hy=>?_,hs,fun k s hk=>?_⟩
 ·have hl:=(List.getElem?_eq_some_iff.1 hy).1;rw [hr.len] at hl;exact (hr.sat j _ y (List.getElem?_eq_getElem hl) hy).2.2 g rfl
 ·obtain ⟨y,g2,cap,hy,hg,_,_⟩:=RowS.some hr hk;obtain ⟨h1,_,_⟩:=hr.sat k s y hk hy;obtain ⟨y1,yc,rfl⟩:=IRow.shape h1;exact ⟨y1,yc,hy,RowS.cells (z:=9) (enc:=oO) (fun _ _=>rfl) hr hk hy 6 (by decide),h1⟩
theorem one_vis {w:World} {B:Nat} {a b:Int} {t:TypeId} (h:w.heap[B]? = some (.cells #[.int .i64 a,.int .i64 b] t (0,0))):VsV w (.slice (some ⟨B,0,none⟩) 1 1) [(a,b)]:=by
 refine ⟨_,_,rfl,by show 1*16≤140737488351232;decide,fun k hk=>?_⟩;have:k=0:=by simpa using hk
 subst this;exact ⟨B,0,rfl,cell_of_row _ _ _ _ _ _ h,cell_of_row _ _ _ _ _ _ h⟩
theorem vs_init {w:World} {a:Option Addr} {m c:Nat} {V:List Vst} {u:Vst} (h:VsV w (.slice a (m+1) c) (V ++ [u])) (hm:V.length=m):VsV w (.slice a m c) V:=by
 obtain ⟨a',c',e,hb,hc⟩:=h;injection e with e1 e2 e3;subst e1 e3;rw [List.length_append,List.length_singleton] at hb hc;refine ⟨_,_,by rw [hm],by omega,fun k hk=>?_⟩;have h1:=hc k (by omega);simp only [tJ V [u] k hk] at h1;exact h1
theorem vs_last {w:World} {a:Option Addr} {m c:Nat} {V:List Vst} {u:Vst} (h:VsV w (.slice a (m+1) c) (V ++ [u])) (hm:V.length=m):∃ b off,a=some ⟨b,off,none⟩∧b<w.heap.size∧w.cell? ⟨b,off+m*2,none⟩=some (.int .i64 u.1):=by
 obtain ⟨b,off,e,h1,h2,_,_⟩:=bL (k:=m) (u:=u) h (by rw [← hm];simp);exact ⟨b,off,e,h1,h2⟩
end Go.Proofs.Ytgjpkpmikbpcnaa
namespace Go.Proofs.Ytgjpkpmikbpcnaa
open Go.RowKit
theorem jS {P:Program} {ops:Array Oper} {o:Oper} {a:Act} {w:World} {K:Act→World→Prop} {Q:Exit→Act→World→Prop} {E:Prop} (hgd:o.guard=none) (ty:TypeId) (x y:Operand) (ho:o.op=.store ty x y)
  (g:Nat) (cells:Array Value) (hx:a.eval x=.pointer (some ⟨g,0,none⟩)) (hy:a.eval y=.agg cells)
  (t:TypeId) (old:Array Value) (hg:w.heap[g]? = some (.cells old t (0,0))) (hi:(P.info? ty).map (·.size)=some cells.size)
  (hold:old.size=cells.size) (h1:cells.all (·.oneCell')=true) (h:K (a.put o.dst undef) (w.setRow g cells)) :
  if Region.wanted o (yielded ops a.tmps)=true then Oper.wp P o a w K Q else E:=by
 rw [if_pos (by simp [Region.wanted,hgd])];exact wp_store_row ty x y ho g cells hx hy t old hg hi hold h1 h
theorem pO (w:World) (g:Nat) (cs:Array Value):w.grownBy (w.setRow g cs) (some g):=⟨rfl,rfl,rfl,Nat.le_of_eq (size_setRow w g cs).symm,fun k _ hn=>setRow_other w g k cs (fun e=>hn (by rw [e]))⟩
theorem vB (args:Array Value) (w:World):(callFunc 40 args).run Try.prog w=.ok (.enter 40 args) w:=Go.Proofs.enters_of Try.func40 (by kernel_rfl) rfl args w
set_option maxRecDepth 100000 in
set_option maxHeartbeats 25600000 in
theorem yeQ {w:World} {x:aU} {p:Prb} {m vc:Nat} {va:Option Addr} {V:List Vst} (h:PrbV w x p) (hV:VsV w (.slice va m vc) V) (hm:V.length=m) (hz:va=none→vc=0) (vi:Int):Calls Try.prog 12 #[.agg (aL p x),.int .i64 vi,.slice va m vc] w fun e w'=>e=.returned (.bool true)∧Below w.heap.size w w':=by
 have HP:=hide h;have HV:=hide hV;have HM:=hide hm;have HZ:=hide hz;have hmb:m*16≤140737488351232:=by obtain ⟨_,_,e,hb,_⟩:=hV;rw [← hm];exact hb
 clear hV hm hz;obtain ⟨ta,tc,da,dc,va',vc',ja,jc,sa,sc,rfl⟩:=h.open;clear h;obtain ⟨bb,hbb⟩:∃ b,aY p=b:=⟨_,rfl⟩;have HL:=hide hbb;clear hbb;have HTE:Hid (aL p ⟨.slice ta p.time.cells.length tc,.slice da p.dist.cells.length dc,.slice va' p.vs.length vc',.slice ja p.js.length jc,.slice sa p.ss.length sc⟩=#[.int .i64 p.dims,.int .i64 p.time.n,.slice ta p.time.cells.length tc,.int .i64 p.dist.n,.slice da p.dist.cells.length dc,.slice va' p.vs.length vc',.slice ja p.js.length jc,.slice sa p.ss.length sc]):=rfl;rw [HTE.out];have H16:Hid (∀ W2,Below w.heap.size w W2→Calls Try.prog 16 #[.agg #[.int .i64 p.dims,.int .i64 p.time.n,.slice ta p.time.cells.length tc,.int .i64 p.dist.n,.slice da p.dist.cells.length dc,.slice va' p.vs.length vc',.slice ja p.js.length jc,.slice sa p.ss.length sc]] W2 fun e w'=>e=.returned (.bool bb)∧Below W2.heap.size W2 w'):=fun W2 hf=>by have h9:=m6 (HP.out.on hf);rw [HL.out] at h9;exact h9
 have H17:Hid (∀ W2,Below w.heap.size w W2→Calls Try.prog 17 #[.agg #[.int .i64 p.dims,.int .i64 p.time.n,.slice ta p.time.cells.length tc,.int .i64 p.dist.n,.slice da p.dist.cells.length dc,.slice va' p.vs.length vc',.slice ja p.js.length jc,.slice sa p.ss.length sc]] W2 fun e w'=>∃ x',e=.returned (.agg (aL p x'))∧CpQ w' (W2.heap.size+2) p x'∧Below W2.heap.size W2 w'):=fun W2 hf=>by have h9:=rI (HP.out.on hf);exact h9
 obtain ⟨W,hW⟩:∃ W,W=w.alloc (.cells #[.int .i64 p.dims,.int .i64 p.time.n,.slice ta p.time.cells.length tc,.int .i64 p.dist.n,.slice da p.dist.cells.length dc,.slice va' p.vs.length vc',.slice ja p.js.length jc,.slice sa p.ss.length sc] 29):=⟨_,rfl⟩;have HBW:Hid (Below w.heap.size w W):=by rw [hW];exact Mn.a
 have HLW:Hid (w.heap.size<W.heap.size):=by show _<_;rw [hW];simp
 have HC:Hid (∀ j,W.cell? ⟨w.heap.size,j,none⟩=(#[.int .i64 p.dims,.int .i64 p.time.n,.slice ta p.time.cells.length tc,.int .i64 p.dist.n,.slice da p.dist.cells.length dc,.slice va' p.vs.length vc',.slice ja p.js.length jc,.slice sa p.ss.length sc]:Array Value)[j]?):=fun j=>by rw [hW];exact cell_of_row _ _ _ _ _ _ (heap_alloc_new w _)
 cases bb with
 | false =>
  go_enter Try.func12,Try.ntmps12;go_wp2_with (first | (go_at_call 16;refine (H16.out _ (below_on HBW.out E1.out)).mono ?_;rintro e w2 ⟨rfl,k2⟩;have E2:=hide (below_on E1.out k2);obtain ⟨pb0,pb1,pb2,pb3,pb4,pb5,pb6,pb7⟩:=Mn.c8 (fun j=>((aA E2.out).1 _ j HLW.out).trans (HC.out j));clear k2 pa0 pa1 pa2 pa3 pa4 pa5 pa6 pa7) | (go_at_call 35;rw [← hW];refine (eH _).mono ?_;rintro e w1 ⟨rfl,k1⟩;have E1:=hide k1;obtain ⟨pa0,pa1,pa2,pa3,pa4,pa5,pa6,pa7⟩:=Mn.c8 (fun j=>((aA k1).1 _ j HLW.out).trans (HC.out j));clear k1) | fail);go_ret;exact ⟨rfl,below_on HBW.out E2.out⟩
 | true =>
 by_cases hm1:30<m
 ·have y1:(m:Int)>30:=by omega
  have y2:(30:Int)<(m:Int):=by omega
  go_enter Try.func12,Try.ntmps12;go_wp2_with (first | (go_at_call 16;refine (H16.out _ (below_on HBW.out E1.out)).mono ?_;rintro e w2 ⟨rfl,k2⟩;have E2:=hide (below_on E1.out k2);obtain ⟨pb0,pb1,pb2,pb3,pb4,pb5,pb6,pb7⟩:=Mn.c8 (fun j=>((aA E2.out).1 _ j HLW.out).trans (HC.out j));clear k2 pa0 pa1 pa2 pa3 pa4 pa5 pa6 pa7) | (go_at_call 35;rw [← hW];refine (eH _).mono ?_;rintro e w1 ⟨rfl,k1⟩;have E1:=hide k1;obtain ⟨pa0,pa1,pa2,pa3,pa4,pa5,pa6,pa7⟩:=Mn.c8 (fun j=>((aA k1).1 _ j HLW.out).trans (HC.out j));clear k1) | fail);go_ret;exact ⟨rfl,below_on HBW.out E2.out⟩
 ·have y1:¬ (m:Int)>30:=by omega
  have y2:¬ (30:Int)<(m:Int):=by omega
  have hm3:m≤30:=by omega
  clear hm1;obtain ⟨er,her⟩:∃ z,eD p vi V=z:=⟨_,rfl⟩;obtain ⟨pr,hpr⟩:∃ z,dS p vi V=z:=⟨_,rfl⟩;have Her:=hide her;have Hpr:=hide hpr;clear her hpr;have HSML:Hid (pr.steps.length≤1000∧∀ s ∈ pr.steps,s.load.length≤3):=by have h9:=tV (vi:=vi) (V:=V) HL.out (by rw [HM.out];omega);rw [Hpr.out] at h9;exact h9
  have H17x:Hid (∀ W2,Below w.heap.size w W2→Calls Try.prog 17 #[.agg #[.int .i64 p.dims,.int .i64 p.time.n,.slice ta p.time.cells.length tc,.int .i64 p.dist.n,.slice da p.dist.cells.length dc,.slice va' p.vs.length vc',.slice ja p.js.length jc,.slice sa p.ss.length sc]] W2 fun e w'=>∃ t3 c3t d3 c3d v3 c3v j3 c3j s3 c3s,e=.returned (.agg #[.int .i64 p.dims,.int .i64 p.time.n,.slice t3 p.time.cells.length c3t,.int .i64 p.dist.n,.slice d3 p.dist.cells.length c3d,.slice v3 p.vs.length c3v,.slice j3 p.js.length c3j,.slice s3 p.ss.length c3s])∧PrbV w' ⟨.slice t3 p.time.cells.length c3t,.slice d3 p.dist.cells.length c3d,.slice v3 p.vs.length c3v,.slice j3 p.js.length c3j,.slice s3 p.ss.length c3s⟩ p∧Below W2.heap.size W2 w'):=fun W2 hf=>by
   refine (H17.out W2 hf).mono ?_;rintro e w' ⟨x',rfl,P3,k9⟩;have h8:=P3.prb;clear P3;obtain ⟨t3,c3t,d3,c3d,v3,c3v,j3,c3j,s3,c3s,rfl⟩:=h8.open;exact ⟨t3,c3t,d3,c3d,v3,c3v,j3,c3j,s3,c3s,rfl,h8,k9⟩
  clear H17
  have H40:Hid (∀ W2 x' g c,PrbV W2 x' p→VsV W2 (.slice (some ⟨g,0,none⟩) m c) V→m≤c→Calls Try.prog 40 #[.agg (aL p x'),.int .i64 vi,.slice (some ⟨g,0,none⟩) m c] W2 fun e w'=>∃ pa pn pc,e=.returned (.tuple #[.agg #[.int .i64 pr.veh,.slice pa pn pc,.int .i64 pr.time,.int .i64 pr.dist,.int .i64 pr.wait,.int .i64 pr.serv,.int .i64 pr.cost],.int .i64 er])∧PlanV w' W2.heap.size (.agg #[.int .i64 pr.veh,.slice pa pn pc,.int .i64 pr.time,.int .i64 pr.dist,.int .i64 pr.wait,.int .i64 pr.serv,.int .i64 pr.cost]) pr∧Below W2.heap.size W2 w'):=fun W2 x' g c hp hv hc=>by
   have h9:=ya6 (vi:=vi) hp HL.out hv HM.out (by omega) hc;rw [Her.out,Hpr.out] at h9;refine h9.mono ?_;rintro e w' ⟨u,rfl,hu,k9⟩;obtain ⟨pa,pn,pc,ys,rfl,_,_,_⟩:=id hu;exact ⟨pa,pn,pc,rfl,hu,k9⟩
  have H41:Hid (∀ W2,Below w.heap.size w W2→Calls Try.prog 41 #[.agg #[.int .i64 p.dims,.int .i64 p.time.n,.slice ta p.time.cells.length tc,.int .i64 p.dist.n,.slice da p.dist.cells.length dc,.slice va' p.vs.length vc',.slice ja p.js.length jc,.slice sa p.ss.length sc],.int .i64 vi,.slice va m vc] W2 fun e w'=>∃ pa pn pc,e=.returned (.tuple #[.agg #[.int .i64 pr.veh,.slice pa pn pc,.int .i64 pr.time,.int .i64 pr.dist,.int .i64 pr.wait,.int .i64 pr.serv,.int .i64 pr.cost],.int .i64 er])∧PlanW w' W2.heap.size (.agg #[.int .i64 pr.veh,.slice pa pn pc,.int .i64 pr.time,.int .i64 pr.dist,.int .i64 pr.wait,.int .i64 pr.serv,.int .i64 pr.cost]) pr∧Below W2.heap.size W2 w'):=fun W2 hf=>by
   have h9:=ycA (vi:=vi) (HP.out.on hf) HL.out (PrV.on HV.out hf) HM.out (by omega);rw [Her.out,Hpr.out] at h9;refine h9.mono ?_;rintro e w' ⟨u,rfl,hu,k9⟩;obtain ⟨pa,pn,pc,ys,rfl,_,_⟩:=id hu;exact ⟨pa,pn,pc,rfl,hu,k9⟩
  have H39:Hid (∀ W2 b1 b2 a n c a2 n2 c2,PlanW W2 b1 (.agg #[.int .i64 pr.veh,.slice a n c,.int .i64 pr.time,.int .i64 pr.dist,.int .i64 pr.wait,.int .i64 pr.serv,.int .i64 pr.cost]) pr→PlanW W2 b2 (.agg #[.int .i64 pr.veh,.slice a2 n2 c2,.int .i64 pr.time,.int .i64 pr.dist,.int .i64 pr.wait,.int .i64 pr.serv,.int .i64 pr.cost]) pr→Calls Try.prog 39 #[.agg #[.int .i64 pr.veh,.slice a n c,.int .i64 pr.time,.int .i64 pr.dist,.int .i64 pr.wait,.int .i64 pr.serv,.int .i64 pr.cost],.agg #[.int .i64 pr.veh,.slice a2 n2 c2,.int .i64 pr.time,.int .i64 pr.dist,.int .i64 pr.wait,.int .i64 pr.serv,.int .i64 pr.cost]] W2 fun e w'=>e=.returned (.bool true)∧Below W2.heap.size W2 w'):=fun W2 b1 b2 a n c a2 n2 c2 h1 h2=>yeE h1 h2 HSML.out.1 HSML.out.2;have H30:Hid (∀ W2 a c a' c' (q:Nat) (L:List Vst),L.length=q→VsV W2 (.slice a q c) L→VsV W2 (.slice a' q c') L→Calls Try.prog 30 #[.slice a q c,.slice a' q c'] W2 fun e w'=>e=.returned (.bool true)∧Below W2.heap.size W2 w'):=fun W2 a c a' c' q L hq hv hv'=>qI hv hv';have wm3:IntKind.i64.wrap ((m:Int)+3)=(m:Int)+3:=by rw [IntKind.wrap_i64];omega
  go_enter Try.func12,Try.ntmps12
  go_upto_region 6 with (first | (go_at_call 17;refine (H17x.out _ (below_on HBW.out E2.out)).mono ?_;rintro e w3 ⟨t3,c3t,d3,c3d,v3,c3v,j3,c3j,s3,c3s,rfl,hp3,k3⟩;have HP3:=hide hp3;have E3:=hide (below_on E2.out k3);clear k3 hp3 pb0 pb1 pb2 pb3 pb4 pb5 pb6 pb7) | (go_at_call 16;refine (H16.out _ (below_on HBW.out E1.out)).mono ?_;rintro e w2 ⟨rfl,k2⟩;have E2:=hide (below_on E1.out k2);obtain ⟨pb0,pb1,pb2,pb3,pb4,pb5,pb6,pb7⟩:=Mn.c8 (fun j=>((aA E2.out).1 _ j HLW.out).trans (HC.out j));clear k2 pa0 pa1 pa2 pa3 pa4 pa5 pa6 pa7) | (go_at_call 35;rw [← hW];refine (eH _).mono ?_;rintro e w1 ⟨rfl,k1⟩;have E1:=hide k1;obtain ⟨pa0,pa1,pa2,pa3,pa4,pa5,pa6,pa7⟩:=Mn.c8 (fun j=>((aA k1).1 _ j HLW.out).trans (HC.out j));clear k1) | fail)
  obtain ⟨z3,hz3⟩:∃ z,w3.alloc (.cells #[.int .i64 p.dims,.int .i64 p.time.n,.slice t3 p.time.cells.length c3t,.int .i64 p.dist.n,.slice d3 p.dist.cells.length c3d,.slice v3 p.vs.length c3v,.slice j3 p.js.length c3j,.slice s3 p.ss.length c3s] 29)=z:=⟨_,rfl⟩;rw [hz3];have HQ3:Hid (z3.heap[w3.heap.size]? = some (.cells #[.int .i64 p.dims,.int .i64 p.time.n,.slice t3 p.time.cells.length c3t,.int .i64 p.dist.n,.slice d3 p.dist.cells.length c3d,.slice v3 p.vs.length c3v,.slice j3 p.js.length c3j,.slice s3 p.ss.length c3s] 29 (0,0))):=by show _=_;rw [← hz3];exact aF _ _
  have K33:Hid (Below w3.heap.size w3 z3):=by show Below _ _ _;rw [← hz3];exact Mn.a
  clear hz3;have HP3z:=hide (HP3.out.on K33.out);have EZ3:=hide (below_on E3.out K33.out);clear HP3;have H40y:Hid (∀ W2 g c,PrbV W2 ⟨.slice t3 p.time.cells.length c3t,.slice d3 p.dist.cells.length c3d,.slice v3 p.vs.length c3v,.slice j3 p.js.length c3j,.slice s3 p.ss.length c3s⟩ p→VsV W2 (.slice (some ⟨g,0,none⟩) m c) V→m≤c→Calls Try.prog 40 #[.agg #[.int .i64 p.dims,.int .i64 p.time.n,.slice t3 p.time.cells.length c3t,.int .i64 p.dist.n,.slice d3 p.dist.cells.length c3d,.slice v3 p.vs.length c3v,.slice j3 p.js.length c3j,.slice s3 p.ss.length c3s],.int .i64 vi,.slice (some ⟨g,0,none⟩) m c] W2 fun e w'=>∃ pa pn pc,e=.returned (.tuple #[.agg #[.int .i64 pr.veh,.slice pa pn pc,.int .i64 pr.time,.int .i64 pr.dist,.int .i64 pr.wait,.int .i64 pr.serv,.int .i64 pr.cost],.int .i64 er])∧PlanV w' W2.heap.size (.agg #[.int .i64 pr.veh,.slice pa pn pc,.int .i64 pr.time,.int .i64 pr.dist,.int .i64 pr.wait,.int .i64 pr.serv,.int .i64 pr.cost]) pr∧Below W2.heap.size W2 w'):=fun W2 g c hp hv hc=>H40.out W2 ⟨.slice t3 p.time.cells.length c3t,.slice d3 p.dist.cells.length c3d,.slice v3 p.vs.length c3v,.slice j3 p.js.length c3j,.slice s3 p.ss.length c3s⟩ g c hp hv hc;clear H40;go_wp2_with (first | (at_builtin;refine bS (.tmp 36) (.tmp 38) rfl rfl rfl rfl (VRow.later HR5.out (Nat.le_refl _) Mn.a) HM.out (one_vis (aF _ _)) rfl (fun h=>by cases h) (by omega) (by have h1:=E35.out.size;simp;omega) ?_;intro a6 c6 w6 r1 r2 _;have HR6:Hid (VRow w6 z3.heap.size (.slice a6 (m+1) c6) (V ++ [(77,0)])):=r1;have E36:=hide (E35.out.trans ((Mn.a.mono E35.out.size).trans r2));clear r1 r2) | (at_builtin;refine bS (.tmp 34) (.tmp 35) rfl rfl rfl rfl HR4.out rfl (PrV.on HV.out (below_on HBW.out (below_on EZ3.out E34.out))) HM.out HZ.out (by omega) E34.out.size ?_;intro a5 c5 w5 r1 r2 _;simp only [Nat.zero_add,List.nil_append] at r1 ⊢;have HR5:=hide r1;have E35:=hide (E34.out.trans r2);clear r1 r2) | (at_make;refine m5 rC Try.underlying55 (.const (.int .i64 0)) (.tmp 33) rfl rfl (n:=m+3) rfl rfl (by omega) (by omega) (by omega) ?_;intro w4 k1 k2 k3;have HR4:Hid (VRow w4 z3.heap.size (.slice (some ⟨z3.heap.size,0,none⟩) 0 (m+3)) []):=k1;have E34:=hide k2;clear k1 k2 k3) | fail);obtain ⟨gi,hgi,hci⟩:=vR HR6.out (Nat.succ_pos m);subst hgi;obtain ⟨z6,hz6⟩:∃ z:World,w6=z:=⟨_,rfl⟩;subst hz6;have HVI1:=hide (VRow.vs HR6.out (by rw [List.length_append,HM.out,List.length_singleton];omega))
  skip
  have HVI:Hid (VsV w6 (.slice (some ⟨gi,0,none⟩) m c6) V):=vs_init HVI1.out HM.out;have HCI:Hid (m≤c6):=by show _≤_;omega
  obtain ⟨bi,oi,hbi,hbl,hbc⟩:=vs_last HVI1.out HM.out;injection hbi with hbi;injection hbi with hbi1 hbi2 _;subst hbi1 hbi2;rw [Nat.zero_add] at hbc;have HBC:=hide hbc;have HBL:=hide hbl;have HQ6:=hide ((E36.out.block _ (aD HQ3.out)).trans HQ3.out);have HP6:=hide (HP3z.out.on E36.out);have EW6:=hide (below_on HBW.out (below_on EZ3.out E36.out));clear hbc hbl HR4 HR5 HR6 E34 E35 HVI1 wm3 HP3z;have jm1:(0:Int)≤(m:Int):=by omega
  have jm2:(m:Int)≤(c6:Int):=by omega
  have jm3:¬ (c6:Int)<(m:Int):=by omega
  have HS6:Hid (∀ w',Below w6.heap.size w6 w'→w'.cell? ⟨w3.heap.size,0,none⟩=some (.int .i64 p.dims)∧w'.cell? ⟨w3.heap.size,1,none⟩=some (.int .i64 p.time.n)∧w'.cell? ⟨w3.heap.size,2,none⟩=some (.slice t3 p.time.cells.length c3t)∧w'.cell? ⟨w3.heap.size,3,none⟩=some (.int .i64 p.dist.n)∧w'.cell? ⟨w3.heap.size,4,none⟩=some (.slice d3 p.dist.cells.length c3d)∧w'.cell? ⟨w3.heap.size,5,none⟩=some (.slice v3 p.vs.length c3v)∧w'.cell? ⟨w3.heap.size,6,none⟩=some (.slice j3 p.js.length c3j)∧w'.cell? ⟨w3.heap.size,7,none⟩=some (.slice s3 p.ss.length c3s)):=fun w' hb=>⟨((aA hb).1 _ 0 (aD HQ6.out)).trans (cell_of_row _ _ _ _ _ _ HQ6.out),((aA hb).1 _ 1 (aD HQ6.out)).trans (cell_of_row _ _ _ _ _ _ HQ6.out),((aA hb).1 _ 2 (aD HQ6.out)).trans (cell_of_row _ _ _ _ _ _ HQ6.out),((aA hb).1 _ 3 (aD HQ6.out)).trans (cell_of_row _ _ _ _ _ _ HQ6.out),((aA hb).1 _ 4 (aD HQ6.out)).trans (cell_of_row _ _ _ _ _ _ HQ6.out),((aA hb).1 _ 5 (aD HQ6.out)).trans (cell_of_row _ _ _ _ _ _ HQ6.out),((aA hb).1 _ 6 (aD HQ6.out)).trans (cell_of_row _ _ _ _ _ _ HQ6.out),((aA hb).1 _ 7 (aD HQ6.out)).trans (cell_of_row _ _ _ _ _ _ HQ6.out)⟩
  go_cut [9,10] from 40 to 49 (fun va vb wx=>∃ (x8:Nat) (pa2:Option Addr) (pn2 pc2:Nat),va=.pointer (some ⟨x8,0,none⟩)∧vb=.int .i64 er∧w6.heap.size≤x8∧Hid (wx.heap[x8]? = some (.cells #[.int .i64 pr.veh,.slice pa2 pn2 pc2,.int .i64 pr.time,.int .i64 pr.dist,.int .i64 pr.wait,.int .i64 pr.serv,.int .i64 pr.cost] 71 (0,0)))∧Hid (PlanX wx w6.heap.size (.agg #[.int .i64 pr.veh,.slice pa2 pn2 pc2,.int .i64 pr.time,.int .i64 pr.dist,.int .i64 pr.wait,.int .i64 pr.serv,.int .i64 pr.cost]) pr x8)∧Hid (Below w6.heap.size w6 wx))
  case first =>
   refine wp_region_held_drew (S:=(fun w'=>w'.cell? ⟨w3.heap.size,0,none⟩=some (.int .i64 p.dims)∧w'.cell? ⟨w3.heap.size,1,none⟩=some (.int .i64 p.time.n)∧w'.cell? ⟨w3.heap.size,2,none⟩=some (.slice t3 p.time.cells.length c3t)∧w'.cell? ⟨w3.heap.size,3,none⟩=some (.int .i64 p.dist.n)∧w'.cell? ⟨w3.heap.size,4,none⟩=some (.slice d3 p.dist.cells.length c3d)∧w'.cell? ⟨w3.heap.size,5,none⟩=some (.slice v3 p.vs.length c3v)∧w'.cell? ⟨w3.heap.size,6,none⟩=some (.slice j3 p.js.length c3j)∧w'.cell? ⟨w3.heap.size,7,none⟩=some (.slice s3 p.ss.length c3s))) (by kernel_rfl) ?_ (fun hHeld0=>?_)
   ·(try dsimp only);first | fail | exact HS6.out _ (Below.refl _ _) | exact HS6.out _ ((Below.refl _ _).drew) | (go_keep;done)
   obtain ⟨u0,hu0⟩:∃ u,w6.drew=u:=⟨_,rfl⟩;rw [hu0];rw [hu0] at hHeld0;have K0:Hid (Below w6.heap.size w6 u0):=by show Below _ _ _;rw [← hu0];exact ((Below.refl _ _).drew)
   clear hu0;refine Mn.t 0 (oi:=⟨some 41,.load 29 (.tmp 7),29,"law.go:163",#[],none⟩) ?_;(try simp only [Act.put,List.setIfInBounds_toArray,List.set_cons_succ,List.set_cons_zero]);refine Mn.t 1 (oi:=⟨some 42,.move (.tmp 1),3,"law.go:163",#[],none⟩) ?_;(try simp only [Act.put,List.setIfInBounds_toArray,List.set_cons_succ,List.set_cons_zero]);refine Mn.t 2 (oi:=⟨some 43,.move (.tmp 8),55,"law.go:163",#[],none⟩) ?_;(try simp only [Act.put,List.setIfInBounds_toArray,List.set_cons_succ,List.set_cons_zero]);refine Mn.t 3 (oi:=⟨some 44,.move (.tmp 2),55,"law.go:163",#[],none⟩) ?_;(try simp only [Act.put,List.setIfInBounds_toArray,List.set_cons_succ,List.set_cons_zero]);refine Mn.t 4 (oi:=⟨some 45,.call { callee:=.builtin .len,args:=#[.tmp 44],argTypes:=#[55] },3,"law.go:163",#[⟨3,.data⟩],none⟩) ?_;(try simp only [Act.put,List.setIfInBounds_toArray,List.set_cons_succ,List.set_cons_zero]);refine Mn.t 5 (oi:=⟨some 46,.slice 55 (.tmp 43) none (some (.tmp 45)) none,55,"law.go:163",#[⟨2,.data⟩,⟨4,.data⟩],none⟩) ?_;(try simp only [Act.put,List.setIfInBounds_toArray,List.set_cons_succ,List.set_cons_zero]);refine wpAnyH_ready (rs:=[6,10]) (by kernel_rfl) (by simp) ?_;refine AllReadyH.cons (o:=⟨some 47,.call { callee:=.value (.func 40),args:=#[.tmp 41,.tmp 42,.tmp 46],argTypes:=#[29,3,55] },72,"law.go:163",#[⟨0,.data⟩,⟨1,.data⟩,⟨5,.data⟩],none⟩) rfl (fun K hK=>?_) ?_
   ·refine aG (by rfl) 40 _ _ (by rfl) vB [.agg #[.int .i64 p.dims,.int .i64 p.time.n,.slice t3 p.time.cells.length c3t,.int .i64 p.dist.n,.slice d3 p.dist.cells.length c3d,.slice v3 p.vs.length c3v,.slice j3 p.js.length c3j,.slice s3 p.ss.length c3s],.int .i64 vi,.slice (some ⟨gi,0,none⟩) m c6] (by rfl) ?_;refine (H40y.out _ _ _ (HP6.out.on K0.out) (PrV.on HVI.out K0.out) HCI.out).mono ?_;rintro e u1 ⟨pa2,pn2,pc2,rfl,q9,k9⟩;refine ⟨_,rfl,?_⟩;have E1:=hide k9;have K1:=hide (below_on K0.out k9);clear k9;have HPL1:=hide (q9);have HPLc:=HPL1;clear q9;refine hK.out _ _ ?_ (fun hHeld1=>?_)
    ·(try dsimp only);exact HS6.out _ K1.out
    clear hK K;(try simp only [Act.put,List.setIfInBounds_toArray,List.set_cons_succ,List.set_cons_zero]);clear hHeld0;refine Mn.t 7 (oi:=⟨some 40,.move (.tmp 47),72,"law.go:163",#[⟨6,.data⟩],none⟩) ?_;(try simp only [Act.put,List.setIfInBounds_toArray,List.set_cons_succ,List.set_cons_zero]);refine Mn.t 8 (oi:=⟨some 48,.extract (.tmp 40) 0,71,"law.go:163",#[⟨7,.data⟩],none⟩) ?_;(try simp only [Act.put,List.setIfInBounds_toArray,List.set_cons_succ,List.set_cons_zero]);refine Mn.t 9 (oi:=⟨some 49,.extract (.tmp 40) 1,62,"law.go:163",#[⟨7,.data⟩,⟨11,.gcOnly .lateStores⟩],none⟩) ?_;(try simp only [Act.put,List.setIfInBounds_toArray,List.set_cons_succ,List.set_cons_zero]);refine wpAnyH_ready (rs:=[10]) (by kernel_rfl) (by simp) ?_;refine AllReadyH.cons (o:=⟨some 9,.alloc 71,0,"law.go:163",#[],none⟩) rfl (fun K hK=>?_) ?_
    ·go_simp
     refine hK.out _ _ ?_ (fun hHeld2=>?_)
     ·(try dsimp only);exact HS6.out _ (below_on K1.out Mn.a)
     clear hK K;(try simp only [Act.put,List.setIfInBounds_toArray,List.set_cons_succ,List.set_cons_zero]);clear hHeld1;have LT2:Hid (u1.heap.size<(u1.alloc (.cells #[.int .i64 0,.slice none 0 0,.int .i64 0,.int .i64 0,.int .i64 0,.int .i64 0,.int .i64 0] 71)).heap.size):=(by show _<_;simp);obtain ⟨u2,hu2⟩:∃ u,u1.alloc (.cells #[.int .i64 0,.slice none 0 0,.int .i64 0,.int .i64 0,.int .i64 0,.int .i64 0,.int .i64 0] 71)=u:=⟨_,rfl⟩;rw [hu2];rw [hu2] at hHeld2 LT2;have E2:Hid (Below u1.heap.size u1 u2):=by show Below _ _ _;rw [← hu2];exact Mn.a
     have K2:=hide (below_on K1.out E2.out);have HPL2:=hide (HPL1.out.on E2.out);clear HPL1;have HX2:Hid (u2.heap[u1.heap.size]? = some (.cells #[.int .i64 0,.slice none 0 0,.int .i64 0,.int .i64 0,.int .i64 0,.int .i64 0,.int .i64 0] 71)):=by show _=_;rw [← hu2];exact aF _ _
     clear hu2;refine wpAnyH_ready (rs:=[11]) (by kernel_rfl) (by simp) ?_;refine AllReadyH.cons (o:=⟨none,.store 71 (.tmp 9) (.tmp 48),0,"law.go:163",#[⟨10,.data⟩,⟨8,.data⟩,⟨6,.chain⟩,⟨0,.phase⟩,⟨1,.phase⟩,⟨2,.phase⟩,⟨3,.phase⟩,⟨4,.phase⟩,⟨5,.phase⟩,⟨6,.phase⟩,⟨7,.phase⟩,⟨8,.phase⟩,⟨9,.textOnly .lateStores⟩,⟨10,.phase⟩],none⟩) rfl (fun K hK=>?_) ?_
     ·refine jS (by rfl) 71 (.tmp 9) (.tmp 48) (by rfl) (u1.heap.size) #[.int .i64 pr.veh,.slice pa2 pn2 pc2,.int .i64 pr.time,.int .i64 pr.dist,.int .i64 pr.wait,.int .i64 pr.serv,.int .i64 pr.cost] (by rfl) (by rfl) 71 _ HX2.out (by kernel_rfl) (by rfl) (by simp [Value.oneCell']) ?_;obtain ⟨wz,hwz⟩:∃ z,(u2).setRow (u1.heap.size) #[.int .i64 pr.veh,.slice pa2 pn2 pc2,.int .i64 pr.time,.int .i64 pr.dist,.int .i64 pr.wait,.int .i64 pr.serv,.int .i64 pr.cost]=z:=⟨_,rfl⟩;have hz1:wz.heap[u1.heap.size]? = some (.cells #[.int .i64 pr.veh,.slice pa2 pn2 pc2,.int .i64 pr.time,.int .i64 pr.dist,.int .i64 pr.wait,.int .i64 pr.serv,.int .i64 pr.cost] 71 (0,0)):=by rw [← hwz];exact setRow_heap _ _ _ _ _ _ HX2.out
      have hz2:(u2).grownBy wz (some (u1.heap.size)):=by rw [← hwz];exact pO _ _ _
      rw [hwz];have HZ1:=hide hz1;have HZ2:=hide hz2;clear hwz hz1 hz2;refine hK.out _ _ ?_ (fun hHeld3=>?_)
      ·(try dsimp only);exact HS6.out _ (K2.out.trans (bD HZ2.out K1.out.size K2.out.size))
      clear hK K;(try simp only [Act.put]);clear hHeld2;refine Mn.t 12 (oi:=⟨some 10,.assign (.tmp 49),62,"law.go:163",#[⟨9,.data⟩,⟨11,.chain⟩,⟨0,.phase⟩,⟨1,.phase⟩,⟨2,.phase⟩,⟨3,.phase⟩,⟨4,.phase⟩,⟨5,.phase⟩,⟨6,.phase⟩,⟨7,.phase⟩,⟨8,.phase⟩,⟨9,.phase⟩,⟨10,.phase⟩,⟨11,.phase⟩],none⟩) ?_;(try simp only [Act.put,List.setIfInBounds_toArray,List.set_cons_succ,List.set_cons_zero]);refine wpAnyH_done (by kernel_rfl) ?_ _;clear hHeld3;go_wp2_with fail;go_meet
      case rel=>exact ⟨u1.heap.size,pa2,pn2,pc2,rfl,rfl,K1.out.size,HZ1.out,PlanX.mono (PlanX.of HPLc.out (E2.out.trans (bD HZ2.out (Nat.le_refl _) E2.out.size)) (Nat.le_refl _)) K0.out.size,K2.out.trans (bD HZ2.out K1.out.size K2.out.size)⟩
     exact AllReadyH.nil
    exact AllReadyH.nil
   refine AllReadyH.cons (o:=⟨some 9,.alloc 71,0,"law.go:163",#[],none⟩) rfl (fun K hK=>?_) ?_
   ·go_simp
    refine hK.out _ _ ?_ (fun hHeld4=>?_)
    ·(try dsimp only);exact HS6.out _ (below_on K0.out Mn.a)
    clear hK K;(try simp only [Act.put,List.setIfInBounds_toArray,List.set_cons_succ,List.set_cons_zero]);clear hHeld0;have LT1:Hid (u0.heap.size<(u0.alloc (.cells #[.int .i64 0,.slice none 0 0,.int .i64 0,.int .i64 0,.int .i64 0,.int .i64 0,.int .i64 0] 71)).heap.size):=(by show _<_;simp);obtain ⟨u1,hu1⟩:∃ u,u0.alloc (.cells #[.int .i64 0,.slice none 0 0,.int .i64 0,.int .i64 0,.int .i64 0,.int .i64 0,.int .i64 0] 71)=u:=⟨_,rfl⟩;rw [hu1];rw [hu1] at hHeld4 LT1;have E1:Hid (Below u0.heap.size u0 u1):=by show Below _ _ _;rw [← hu1];exact Mn.a
    have K1:=hide (below_on K0.out E1.out);have HX1:Hid (u1.heap[u0.heap.size]? = some (.cells #[.int .i64 0,.slice none 0 0,.int .i64 0,.int .i64 0,.int .i64 0,.int .i64 0,.int .i64 0] 71)):=by show _=_;rw [← hu1];exact aF _ _
    clear hu1;refine wpAnyH_ready (rs:=[6]) (by kernel_rfl) (by simp) ?_;refine AllReadyH.cons (o:=⟨some 47,.call { callee:=.value (.func 40),args:=#[.tmp 41,.tmp 42,.tmp 46],argTypes:=#[29,3,55] },72,"law.go:163",#[⟨0,.data⟩,⟨1,.data⟩,⟨5,.data⟩],none⟩) rfl (fun K hK=>?_) ?_
    ·refine aG (by rfl) 40 _ _ (by rfl) vB [.agg #[.int .i64 p.dims,.int .i64 p.time.n,.slice t3 p.time.cells.length c3t,.int .i64 p.dist.n,.slice d3 p.dist.cells.length c3d,.slice v3 p.vs.length c3v,.slice j3 p.js.length c3j,.slice s3 p.ss.length c3s],.int .i64 vi,.slice (some ⟨gi,0,none⟩) m c6] (by rfl) ?_;refine (H40y.out _ _ _ (HP6.out.on K1.out) (PrV.on HVI.out K1.out) HCI.out).mono ?_;rintro e u2 ⟨pa2,pn2,pc2,rfl,q9,k9⟩;refine ⟨_,rfl,?_⟩;have E2:=hide k9;have K2:=hide (below_on K1.out k9);clear k9;have HX2:=hide ((E2.out.block _ (aD HX1.out)).trans HX1.out);clear HX1;have HPL2:=hide (q9);have HPLc:=HPL2;clear q9;refine hK.out _ _ ?_ (fun hHeld5=>?_)
     ·(try dsimp only);exact HS6.out _ K2.out
     clear hK K;(try simp only [Act.put,List.setIfInBounds_toArray,List.set_cons_succ,List.set_cons_zero]);clear hHeld4;refine Mn.t 7 (oi:=⟨some 40,.move (.tmp 47),72,"law.go:163",#[⟨6,.data⟩],none⟩) ?_;(try simp only [Act.put,List.setIfInBounds_toArray,List.set_cons_succ,List.set_cons_zero]);refine Mn.t 8 (oi:=⟨some 48,.extract (.tmp 40) 0,71,"law.go:163",#[⟨7,.data⟩],none⟩) ?_;(try simp only [Act.put,List.setIfInBounds_toArray,List.set_cons_succ,List.set_cons_zero]);refine Mn.t 9 (oi:=⟨some 49,.extract (.tmp 40) 1,62,"law.go:163",#[⟨7,.data⟩,⟨11,.gcOnly .lateStores⟩],none⟩) ?_;(try simp only [Act.put,List.setIfInBounds_toArray,List.set_cons_succ,List.set_cons_zero]);refine wpAnyH_ready (rs:=[11]) (by kernel_rfl) (by simp) ?_;refine AllReadyH.cons (o:=⟨none,.store 71 (.tmp 9) (.tmp 48),0,"law.go:163",#[⟨10,.data⟩,⟨8,.data⟩,⟨6,.chain⟩,⟨0,.phase⟩,⟨1,.phase⟩,⟨2,.phase⟩,⟨3,.phase⟩,⟨4,.phase⟩,⟨5,.phase⟩,⟨6,.phase⟩,⟨7,.phase⟩,⟨8,.phase⟩,⟨9,.textOnly .lateStores⟩,⟨10,.phase⟩],none⟩) rfl (fun K hK=>?_) ?_
     ·refine jS (by rfl) 71 (.tmp 9) (.tmp 48) (by rfl) (u0.heap.size) #[.int .i64 pr.veh,.slice pa2 pn2 pc2,.int .i64 pr.time,.int .i64 pr.dist,.int .i64 pr.wait,.int .i64 pr.serv,.int .i64 pr.cost] (by rfl) (by rfl) 71 _ HX2.out (by kernel_rfl) (by rfl) (by simp [Value.oneCell']) ?_;obtain ⟨wz,hwz⟩:∃ z,(u2).setRow (u0.heap.size) #[.int .i64 pr.veh,.slice pa2 pn2 pc2,.int .i64 pr.time,.int .i64 pr.dist,.int .i64 pr.wait,.int .i64 pr.serv,.int .i64 pr.cost]=z:=⟨_,rfl⟩;have hz1:wz.heap[u0.heap.size]? = some (.cells #[.int .i64 pr.veh,.slice pa2 pn2 pc2,.int .i64 pr.time,.int .i64 pr.dist,.int .i64 pr.wait,.int .i64 pr.serv,.int .i64 pr.cost] 71 (0,0)):=by rw [← hwz];exact setRow_heap _ _ _ _ _ _ HX2.out
      have hz2:(u2).grownBy wz (some (u0.heap.size)):=by rw [← hwz];exact pO _ _ _
      rw [hwz];have HZ1:=hide hz1;have HZ2:=hide hz2;clear hwz hz1 hz2;refine hK.out _ _ ?_ (fun hHeld6=>?_)
      ·(try dsimp only);exact HS6.out _ (K2.out.trans (bD HZ2.out K0.out.size K2.out.size))
      clear hK K;(try simp only [Act.put]);clear hHeld5;refine Mn.t 12 (oi:=⟨some 10,.assign (.tmp 49),62,"law.go:163",#[⟨9,.data⟩,⟨11,.chain⟩,⟨0,.phase⟩,⟨1,.phase⟩,⟨2,.phase⟩,⟨3,.phase⟩,⟨4,.phase⟩,⟨5,.phase⟩,⟨6,.phase⟩,⟨7,.phase⟩,⟨8,.phase⟩,⟨9,.phase⟩,⟨10,.phase⟩,⟨11,.phase⟩],none⟩) ?_;(try simp only [Act.put,List.setIfInBounds_toArray,List.set_cons_succ,List.set_cons_zero]);refine wpAnyH_done (by kernel_rfl) ?_ _;clear hHeld6;go_wp2_with fail;go_meet
      case rel=>exact ⟨u0.heap.size,pa2,pn2,pc2,rfl,rfl,K0.out.size,HZ1.out,PlanX.mono (PlanX.low (HPL2.out.set HZ2.out LT1.out) LT1.out) K1.out.size,K2.out.trans (bD HZ2.out K0.out.size K2.out.size)⟩
     exact AllReadyH.nil
    exact AllReadyH.nil
   exact AllReadyH.nil
  case rest =>
  obtain ⟨x8,pa1,pn1,pc1,rfl,rfl,hx8,HX8,HPX,K7⟩:=hcut;rename World=>z7;have EW7:=hide (below_on EW6.out K7.out);have HV7:=hide (PrV.on HVI.out K7.out);have HVl7:=hide (PrV.on HV.out EW7.out);obtain ⟨m1,hm1⟩:∃ z,m+1=z:=⟨_,rfl⟩;simp only [hm1];have jm4:(m:Int)<(m1:Int):=by omega
  have jm5:¬ (m1:Int)≤(m:Int):=by omega
  have HM1:=hide hm1;clear hm1
  by_cases he0:er=0
  ·subst he0;have y7:((0:Int) != 0)=false:=rfl
   go_upto_region 12 with (first | (go_at_call 30;refine (H30.out _ _ _ _ _ _ _ HM.out HV7.out HVl7.out).mono ?_;rintro e z8 ⟨rfl,k8⟩;have K8:=hide (below_on K7.out k8);have hb8:z8.cell? ⟨gi,m*2,none⟩=some (.int .i64 77):=((aA K8.out).1 _ _ HBL.out).trans HBC.out;have HX8z:=hide ((k8.block _ (aD HX8.out)).trans HX8.out);have HPX8:=hide (PlanX.on HPX.out k8);clear k8) | fail)
   clear HX8 HPX HV7 HVl7 hb8
   obtain ⟨g,ys,rfl,hpn,hst⟩:=PlanX.take HPX8.out (fun h=>by
    obtain ⟨_,U,_,_,_,hU4⟩:=(rF (vi:=vi) (V:=V) HL.out).2 Her.out;rw [Hpr.out] at hU4;rw [hU4] at h;have h2:((List.range (aB p (p.vs.getD vi.toNat vz) U).length).map _).length=0:=h;rw [List.length_map,List.length_range,aO] at h2
    omega)
   obtain ⟨np,hnp⟩:∃ z,pr.steps.length=z:=⟨_,rfl⟩;rw [hnp] at hpn;subst hpn;have HNP:=hide hnp;have HST:=hide hst;clear hnp hst;have hnp2:np≤1000:=by have h1:=HSML.out.1;rw [HNP.out] at h1;exact h1
   have HPOS:Hid (∀ s ∈ pr.steps,∀ z ∈ s.load,0≤z):=by have h9:=fit_pos (vi:=vi) (V:=V) HL.out Her.out;rw [Hpr.out] at h9;exact h9
   have cx1:z8.cell? ⟨x8,1,none⟩=some (.slice (some ⟨g,0,none⟩) np pc1):=cell_of_row _ _ _ _ _ _ HX8z.out;go_wp2_with fail
   go_loopw [71] (fun v wr=>∃ q:Nat,v=.int .i64 q∧q≤np∧Hid (TurnO w6.heap.size z8 wr ys q)) (fun v _=>np-(intOf v).toNat)
   case atStart=>exact ⟨0,rfl,Nat.zero_le _,(by first | exact TurnO.refl | exact (TurnO.refl).drew | exact ((TurnO.refl).drew).drew)⟩
   case round =>
    clear cx1;obtain ⟨q,rfl,hq,HT⟩:=hrel
    by_cases hqn:q<np
    ·obtain ⟨s,hs⟩:∃ s,pr.steps[q]? = some s:=⟨_,List.getElem?_eq_getElem (by rw [HNP.out];omega)⟩;obtain ⟨a,c,hy,hcl,hri⟩:=HST.out.2.2.2 q s hs;obtain ⟨ld,hld⟩:∃ z,s.load.length=z:=⟨_,rfl⟩;rw [hld] at hy hcl hri;have hl3:ld≤3:=by rw [← hld];exact HSML.out.2 _ (List.mem_of_getElem? hs)
     have HY:=hide hy;have HCL:Hid (z8.cell? ⟨g,q*9+6,none⟩=some (.slice a ld c)):=hcl;have HRI:=hide hri;have HLD:=hide hld;have HSS:=hide hs;clear hy hcl hri hld hs;have b1:(q:Int)<(np:Int):=by omega
     have b2:(0:Int)≤(q:Int):=by omega
     have b3:¬ (np:Int)≤(q:Int):=by omega
     have ca1:wr.cell? ⟨x8,1,none⟩=some (.slice (some ⟨g,0,none⟩) np pc1):=TurnO.cell HT.out HST.out.1 (cell_of_row _ _ _ _ _ _ HX8z.out);have ca6:wr.cell? ⟨g,q*9+6,none⟩=some (.slice a ld c):=TurnO.cell HT.out HST.out.2.1 HCL.out;go_wp2_with fail;clear ca1 ca6
     go_loopw [81] (fun v wy=>∃ d:Nat,v=.int .i64 d∧d≤ld∧Hid (TurnO w6.heap.size z8 wy ys (q+1))∧Hid (0<ld→∃ b,a=some ⟨b,0,none⟩∧w6.heap.size≤b∧ld≤c∧RowN wy b ld)) (fun v _=>ld-(intOf v).toNat)
     case atStart=>exact ⟨0,rfl,Nat.zero_le _,(by first | exact HT.out.next | exact (HT.out.next).drew | exact ((HT.out.next).drew).drew),fun h=>by obtain ⟨b,e1,e2,e3,e4⟩:=irow_n (TurnO.row HT.out HST.out.2.2.1 (Nat.le_refl _) HY.out HRI.out) h;exact ⟨b,e1,e2,e4,by first | exact e3 | exact RowN.drew e3⟩⟩
     case round =>
     obtain ⟨d,rfl,hd,HT2,HR2⟩:=hrel
     by_cases hdl:d<ld
     ·have cb1:wr.cell? ⟨x8,1,none⟩=some (.slice (some ⟨g,0,none⟩) np pc1):=TurnO.cell HT2.out HST.out.1 (cell_of_row _ _ _ _ _ _ HX8z.out);have cb6:wr.cell? ⟨g,q*9+6,none⟩=some (.slice a ld c):=TurnO.cell HT2.out HST.out.2.1 HCL.out;obtain ⟨b,rfl,hbB,hbc,hRN⟩:=HR2.out (by omega);obtain ⟨⟨zz,cz⟩,fz⟩:=hRN.get hdl;have HRN:=hide hRN;clear hRN HR2;have d1:(d:Int)<(ld:Int):=by omega
      have d2:(0:Int)≤(d:Int):=by omega
      have d3:¬ (ld:Int)≤(d:Int):=by omega
      have wd:IntKind.i64.wrap ((d:Int)+1)=((d+1:Nat):Int):=by rw [IntKind.wrap_i64];omega
      go_wp2_with fail;go_roundw
      case rel=>exact ⟨d+1,by go_num,by omega,(by first | exact TurnO.set HT2.out HY.out rfl hbB d _ | exact (TurnO.set HT2.out HY.out rfl hbB d _).drew | exact ((TurnO.set HT2.out HY.out rfl hbB d _).drew).drew),fun _=>⟨b,rfl,hbB,hbc,by first | exact HRN.out.set hdl | exact (HRN.out.set hdl).drew⟩⟩
      case measure=>simp [intOf];omega
     ·have d1:¬ (d:Int)<(ld:Int):=by omega
      have wq:IntKind.i64.wrap ((q:Int)+1)=((q+1:Nat):Int):=by rw [IntKind.wrap_i64];omega
      go_wp2_with fail;clear HR2
      go_loopw [13] (fun v wx=>∃ k:Nat,v=.int .i64 k∧q+1≤k∧k≤np∧Hid (TurnO w6.heap.size z8 wx ys (q+1))) (fun v _=>np-(intOf v).toNat)
      case atStart=>exact ⟨q+1,by first | rfl | go_num,Nat.le_refl _,by omega,(by first | exact HT2.out | exact (HT2.out).drew | exact ((HT2.out).drew).drew)⟩
      case round =>
      obtain ⟨k,rfl,hk1,hk2,HT3⟩:=hrel
      by_cases hkn:k<np
      ·obtain ⟨sk,hsk⟩:∃ s,pr.steps[k]? = some s:=⟨_,List.getElem?_eq_getElem (by rw [HNP.out];omega)⟩;obtain ⟨ak,ck,hyk,hclk,hrik⟩:=HST.out.2.2.2 k sk hsk;obtain ⟨ldk,hldk⟩:∃ z,sk.load.length=z:=⟨_,rfl⟩;rw [hldk] at hyk hclk hrik;have hl3k:ldk≤3:=by rw [← hldk];exact HSML.out.2 _ (List.mem_of_getElem? hsk)
       have HYk:=hide hyk;have HCLk:Hid (z8.cell? ⟨g,k*9+6,none⟩=some (.slice ak ldk ck)):=hclk;have HRIk:=hide hrik;have HLDk:=hide hldk;have HSSk:=hide hsk;clear hyk hclk hrik hldk hsk;have b1k:(k:Int)<(np:Int):=by omega
       have b2k:(0:Int)≤(k:Int):=by omega
       have b3k:¬ (np:Int)≤(k:Int):=by omega
       have ce1:wr.cell? ⟨x8,1,none⟩=some (.slice (some ⟨g,0,none⟩) np pc1):=TurnO.cell HT3.out HST.out.1 (cell_of_row _ _ _ _ _ _ HX8z.out);have ce6:wr.cell? ⟨g,k*9+6,none⟩=some (.slice ak ldk ck):=TurnO.cell HT3.out HST.out.2.1 HCLk.out;go_wp2_with fail;clear ce1 ce6
       go_loopw [109] (fun v wv=>∃ d:Nat,v=.int .i64 d∧d≤ldk∧Hid (TurnO w6.heap.size z8 wv ys (q+1))) (fun v _=>ldk-(intOf v).toNat)
       case atStart=>exact ⟨0,rfl,Nat.zero_le _,(by first | exact HT3.out | exact (HT3.out).drew | exact ((HT3.out).drew).drew)⟩
       case round =>
       obtain ⟨d2,rfl,hd2,HT4⟩:=hrel
       by_cases hdk:d2<ldk
       ·have cf1:wr.cell? ⟨x8,1,none⟩=some (.slice (some ⟨g,0,none⟩) np pc1):=TurnO.cell HT4.out HST.out.1 (cell_of_row _ _ _ _ _ _ HX8z.out);have cf6:wr.cell? ⟨g,k*9+6,none⟩=some (.slice ak ldk ck):=TurnO.cell HT4.out HST.out.2.1 HCLk.out;obtain ⟨b4,o4,hb4,hc4⟩:=IRow.ints (TurnO.row HT4.out HST.out.2.2.1 (by omega) HYk.out HRIk.out) d2 (by rw [HLDk.out];exact hdk);subst hb4
        have hnn:¬ sk.load[d2]!<0:=by
         have h1:=HPOS.out sk (List.mem_of_getElem? HSSk.out) sk.load[d2]! (by rw [getElem!_pos sk.load d2 (by rw [HLDk.out];exact hdk)];exact List.getElem_mem _)
         omega
        obtain ⟨nn,hnv⟩:∃ z,sk.load[d2]! = z:=⟨_,rfl⟩;rw [hnv] at hc4 hnn;clear hnv;have f1:(d2:Int)<(ldk:Int):=by omega
        have f2:(0:Int)≤(d2:Int):=by omega
        have f3:¬ (ldk:Int)≤(d2:Int):=by omega
        have wd2:IntKind.i64.wrap ((d2:Int)+1)=((d2+1:Nat):Int):=by rw [IntKind.wrap_i64];omega
        go_wp2_with fail;go_roundw
        case rel=>exact ⟨d2+1,by go_num,by omega,(by first | exact HT4.out | exact (HT4.out).drew | exact ((HT4.out).drew).drew)⟩
        case measure=>simp [intOf];omega
       ·have f1:¬ (d2:Int)<(ldk:Int):=by omega
        have wk:IntKind.i64.wrap ((k:Int)+1)=((k+1:Nat):Int):=by rw [IntKind.wrap_i64];omega
        go_wp2_with fail;go_roundw
        case rel=>exact ⟨k+1,by go_num,by omega,by omega,(by first | exact HT4.out | exact (HT4.out).drew | exact ((HT4.out).drew).drew)⟩
        case measure=>simp [intOf];omega
      ·have b1k:¬ (k:Int)<(np:Int):=by omega
       have cg1:wr.cell? ⟨x8,1,none⟩=some (.slice (some ⟨g,0,none⟩) np pc1):=TurnO.cell HT3.out HST.out.1 (cell_of_row _ _ _ _ _ _ HX8z.out);go_wp2_with fail;go_roundw
       case rel=>exact ⟨q+1,by go_num,by omega,(by first | exact HT3.out | exact (HT3.out).drew | exact ((HT3.out).drew).drew)⟩
       case measure=>simp [intOf];omega
    ·have b1:¬ (q:Int)<(np:Int):=by omega
     have K9:Hid (Below w6.heap.size w6 wr):=K8.out.trans HT.out.1;have HQ9:=hide ((K9.out.block _ (aD HQ6.out)).trans HQ6.out);have HP9:=hide (HP6.out.on K9.out);have HVI9:=hide (PrV.on HVI.out K9.out);have EW9:=hide (below_on EW6.out K9.out);clear HX8z HPX8 HST;have HS9:Hid (∀ w',Below wr.heap.size wr w'→w'.cell? ⟨w3.heap.size,0,none⟩=some (.int .i64 p.dims)∧w'.cell? ⟨w3.heap.size,1,none⟩=some (.int .i64 p.time.n)∧w'.cell? ⟨w3.heap.size,2,none⟩=some (.slice t3 p.time.cells.length c3t)∧w'.cell? ⟨w3.heap.size,3,none⟩=some (.int .i64 p.dist.n)∧w'.cell? ⟨w3.heap.size,4,none⟩=some (.slice d3 p.dist.cells.length c3d)∧w'.cell? ⟨w3.heap.size,5,none⟩=some (.slice v3 p.vs.length c3v)∧w'.cell? ⟨w3.heap.size,6,none⟩=some (.slice j3 p.js.length c3j)∧w'.cell? ⟨w3.heap.size,7,none⟩=some (.slice s3 p.ss.length c3s)):=fun w' hb=>⟨((aA hb).1 _ 0 (aD HQ9.out)).trans (cell_of_row _ _ _ _ _ _ HQ9.out),((aA hb).1 _ 1 (aD HQ9.out)).trans (cell_of_row _ _ _ _ _ _ HQ9.out),((aA hb).1 _ 2 (aD HQ9.out)).trans (cell_of_row _ _ _ _ _ _ HQ9.out),((aA hb).1 _ 3 (aD HQ9.out)).trans (cell_of_row _ _ _ _ _ _ HQ9.out),((aA hb).1 _ 4 (aD HQ9.out)).trans (cell_of_row _ _ _ _ _ _ HQ9.out),((aA hb).1 _ 5 (aD HQ9.out)).trans (cell_of_row _ _ _ _ _ _ HQ9.out),((aA hb).1 _ 6 (aD HQ9.out)).trans (cell_of_row _ _ _ _ _ _ HQ9.out),((aA hb).1 _ 7 (aD HQ9.out)).trans (cell_of_row _ _ _ _ _ _ HQ9.out)⟩;go_wp2_with fail
     go_cut [15,16] from 124 to 133 (fun va vb wx=>∃ (x8:Nat) (pa2:Option Addr) (pn2 pc2:Nat),va=.pointer (some ⟨x8,0,none⟩)∧vb=.int .i64 0∧wr.heap.size≤x8∧Hid (wx.heap[x8]? = some (.cells #[.int .i64 pr.veh,.slice pa2 pn2 pc2,.int .i64 pr.time,.int .i64 pr.dist,.int .i64 pr.wait,.int .i64 pr.serv,.int .i64 pr.cost] 71 (0,0)))∧Hid (PlanX wx wr.heap.size (.agg #[.int .i64 pr.veh,.slice pa2 pn2 pc2,.int .i64 pr.time,.int .i64 pr.dist,.int .i64 pr.wait,.int .i64 pr.serv,.int .i64 pr.cost]) pr x8)∧Hid (Below wr.heap.size wr wx))
     case first =>
      refine wp_region_held_drew (S:=(fun w'=>w'.cell? ⟨w3.heap.size,0,none⟩=some (.int .i64 p.dims)∧w'.cell? ⟨w3.heap.size,1,none⟩=some (.int .i64 p.time.n)∧w'.cell? ⟨w3.heap.size,2,none⟩=some (.slice t3 p.time.cells.length c3t)∧w'.cell? ⟨w3.heap.size,3,none⟩=some (.int .i64 p.dist.n)∧w'.cell? ⟨w3.heap.size,4,none⟩=some (.slice d3 p.dist.cells.length c3d)∧w'.cell? ⟨w3.heap.size,5,none⟩=some (.slice v3 p.vs.length c3v)∧w'.cell? ⟨w3.heap.size,6,none⟩=some (.slice j3 p.js.length c3j)∧w'.cell? ⟨w3.heap.size,7,none⟩=some (.slice s3 p.ss.length c3s))) (by kernel_rfl) ?_ (fun hHeld0=>?_)
      ·(try dsimp only);first | fail | exact HS9.out _ (Below.refl _ _) | exact HS9.out _ ((Below.refl _ _).drew) | (go_keep;done)
      obtain ⟨u0,hu0⟩:∃ u,wr.drew=u:=⟨_,rfl⟩;rw [hu0];rw [hu0] at hHeld0;have K0:Hid (Below wr.heap.size wr u0):=by show Below _ _ _;rw [← hu0];exact ((Below.refl _ _).drew)
      clear hu0;refine Mn.t 0 (oi:=⟨some 125,.load 29 (.tmp 7),29,"law.go:182",#[],none⟩) ?_;(try simp only [Act.put,List.setIfInBounds_toArray,List.set_cons_succ,List.set_cons_zero]);refine Mn.t 1 (oi:=⟨some 126,.move (.tmp 1),3,"law.go:182",#[],none⟩) ?_;(try simp only [Act.put,List.setIfInBounds_toArray,List.set_cons_succ,List.set_cons_zero]);refine Mn.t 2 (oi:=⟨some 127,.move (.tmp 8),55,"law.go:182",#[],none⟩) ?_;(try simp only [Act.put,List.setIfInBounds_toArray,List.set_cons_succ,List.set_cons_zero]);refine Mn.t 3 (oi:=⟨some 128,.move (.tmp 2),55,"law.go:182",#[],none⟩) ?_;(try simp only [Act.put,List.setIfInBounds_toArray,List.set_cons_succ,List.set_cons_zero]);refine Mn.t 4 (oi:=⟨some 129,.call { callee:=.builtin .len,args:=#[.tmp 128],argTypes:=#[55] },3,"law.go:182",#[⟨3,.data⟩],none⟩) ?_;(try simp only [Act.put,List.setIfInBounds_toArray,List.set_cons_succ,List.set_cons_zero]);refine Mn.t 5 (oi:=⟨some 130,.slice 55 (.tmp 127) none (some (.tmp 129)) none,55,"law.go:182",#[⟨2,.data⟩,⟨4,.data⟩],none⟩) ?_;(try simp only [Act.put,List.setIfInBounds_toArray,List.set_cons_succ,List.set_cons_zero]);refine wpAnyH_ready (rs:=[6,10]) (by kernel_rfl) (by simp) ?_;refine AllReadyH.cons (o:=⟨some 131,.call { callee:=.value (.func 40),args:=#[.tmp 125,.tmp 126,.tmp 130],argTypes:=#[29,3,55] },72,"law.go:182",#[⟨0,.data⟩,⟨1,.data⟩,⟨5,.data⟩],none⟩) rfl (fun K hK=>?_) ?_
      ·refine aG (by rfl) 40 _ _ (by rfl) vB [.agg #[.int .i64 p.dims,.int .i64 p.time.n,.slice t3 p.time.cells.length c3t,.int .i64 p.dist.n,.slice d3 p.dist.cells.length c3d,.slice v3 p.vs.length c3v,.slice j3 p.js.length c3j,.slice s3 p.ss.length c3s],.int .i64 vi,.slice (some ⟨gi,0,none⟩) m c6] (by rfl) ?_;refine (H40y.out _ _ _ (HP9.out.on K0.out) (PrV.on HVI9.out K0.out) HCI.out).mono ?_;rintro e u1 ⟨pa2,pn2,pc2,rfl,q9,k9⟩;refine ⟨_,rfl,?_⟩;have E1:=hide k9;have K1:=hide (below_on K0.out k9);clear k9;have HPL1:=hide (q9);have HPLc:=HPL1;clear q9;refine hK.out _ _ ?_ (fun hHeld1=>?_)
       ·(try dsimp only);exact HS9.out _ K1.out
       clear hK K;(try simp only [Act.put,List.setIfInBounds_toArray,List.set_cons_succ,List.set_cons_zero]);clear hHeld0;refine Mn.t 7 (oi:=⟨some 124,.move (.tmp 131),72,"law.go:182",#[⟨6,.data⟩],none⟩) ?_;(try simp only [Act.put,List.setIfInBounds_toArray,List.set_cons_succ,List.set_cons_zero]);refine Mn.t 8 (oi:=⟨some 132,.extract (.tmp 124) 0,71,"law.go:182",#[⟨7,.data⟩],none⟩) ?_;(try simp only [Act.put,List.setIfInBounds_toArray,List.set_cons_succ,List.set_cons_zero]);refine Mn.t 9 (oi:=⟨some 133,.extract (.tmp 124) 1,62,"law.go:182",#[⟨7,.data⟩,⟨11,.gcOnly .lateStores⟩],none⟩) ?_;(try simp only [Act.put,List.setIfInBounds_toArray,List.set_cons_succ,List.set_cons_zero]);refine wpAnyH_ready (rs:=[10]) (by kernel_rfl) (by simp) ?_;refine AllReadyH.cons (o:=⟨some 15,.alloc 71,0,"law.go:182",#[],none⟩) rfl (fun K hK=>?_) ?_
       ·go_simp
        refine hK.out _ _ ?_ (fun hHeld2=>?_)
        ·(try dsimp only);exact HS9.out _ (below_on K1.out Mn.a)
        clear hK K;(try simp only [Act.put,List.setIfInBounds_toArray,List.set_cons_succ,List.set_cons_zero]);clear hHeld1;have LT2:Hid (u1.heap.size<(u1.alloc (.cells #[.int .i64 0,.slice none 0 0,.int .i64 0,.int .i64 0,.int .i64 0,.int .i64 0,.int .i64 0] 71)).heap.size):=(by show _<_;simp);obtain ⟨u2,hu2⟩:∃ u,u1.alloc (.cells #[.int .i64 0,.slice none 0 0,.int .i64 0,.int .i64 0,.int .i64 0,.int .i64 0,.int .i64 0] 71)=u:=⟨_,rfl⟩;rw [hu2];rw [hu2] at hHeld2 LT2;have E2:Hid (Below u1.heap.size u1 u2):=by show Below _ _ _;rw [← hu2];exact Mn.a
        have K2:=hide (below_on K1.out E2.out);have HPL2:=hide (HPL1.out.on E2.out);clear HPL1;have HX2:Hid (u2.heap[u1.heap.size]? = some (.cells #[.int .i64 0,.slice none 0 0,.int .i64 0,.int .i64 0,.int .i64 0,.int .i64 0,.int .i64 0] 71)):=by show _=_;rw [← hu2];exact aF _ _
        clear hu2;refine wpAnyH_ready (rs:=[11]) (by kernel_rfl) (by simp) ?_;refine AllReadyH.cons (o:=⟨none,.store 71 (.tmp 15) (.tmp 132),0,"law.go:182",#[⟨10,.data⟩,⟨8,.data⟩,⟨6,.chain⟩,⟨0,.phase⟩,⟨1,.phase⟩,⟨2,.phase⟩,⟨3,.phase⟩,⟨4,.phase⟩,⟨5,.phase⟩,⟨6,.phase⟩,⟨7,.phase⟩,⟨8,.phase⟩,⟨9,.textOnly .lateStores⟩,⟨10,.phase⟩],none⟩) rfl (fun K hK=>?_) ?_
        ·refine jS (by rfl) 71 (.tmp 15) (.tmp 132) (by rfl) (u1.heap.size) #[.int .i64 pr.veh,.slice pa2 pn2 pc2,.int .i64 pr.time,.int .i64 pr.dist,.int .i64 pr.wait,.int .i64 pr.serv,.int .i64 pr.cost] (by rfl) (by rfl) 71 _ HX2.out (by kernel_rfl) (by rfl) (by simp [Value.oneCell']) ?_;obtain ⟨wz,hwz⟩:∃ z,(u2).setRow (u1.heap.size) #[.int .i64 pr.veh,.slice pa2 pn2 pc2,.int .i64 pr.time,.int .i64 pr.dist,.int .i64 pr.wait,.int .i64 pr.serv,.int .i64 pr.cost]=z:=⟨_,rfl⟩;have hz1:wz.heap[u1.heap.size]? = some (.cells #[.int .i64 pr.veh,.slice pa2 pn2 pc2,.int .i64 pr.time,.int .i64 pr.dist,.int .i64 pr.wait,.int .i64 pr.serv,.int .i64 pr.cost] 71 (0,0)):=by rw [← hwz];exact setRow_heap _ _ _ _ _ _ HX2.out
         have hz2:(u2).grownBy wz (some (u1.heap.size)):=by rw [← hwz];exact pO _ _ _
         rw [hwz];have HZ1:=hide hz1;have HZ2:=hide hz2;clear hwz hz1 hz2;refine hK.out _ _ ?_ (fun hHeld3=>?_)
         ·(try dsimp only);exact HS9.out _ (K2.out.trans (bD HZ2.out K1.out.size K2.out.size))
         clear hK K;(try simp only [Act.put]);clear hHeld2;refine Mn.t 12 (oi:=⟨some 16,.assign (.tmp 133),62,"law.go:182",#[⟨9,.data⟩,⟨11,.chain⟩,⟨0,.phase⟩,⟨1,.phase⟩,⟨2,.phase⟩,⟨3,.phase⟩,⟨4,.phase⟩,⟨5,.phase⟩,⟨6,.phase⟩,⟨7,.phase⟩,⟨8,.phase⟩,⟨9,.phase⟩,⟨10,.phase⟩,⟨11,.phase⟩],none⟩) ?_;(try simp only [Act.put,List.setIfInBounds_toArray,List.set_cons_succ,List.set_cons_zero]);refine wpAnyH_done (by kernel_rfl) ?_ _;clear hHeld3;go_wp2_with fail;go_meet
         case rel=>exact ⟨u1.heap.size,pa2,pn2,pc2,rfl,rfl,K1.out.size,HZ1.out,PlanX.mono (PlanX.of HPLc.out (E2.out.trans (bD HZ2.out (Nat.le_refl _) E2.out.size)) (Nat.le_refl _)) K0.out.size,K2.out.trans (bD HZ2.out K1.out.size K2.out.size)⟩
        exact AllReadyH.nil
       exact AllReadyH.nil
      refine AllReadyH.cons (o:=⟨some 15,.alloc 71,0,"law.go:182",#[],none⟩) rfl (fun K hK=>?_) ?_
      ·go_simp
       refine hK.out _ _ ?_ (fun hHeld4=>?_)
       ·(try dsimp only);exact HS9.out _ (below_on K0.out Mn.a)
       clear hK K;(try simp only [Act.put,List.setIfInBounds_toArray,List.set_cons_succ,List.set_cons_zero]);clear hHeld0;have LT1:Hid (u0.heap.size<(u0.alloc (.cells #[.int .i64 0,.slice none 0 0,.int .i64 0,.int .i64 0,.int .i64 0,.int .i64 0,.int .i64 0] 71)).heap.size):=(by show _<_;simp);obtain ⟨u1,hu1⟩:∃ u,u0.alloc (.cells #[.int .i64 0,.slice none 0 0,.int .i64 0,.int .i64 0,.int .i64 0,.int .i64 0,.int .i64 0] 71)=u:=⟨_,rfl⟩;rw [hu1];rw [hu1] at hHeld4 LT1;have E1:Hid (Below u0.heap.size u0 u1):=by show Below _ _ _;rw [← hu1];exact Mn.a
       have K1:=hide (below_on K0.out E1.out);have HX1:Hid (u1.heap[u0.heap.size]? = some (.cells #[.int .i64 0,.slice none 0 0,.int .i64 0,.int .i64 0,.int .i64 0,.int .i64 0,.int .i64 0] 71)):=by show _=_;rw [← hu1];exact aF _ _
       clear hu1;refine wpAnyH_ready (rs:=[6]) (by kernel_rfl) (by simp) ?_;refine AllReadyH.cons (o:=⟨some 131,.call { callee:=.value (.func 40),args:=#[.tmp 125,.tmp 126,.tmp 130],argTypes:=#[29,3,55] },72,"law.go:182",#[⟨0,.data⟩,⟨1,.data⟩,⟨5,.data⟩],none⟩) rfl (fun K hK=>?_) ?_
       ·refine aG (by rfl) 40 _ _ (by rfl) vB [.agg #[.int .i64 p.dims,.int .i64 p.time.n,.slice t3 p.time.cells.length c3t,.int .i64 p.dist.n,.slice d3 p.dist.cells.length c3d,.slice v3 p.vs.length c3v,.slice j3 p.js.length c3j,.slice s3 p.ss.length c3s],.int .i64 vi,.slice (some ⟨gi,0,none⟩) m c6] (by rfl) ?_;refine (H40y.out _ _ _ (HP9.out.on K1.out) (PrV.on HVI9.out K1.out) HCI.out).mono ?_;rintro e u2 ⟨pa2,pn2,pc2,rfl,q9,k9⟩;refine ⟨_,rfl,?_⟩;have E2:=hide k9;have K2:=hide (below_on K1.out k9);clear k9;have HX2:=hide ((E2.out.block _ (aD HX1.out)).trans HX1.out);clear HX1;have HPL2:=hide (q9);have HPLc:=HPL2;clear q9;refine hK.out _ _ ?_ (fun hHeld5=>?_)
        ·(try dsimp only);exact HS9.out _ K2.out
        clear hK K;(try simp only [Act.put,List.setIfInBounds_toArray,List.set_cons_succ,List.set_cons_zero]);clear hHeld4;refine Mn.t 7 (oi:=⟨some 124,.move (.tmp 131),72,"law.go:182",#[⟨6,.data⟩],none⟩) ?_;(try simp only [Act.put,List.setIfInBounds_toArray,List.set_cons_succ,List.set_cons_zero]);refine Mn.t 8 (oi:=⟨some 132,.extract (.tmp 124) 0,71,"law.go:182",#[⟨7,.data⟩],none⟩) ?_;(try simp only [Act.put,List.setIfInBounds_toArray,List.set_cons_succ,List.set_cons_zero]);refine Mn.t 9 (oi:=⟨some 133,.extract (.tmp 124) 1,62,"law.go:182",#[⟨7,.data⟩,⟨11,.gcOnly .lateStores⟩],none⟩) ?_;(try simp only [Act.put,List.setIfInBounds_toArray,List.set_cons_succ,List.set_cons_zero]);refine wpAnyH_ready (rs:=[11]) (by kernel_rfl) (by simp) ?_;refine AllReadyH.cons (o:=⟨none,.store 71 (.tmp 15) (.tmp 132),0,"law.go:182",#[⟨10,.data⟩,⟨8,.data⟩,⟨6,.chain⟩,⟨0,.phase⟩,⟨1,.phase⟩,⟨2,.phase⟩,⟨3,.phase⟩,⟨4,.phase⟩,⟨5,.phase⟩,⟨6,.phase⟩,⟨7,.phase⟩,⟨8,.phase⟩,⟨9,.textOnly .lateStores⟩,⟨10,.phase⟩],none⟩) rfl (fun K hK=>?_) ?_
        ·refine jS (by rfl) 71 (.tmp 15) (.tmp 132) (by rfl) (u0.heap.size) #[.int .i64 pr.veh,.slice pa2 pn2 pc2,.int .i64 pr.time,.int .i64 pr.dist,.int .i64 pr.wait,.int .i64 pr.serv,.int .i64 pr.cost] (by rfl) (by rfl) 71 _ HX2.out (by kernel_rfl) (by rfl) (by simp [Value.oneCell']) ?_;obtain ⟨wz,hwz⟩:∃ z,(u2).setRow (u0.heap.size) #[.int .i64 pr.veh,.slice pa2 pn2 pc2,.int .i64 pr.time,.int .i64 pr.dist,.int .i64 pr.wait,.int .i64 pr.serv,.int .i64 pr.cost]=z:=⟨_,rfl⟩;have hz1:wz.heap[u0.heap.size]? = some (.cells #[.int .i64 pr.veh,.slice pa2 pn2 pc2,.int .i64 pr.time,.int .i64 pr.dist,.int .i64 pr.wait,.int .i64 pr.serv,.int .i64 pr.cost] 71 (0,0)):=by rw [← hwz];exact setRow_heap _ _ _ _ _ _ HX2.out
         have hz2:(u2).grownBy wz (some (u0.heap.size)):=by rw [← hwz];exact pO _ _ _
         rw [hwz];have HZ1:=hide hz1;have HZ2:=hide hz2;clear hwz hz1 hz2;refine hK.out _ _ ?_ (fun hHeld6=>?_)
         ·(try dsimp only);exact HS9.out _ (K2.out.trans (bD HZ2.out K0.out.size K2.out.size))
         clear hK K;(try simp only [Act.put]);clear hHeld5;refine Mn.t 12 (oi:=⟨some 16,.assign (.tmp 133),62,"law.go:182",#[⟨9,.data⟩,⟨11,.chain⟩,⟨0,.phase⟩,⟨1,.phase⟩,⟨2,.phase⟩,⟨3,.phase⟩,⟨4,.phase⟩,⟨5,.phase⟩,⟨6,.phase⟩,⟨7,.phase⟩,⟨8,.phase⟩,⟨9,.phase⟩,⟨10,.phase⟩,⟨11,.phase⟩],none⟩) ?_;(try simp only [Act.put,List.setIfInBounds_toArray,List.set_cons_succ,List.set_cons_zero]);refine wpAnyH_done (by kernel_rfl) ?_ _;clear hHeld6;go_wp2_with fail;go_meet
         case rel=>exact ⟨u0.heap.size,pa2,pn2,pc2,rfl,rfl,K0.out.size,HZ1.out,PlanX.mono (PlanX.low (HPL2.out.set HZ2.out LT1.out) LT1.out) K1.out.size,K2.out.trans (bD HZ2.out K0.out.size K2.out.size)⟩
        exact AllReadyH.nil
       exact AllReadyH.nil
      exact AllReadyH.nil
     case rest =>
     obtain ⟨x15,pa2,pn2,pc2,rfl,rfl,hx15,HX15,HPX15,K15⟩:=hcut;rename World=>z15;have EW15:=hide (below_on EW9.out K15.out);have HPW:=hide (PlanX.v HPX15.out).w;have E15:=hide (below_on (below_on EZ3.out E36.out) (below_on K9.out K15.out));have y9:((0:Int) == 0)=true:=rfl;obtain ⟨ph0,ph1,ph2,ph3,ph4,ph5,ph6,ph7⟩:=Mn.c8 (fun j=>((aA E15.out).1 _ j HLW.out).trans (HC.out j))
     go_upto_region 32 with (first | (go_at_call 41;refine (H41.out _ EW15.out).mono ?_;rintro e z16 ⟨pa3,pn3,pc3,rfl,hw3,k16⟩;have HPW3:=hide hw3;have K16:=hide k16;clear k16 hw3) | fail)
     obtain ⟨z17,hz17⟩:∃ z,z16.alloc (.cells #[.int .i64 pr.veh,.slice pa3 pn3 pc3,.int .i64 pr.time,.int .i64 pr.dist,.int .i64 pr.wait,.int .i64 pr.serv,.int .i64 pr.cost] 71)=z:=⟨_,rfl⟩;rw [hz17];have HX17:Hid (z17.heap[z16.heap.size]? = some (.cells #[.int .i64 pr.veh,.slice pa3 pn3 pc3,.int .i64 pr.time,.int .i64 pr.dist,.int .i64 pr.wait,.int .i64 pr.serv,.int .i64 pr.cost] 71 (0,0))):=by show _=_;rw [← hz17];exact aF _ _
     have K17:Hid (Below z16.heap.size z16 z17):=by show Below _ _ _;rw [← hz17];exact Mn.a
     clear hz17;have K1517:=hide (below_on K16.out K17.out);have HX15z:=hide ((K1517.out.block _ (aD HX15.out)).trans HX15.out);have HW2:=hide (PlanW.on HPW.out K1517.out);have HW3:=hide (PlanW.on HPW3.out K17.out);have xa0:z17.cell? ⟨x15,0,none⟩=some (.int .i64 pr.veh):=cell_of_row _ _ _ _ _ _ HX15z.out;have xa1:z17.cell? ⟨x15,1,none⟩=some (.slice pa2 pn2 pc2):=cell_of_row _ _ _ _ _ _ HX15z.out;have xa2:z17.cell? ⟨x15,2,none⟩=some (.int .i64 pr.time):=cell_of_row _ _ _ _ _ _ HX15z.out;have xa3:z17.cell? ⟨x15,3,none⟩=some (.int .i64 pr.dist):=cell_of_row _ _ _ _ _ _ HX15z.out;have xa4:z17.cell? ⟨x15,4,none⟩=some (.int .i64 pr.wait):=cell_of_row _ _ _ _ _ _ HX15z.out;have xa5:z17.cell? ⟨x15,5,none⟩=some (.int .i64 pr.serv):=cell_of_row _ _ _ _ _ _ HX15z.out;have xa6:z17.cell? ⟨x15,6,none⟩=some (.int .i64 pr.cost):=cell_of_row _ _ _ _ _ _ HX15z.out;have xb0:z17.cell? ⟨z16.heap.size,0,none⟩=some (.int .i64 pr.veh):=cell_of_row _ _ _ _ _ _ HX17.out;have xb1:z17.cell? ⟨z16.heap.size,1,none⟩=some (.slice pa3 pn3 pc3):=cell_of_row _ _ _ _ _ _ HX17.out;have xb2:z17.cell? ⟨z16.heap.size,2,none⟩=some (.int .i64 pr.time):=cell_of_row _ _ _ _ _ _ HX17.out;have xb3:z17.cell? ⟨z16.heap.size,3,none⟩=some (.int .i64 pr.dist):=cell_of_row _ _ _ _ _ _ HX17.out;have xb4:z17.cell? ⟨z16.heap.size,4,none⟩=some (.int .i64 pr.wait):=cell_of_row _ _ _ _ _ _ HX17.out;have xb5:z17.cell? ⟨z16.heap.size,5,none⟩=some (.int .i64 pr.serv):=cell_of_row _ _ _ _ _ _ HX17.out;have xb6:z17.cell? ⟨z16.heap.size,6,none⟩=some (.int .i64 pr.cost):=cell_of_row _ _ _ _ _ _ HX17.out;go_wp2_with (first | (go_at_call 39;refine (H39.out _ _ _ _ _ _ _ _ _ HW2.out HW3.out).mono ?_;rintro e z18 ⟨rfl,k18⟩;have K18:=hide k18;clear k18) | fail);go_ret;exact ⟨rfl,below_on EW15.out (below_on K1517.out K18.out)⟩
  ·have y7:(er != 0)=true:=by simpa using he0
   go_wp2_with (first | (go_at_call 30;refine (H30.out _ _ _ _ _ _ _ HM.out HV7.out HVl7.out).mono ?_;rintro e z8 ⟨rfl,k8⟩;have K8:=hide (below_on K7.out k8);have hb8:z8.cell? ⟨gi,m*2,none⟩=some (.int .i64 77):=((aA K8.out).1 _ _ HBL.out).trans HBC.out;have HX8z:=hide ((k8.block _ (aD HX8.out)).trans HX8.out);have HPX8:=hide (PlanX.on HPX.out k8);clear k8) | fail);go_ret;exact ⟨rfl,below_on EW6.out K8.out⟩
end Go.Proofs.Ytgjpkpmikbpcnaa
