import Derived.Test.YtgjpkpmikbpcnaaProg
import Derived.WalkKit
import Derived.WalkSpells
import Derived.WalkLawsBesides
import Derived.Deep.QuietTactic
import Derived.BigQuiet
import Derived.BigRegion
import Derived.Deep.RegionWith
import Derived.Deep.RegionHeld
import Derived.Laws.AppendOwnNone
import Derived.Laws.OwnMore
import Derived.Shelf.Abstract
import Derived.Test.YtgjpkpmikbpcnaaOStpM
set_option maxRecDepth 100000
set_option maxHeartbeats 3200000
namespace Go.Proofs.Ytgjpkpmikbpcnaa
open Go.RowKit
def aS (p:Prb) (k i:Int):Stp:=if aI p k i=true then (if k=1 then (p.js.getD i.toNat jz).stop else if k=2 then (p.ss.getD i.toNat hz).pick else (p.ss.getD i.toNat hz).deli) else sz
theorem lH {p:Prb} {k i:Int} (h:aI p k i=false):aS p k i=sz:=by unfold aS;rw [h];rfl
theorem ycG (k i:Int):(k=1∧ofM k i=((false,i),true))∨(k=2∧ofM k i=((true,i),true))∨(k=3∧ofM k i=((true,i),true))∨(k≠1∧k≠2∧k≠3∧ofM k i=((false,0),false)):=by
 unfold ofM
 by_cases h1:k=1
 ·exact .inl ⟨h1,by rw [if_pos h1]⟩
 ·by_cases h2:k=2
  ·exact .inr (.inl ⟨h2,by rw [if_neg h1,if_pos h2]⟩)
  ·by_cases h3:k=3
   ·exact .inr (.inr (.inl ⟨h3,by rw [if_neg h1,if_neg h2,if_pos h3]⟩))
   ·exact .inr (.inr (.inr ⟨h1,h2,h3,by rw [if_neg h1,if_neg h2,if_neg h3]⟩))
theorem aN {p:Prb} {k i:Int} (h:aI p k i=true):(k=1∧∃ j:Nat,i=j∧j<p.js.length∧aS p k i=(p.js.getD j jz).stop)∨(k=2∧∃ j:Nat,i=j∧j<p.ss.length∧aS p k i=(p.ss.getD j hz).pick)∨(k=3∧∃ j:Nat,i=j∧j<p.ss.length∧aS p k i=(p.ss.getD j hz).deli):=by
 have h0:=h;unfold aI at h0
 rcases ycG k i with ⟨rfl,e⟩ | ⟨rfl,e⟩ | ⟨rfl,e⟩ | ⟨_,_,_,e⟩ <;> rw [e] at h0 <;> simp at h0
 ·obtain ⟨j,rfl,hj⟩:=lG h0;exact .inl ⟨rfl,j,rfl,hj,by unfold aS;rw [h];simp⟩
 ·obtain ⟨j,rfl,hj⟩:=iE h0;exact .inr (.inl ⟨rfl,j,rfl,hj,by unfold aS;rw [h];simp⟩)
 ·obtain ⟨j,rfl,hj⟩:=iE h0;exact .inr (.inr ⟨rfl,j,rfl,hj,by unfold aS;rw [h];simp⟩)
theorem jM {w:World} {x:aU} {p:Prb} (h:PrbV w x p) (k i:Int):Calls Try.prog 22 #[.agg (aL p x),.agg #[.int .i64 k,.int .i64 i]] w fun e w'=>∃ y,e=.returned (.tuple #[.agg #[.int .i64 (aS p k i).place,.int .i64 (aS p k i).serv,y],.bool (aI p k i)])∧WinsV w' y (aS p k i).wins∧Below w.heap.size w w':=by
 cases ht:aI p k i with
 | false =>
  rw [lH ht];refine (qJ h k i ht).mono ?_;rintro e w' ⟨rfl,hb⟩;exact ⟨_,rfl,⟨none,0,rfl,fun _=>rfl,rfl,by decide,fun k hk=>by simp [sz] at hk⟩,hb⟩
 | true =>
  rcases aN ht with ⟨rfl,j,rfl,hj,e⟩ | ⟨rfl,j,rfl,hj,e⟩ | ⟨rfl,j,rfl,hj,e⟩ <;> rw [e]
  ·exact wR h hj
  ·exact uQ h hj
  ·exact uS h hj
theorem ybW {w:World} {x:aU} {p:Prb} (h:PrbV w x p) (k i:Int):Calls Try.prog 21 #[.agg (aL p x),.agg #[.int .i64 k,.int .i64 i]] w fun e w'=>∃ y,e=.returned (.tuple #[.agg #[.int .i64 (aS p k i).place,.int .i64 (aS p k i).serv,y],.bool (aI p k i)])∧w'.ownsRow w.heap.size 61 2 y (aS p k i).wins.length (cX (aS p k i).wins)∧Below w.heap.size w w':=by
 cases ht:aI p k i with
 | false =>
  rw [lH ht];refine (ybX h k i ht).mono ?_;rintro e w' ⟨rfl,hb⟩;exact ⟨_,rfl,World.ownsRow_nil _ _ _ _,hb⟩
 | true =>
  rcases aN ht with ⟨rfl,j,rfl,hj,e⟩ | ⟨rfl,j,rfl,hj,e⟩ | ⟨rfl,j,rfl,hj,e⟩ <;> rw [e]
  ·exact yV h hj
  ·exact wC h hj
  ·exact wD h hj
end Go.Proofs.Ytgjpkpmikbpcnaa
namespace Go.Proofs.Ytgjpkpmikbpcnaa.Hr
abbrev Win:=Int × Int
def Lw (L:List Win):Prop:=(∀ w ∈ L,w.1≤w.2∧0≤w.1∧w.2≤1000000)∧L.Pairwise fun u v=>u.2<v.1
theorem Lw.tail {w:Win} {L:List Win} (h:Lw (w::L)):Lw L:=⟨fun u hu=>h.1 u (List.mem_cons_of_mem _ hu),(List.pairwise_cons.1 h.2).2⟩
def inP (L:List Win) (x:Int):Prop:=∃ w ∈ L,w.1≤x∧x≤w.2
theorem inP_cons {w:Win} {L:List Win} {x:Int}:inP (w::L) x↔(w.1≤x∧x≤w.2)∨inP L x:=by simp [inP]
theorem inP_app {A B:List Win} {x:Int}:inP (A ++ B) x↔inP A x∨inP B x:=by
 unfold inP
 constructor
 ·rintro ⟨w,h,k⟩
  rcases List.mem_append.1 h with h | h
  ·exact .inl ⟨w,h,k⟩
  ·exact .inr ⟨w,h,k⟩
 ·rintro (⟨w,h,k⟩ | ⟨w,h,k⟩)
  ·exact ⟨w,List.mem_append.2 (.inl h),k⟩
  ·exact ⟨w,List.mem_append.2 (.inr h),k⟩
theorem inP_one {w:Win} {x:Int}:inP [w] x↔w.1≤x∧x≤w.2:=by simp [inP]
theorem yaZ {x:Int}:¬ inP [] x:=by simp [inP]

def IsStart (L:List Win) (t:Int) (r:Int × Bool):Prop :=
 (r.2=true∧t≤r.1∧inP L r.1∧∀ x,t≤x→x<r.1→¬ inP L x)∨(r=(0,false)∧∀ x,t≤x→¬ inP L x)
theorem IsStart.eq {L:List Win} {t:Int} {r s:Int × Bool} (h:IsStart L t r) (k:IsStart L t s):r=s:=by
 rcases h with ⟨h1,h2,h3,h4⟩ | ⟨h1,h2⟩ <;> rcases k with ⟨k1,k2,k3,k4⟩ | ⟨k1,k2⟩
 ·have e:r.1=s.1:=by
   rcases Int.lt_trichotomy r.1 s.1 with h | h | h
   ·exact absurd h3 (k4 _ h2 h)
   ·exact h
   ·exact absurd k3 (h4 _ k2 h)
  exact Prod.ext e (by rw [h1,k1])
 ·exact absurd h3 (k2 _ h2)
 ·exact absurd k3 (h2 _ k2)
 ·rw [h1,k1]
def startM (t:Int):List Win→Int × Bool
 | []=>(0,false)
 | w::r=>if t≤w.2 then (if w.1<t then t else w.1,true) else startM t r
theorem startM_is (t:Int):∀ L:List Win,Lw L→IsStart L t (startM t L)
 | [],_=>.inr ⟨rfl,fun _ _=>yaZ⟩
 | w::r,h=>by
  have hw:=h.1 w List.mem_cons_self;have hr:=(List.pairwise_cons.1 h.2).1
  by_cases ht:t≤w.2
  ·rw [startM,if_pos ht]
   have hin:∀ x,x<w.1→¬ inP (w::r) x:=fun x hx h=>by
    rcases inP_cons.1 h with h | ⟨u,hu,h⟩
    ·omega
    ·have:=hr u hu;omega
   by_cases h2:w.1<t
   ·rw [if_pos h2];exact .inl ⟨rfl,Int.le_refl _,inP_cons.2 (.inl ⟨by show w.1≤t;omega,ht⟩),fun x h1 h2=>by simp only at h2;omega⟩
   ·rw [if_neg h2];exact .inl ⟨rfl,by show t≤w.1;omega,inP_cons.2 (.inl ⟨Int.le_refl _,by show w.1≤w.2;omega⟩),fun x _ h=>hin x h⟩
  ·rw [startM,if_neg ht];have e:∀ x,t≤x→(inP (w::r) x↔inP r x):=fun x hx=>by rw [inP_cons];exact ⟨fun h=>h.elim (fun h=>by omega) id,.inr⟩
   rcases startM_is t r h.tail with ⟨h1,h2,h3,h4⟩ | ⟨h1,h2⟩
   ·exact .inl ⟨h1,h2,(e _ h2).2 h3,fun x hx hl=>by rw [e x hx];exact h4 x hx hl⟩
   ·exact .inr ⟨h1,fun x hx=>by rw [e x hx];exact h2 x hx⟩
def rV (t:Int) (s:Int × Bool) (w:Win):Int × Bool :=
 if w.2<t then s else if s.2=false∨(if w.1<t then t else w.1)<s.1 then (if w.1<t then t else w.1,true) else s
def rst (t:Int) (L:List Win):Int × Bool:=L.foldl (rV t) (0,false)
theorem yeF {t:Int} {P:List Win} {s:Int × Bool} {w:Win} (hw:w.1≤w.2) (h:IsStart P t s):IsStart (P ++ [w]) t (rV t s w):=by
 unfold rV
 by_cases ht:w.2<t
 ·rw [if_pos ht];have e:∀ x,t≤x→(inP (P ++ [w]) x↔inP P x):=fun x hx=>by rw [inP_app,inP_one];exact ⟨fun h=>h.elim id (fun h=>by omega),.inl⟩
  rcases h with ⟨h1,h2,h3,h4⟩ | ⟨h1,h2⟩
  ·exact .inl ⟨h1,h2,(e _ h2).2 h3,fun x hx hl=>by rw [e x hx];exact h4 x hx hl⟩
  ·exact .inr ⟨h1,fun x hx=>by rw [e x hx];exact h2 x hx⟩
 ·rw [if_neg ht];obtain ⟨y,hy⟩:∃ y,(if w.1<t then t else w.1)=y:=⟨_,rfl⟩;rw [hy]
  have y1:t≤y∧w.1≤y∧y≤w.2∧∀ x,t≤x→w.1≤x→y≤x:=by
   split at hy
   ·exact ⟨by omega,by omega,by omega,fun x _ _=>by omega⟩
   ·exact ⟨by omega,by omega,by omega,fun x _ _=>by omega⟩
  obtain ⟨y1,y2,y3,y4⟩:=y1
  by_cases hc:s.2=false∨y<s.1
  ·rw [if_pos hc];refine .inl ⟨rfl,y1,inP_app.2 (.inr (inP_one.2 ⟨y2,y3⟩)),fun x hx hl hin=>?_⟩;simp only at hl
   rcases inP_app.1 hin with hin | hin
   ·rcases h with ⟨h1,h2,h3,h4⟩ | ⟨h1,h2⟩
    ·rcases hc with hc | hc
     ·rw [h1] at hc;cases hc
     ·exact h4 x hx (by omega) hin
    ·exact h2 x hx hin
   ·have:=y4 x hx (inP_one.1 hin).1;omega
  ·rw [if_neg hc]
   rcases h with ⟨h1,h2,h3,h4⟩ | ⟨h1,h2⟩
   ·refine .inl ⟨h1,h2,inP_app.2 (.inl h3),fun x hx hl hin=>?_⟩
    rcases inP_app.1 hin with hin | hin
    ·exact h4 x hx hl hin
    ·have:=y4 x hx (inP_one.1 hin).1;exact hc (.inr (by omega))
   ·exact absurd (.inl (by rw [h1])) hc
theorem yeG (t:Int):∀ (L P:List Win) (s:Int × Bool),(∀ w ∈ L,w.1≤w.2)→IsStart P t s→IsStart (P ++ L) t (L.foldl (rV t) s)
 | [],P,s,_,h=>by simpa using h
 | w::r,P,s,hl,h=>by
  have:=yeG t r (P ++ [w]) _ (fun u hu=>hl u (List.mem_cons_of_mem _ hu)) (yeF (hl w List.mem_cons_self) h);rw [List.append_assoc] at this;exact this
theorem rst_eq {t:Int} {L:List Win} (h:Lw L):startM t L=rst t L :=
 (startM_is t L h).eq (yeG t L [] (0,false) (fun w hw=>(h.1 w hw).1) (.inr ⟨rfl,fun _ _=>yaZ⟩))
end Go.Proofs.Ytgjpkpmikbpcnaa.Hr
namespace Go.Proofs.Ytgjpkpmikbpcnaa.Hr
open Go.RowKit
theorem hide {p:Prop} (h:p):Hid p:=h
theorem below_on {a b c:World} (h:Below a.heap.size a b) (k:Below b.heap.size b c):Below a.heap.size a c:=h.trans (k.mono h.size)
structure WinsAt (w:World) (a:Option Addr) (m:Nat) (L:List Win):Prop where
 len:L.length=m
 max:m*16≤140737488351232
 cell:∀ k,k<m→∃ b off,a=some ⟨b,off,none⟩∧w.cell? ⟨b,off+k*2,none⟩=some (.int .i64 (L[k]!).1)∧w.cell? ⟨b,off+k*2+1,none⟩=some (.int .i64 (L[k]!).2)
theorem WinsAt.later {w w':World} {a:Option Addr} {m B:Nat} {L:List Win} (h:WinsAt w a m L) (hB:w.heap.size≤B) (f:Below B w w'):WinsAt w' a m L :=
 ⟨h.len,h.max,fun k hk=>by
  obtain ⟨b,off,e,h0,h1⟩:=h.cell k hk;have hb:b<B:=Nat.lt_of_lt_of_le (block_lt_of_cell h0) hB;exact ⟨b,off,e,(f.cell (p:=⟨b,_,none⟩) hb).trans h0,(f.cell (p:=⟨b,_,none⟩) hb).trans h1⟩⟩
theorem WinsAt.on {w w':World} {a:Option Addr} {m:Nat} {L:List Win} (h:WinsAt w a m L) (f:Below w.heap.size w w'):WinsAt w' a m L:=h.later (Nat.le_refl _) f
section
variable {w w':World} {base g cap m:Nat} {v:Value} {L:List Win}
end
end Go.Proofs.Ytgjpkpmikbpcnaa.Hr
namespace Go.Proofs.Ytgjpkpmikbpcnaa.Hr
open Go.RowKit
theorem len_max {w:World} {a:Option Addr} {m:Nat} {L:List Win} (h:WinsAt w a m L):m≤8796093021952:=by have:=h.max;omega
theorem start_any {a:Option Addr} {m c:Nat} {L:List Win} {w:World} (t:Int) (h:WinsAt w a m L) :
  Calls Try.prog 127 #[.slice a m c,.int .i64 t] w fun e w'=>e=.returned (.tuple #[.int .i64 (startM t L).1,.bool (startM t L).2])∧Below w.heap.size w w':=by
 have HA:=hide h;have hlm:=h.len;have hmm:=len_max h;clear h;obtain ⟨B,hB⟩:∃ B,w.heap.size=B:=⟨_,rfl⟩;have HB:=hide hB;rw [hB];clear hB;go_enter Try.func127,Try.ntmps127;go_wp2
 go_loopw [10] (fun vi wr=>∃ k:Nat,vi=.int .i64 k∧k≤m∧Hid (Below B w wr∧B≤wr.heap.size∧startM t L=startM t (L.drop k))) (fun vi _=>m-(intOf vi).toNat)
 case atStart=>exact ⟨0,rfl,Nat.zero_le _,by rw [← HB.out];exact Below.refl _ _,by rw [← HB.out];exact Nat.le_refl _,by rw [List.drop_zero]⟩
 case round =>
  obtain ⟨k,rfl,hk,HR⟩:=hrel;have HE:Hid (∀ o,Below B w (wr.alloc o)∧B≤(wr.alloc o).heap.size):=fun o=>⟨HR.out.1.alloc HR.out.2.1 o,by have:=HR.out.2.1;simp;omega⟩
  by_cases hlt:k<m
  ·obtain ⟨b,off,rfl,c0,c1⟩:=(HA.out.later (Nat.le_of_eq HB.out) HR.out.1).cell k hlt
   have HC:Hid (startM t L=if t≤(L[k]!).2 then (if (L[k]!).1<t then t else (L[k]!).1,true) else startM t (L.drop (k+1))):=by
    show _=_;rw [HR.out.2.2,List.drop_eq_getElem_cons (by omega),getElem!_pos L k (by omega)];rfl
   obtain ⟨x,hx⟩:∃ x,L[k]! = x:=⟨_,rfl⟩;rw [hx] at c0 c1 HC;obtain ⟨x1,x2⟩:=x;simp only at c0 c1;clear hx;have i3:(k:Int)<(m:Int):=by omega
   by_cases p1:t≤x2
   ·have E:Hid (startM t L=(if x1<t then t else x1,true)):=by show _=_;rw [HC.out,if_pos p1]
    by_cases p2:t<x1
    ·rw [if_neg (by omega)] at E;go_wp2
     go_ret2
     exact ⟨by rw [E.out];rfl,(HE.out _).1⟩
    ·have e2:(if x1<t then t else x1)=t:=by split <;> omega
     rw [e2] at E;have p3:x1≤t:=by omega
     clear e2;go_wp2
     go_ret2
     exact ⟨by rw [E.out];rfl,(HE.out _).1⟩
   ·have E:Hid (startM t L=startM t (L.drop (k+1))):=by show _=_;rw [HC.out,if_neg p1]
    go_wp2;go_roundw
    case rel=>exact ⟨k+1,by go_num,by omega,(HE.out _).1,(HE.out _).2,E.out⟩
    case measure=>simp [intOf];omega
  ·have:k=m:=by omega
   subst this;have E:Hid (startM t L=(0,false)):=by show _=_;rw [HR.out.2.2,List.drop_eq_nil_of_le (by omega)];rfl
   go_wp2
   go_ret2
   exact ⟨by rw [E.out];rfl,HR.out.1⟩
theorem zW {α β:Type} (f:α→β→α) (s:α) (L:List β) [Inhabited β] (k:Nat) (h:k<L.length):(L.take (k+1)).foldl f s=f ((L.take k).foldl f s) L[k]!:=by
 rw [List.take_succ_eq_append_getElem h,List.foldl_append,getElem!_pos L k h];rfl
theorem rstart_any {a:Option Addr} {m c:Nat} {L:List Win} {w:World} (t:Int) (h:WinsAt w a m L) :
  Calls Try.prog 49 #[.slice a m c,.int .i64 t] w fun e w'=>e=.returned (.tuple #[.int .i64 (rst t L).1,.bool (rst t L).2])∧w'=w:=by
 have HA:=hide h;have hlm:=h.len;have hmm:=len_max h;clear h;go_enter Try.func49,Try.ntmps49;go_wp2
 go_loopw [8,6,7] (fun vi vb vf wr=>∃ (k:Nat) (x:Int) (f:Bool),vi=.int .i64 k∧vb=.int .i64 x∧vf=.bool f∧k≤m∧Hid (wr=w∧(L.take k).foldl (rV t) (0,false)=(x,f))) (fun vi _ _ _=>m-(intOf vi).toNat)
 case atStart=>exact ⟨0,0,false,rfl,rfl,rfl,Nat.zero_le _,rfl,by simp⟩
 case round =>
  obtain ⟨k,x,f,rfl,rfl,rfl,hk,HR⟩:=hrel;obtain rfl:=HR.out.1;have HS:=hide HR.out.2;clear HR
  by_cases hlt:k<m
  ·obtain ⟨b,off,rfl,c0,c1⟩:=HA.out.cell k hlt;have HC:=hide (zW (rV t) (0,false) L k (by omega));rw [HS.out] at HC;obtain ⟨y,hx⟩:∃ y,L[k]! = y:=⟨_,rfl⟩;rw [hx] at c0 c1 HC;obtain ⟨x1,x2⟩:=y;simp only at c0 c1;clear hx HS;have i3:(k:Int)<(m:Int):=by omega
   by_cases p1:x2<t
   ·have E:Hid ((L.take (k+1)).foldl (rV t) (0,false)=(x,f)):=by show _=_;rw [HC.out];unfold rV;rw [if_pos p1]
    go_wp2;go_roundw
    case rel=>exact ⟨k+1,x,f,by go_num,rfl,rfl,by omega,trivial,E.out⟩
    case measure=>simp [intOf];omega
   ·obtain ⟨y,hy⟩:∃ y,(if x1<t then t else x1)=y:=⟨_,rfl⟩;have E:Hid ((L.take (k+1)).foldl (rV t) (0,false)=if f=false∨y<x then (y,true) else (x,f)):=by show _=_;rw [HC.out];unfold rV;simp only;rw [if_neg p1,hy]
    by_cases p2:x1<t
    ·rw [if_pos p2] at hy;subst hy
     cases f with
     | false =>
      have E2:=E.out;rw [if_pos (.inl rfl)] at E2
      replace E2:=hide E2
      clear E HC;go_wp2;go_roundw
      case rel=>exact ⟨k+1,t,true,by go_num,rfl,rfl,by omega,trivial,E2.out⟩
      case measure=>simp [intOf];omega
     | true =>
      by_cases p3:t<x
      ·have E2:=E.out;rw [if_pos (.inr p3)] at E2
       replace E2:=hide E2
       clear E HC;go_wp2;go_roundw
       case rel=>exact ⟨k+1,t,true,by go_num,rfl,rfl,by omega,trivial,E2.out⟩
       case measure=>simp [intOf];omega
      ·have E2:=E.out;rw [if_neg (by simp;omega)] at E2
       replace E2:=hide E2
       clear E HC;go_wp2;go_roundw
       case rel=>exact ⟨k+1,x,true,by go_num,rfl,rfl,by omega,trivial,E2.out⟩
       case measure=>simp [intOf];omega
    ·rw [if_neg p2] at hy;subst hy
     cases f with
     | false =>
      have E2:=E.out;rw [if_pos (.inl rfl)] at E2
      replace E2:=hide E2
      clear E HC;go_wp2;go_roundw
      case rel=>exact ⟨k+1,x1,true,by go_num,rfl,rfl,by omega,trivial,E2.out⟩
      case measure=>simp [intOf];omega
     | true =>
      by_cases p3:x1<x
      ·have E2:=E.out;rw [if_pos (.inr p3)] at E2
       replace E2:=hide E2
       clear E HC;go_wp2;go_roundw
       case rel=>exact ⟨k+1,x1,true,by go_num,rfl,rfl,by omega,trivial,E2.out⟩
       case measure=>simp [intOf];omega
      ·have E2:=E.out;rw [if_neg (by simp;omega)] at E2
       replace E2:=hide E2
       clear E HC;go_wp2;go_roundw
       case rel=>exact ⟨k+1,x,true,by go_num,rfl,rfl,by omega,trivial,E2.out⟩
       case measure=>simp [intOf];omega
  ·have:k=m:=by omega
   subst this
   have E:Hid (rst t L=(x,f)):=by
    show _=_;have:=HS.out;rw [List.take_of_length_le (by omega)] at this;exact this
   go_wp2
   go_ret2
   exact ⟨by rw [E.out];rfl,rfl⟩
end Go.Proofs.Ytgjpkpmikbpcnaa.Hr
namespace Go.Proofs.Ytgjpkpmikbpcnaa
open Go.RowKit
theorem cel_at {nn i k:Nat} {c:Int} (hk:k<nn):yA (nn:Int) (i*nn+k) c=(inB c (-1) 32000000 && !(decide (i=k) && decide (c≠0))):=by
 have e1:(((i*nn+k:Nat):Int) / (nn:Int))=(i:Int):=by
  rw [← Int.natCast_ediv]
  congr 1
  rw [Nat.mul_comm,Nat.mul_add_div (by omega),Nat.div_eq_of_lt hk,Nat.add_zero]
 have e2:(((i*nn+k:Nat):Int) % (nn:Int))=(k:Int):=by
  rw [← Int.natCast_emod]
  congr 1
  rw [Nat.mul_comm,Nat.mul_add_mod,Nat.mod_eq_of_lt hk]
 unfold yA;rw [e1,e2]
 congr 3
 simp only [decide_eq_decide]
 omega
theorem uW {i nn:Nat} (h:i<nn):i*nn+nn≤nn*nn:=by
 have:(i+1)*nn≤nn*nn:=Nat.mul_le_mul_right nn h;rw [Nat.add_mul,Nat.one_mul] at this;exact this
theorem wX {w:World} (nn:Nat) {x:Value} {mn:Int} {L:List Int} (h:IntsV w x L) (hn:1≤nn) (hn2:nn≤32):Calls Try.prog 82 #[.agg #[.int .i64 mn,x],.int .i64 nn] w fun e w'=>e=.returned (.bool (gW nn ⟨mn,L⟩))∧Below w.heap.size w w':=by
 obtain ⟨a,c,rfl,_,hl,hA⟩:=h;have HA:=hide hA;have HB0:Hid (∀ A,Below w.heap.size w (w.alloc A)):=fun A=>(Below.refl _ _).alloc (Nat.le_refl _) A;clear hA;obtain ⟨m,hm⟩:∃ m,L.length=m:=⟨_,rfl⟩;have HM:=hide hm;rw [hm] at hl ⊢;obtain ⟨N2,hN⟩:∃ N2:Nat,nn*nn=N2:=⟨_,rfl⟩;have hNi:(nn:Int)*(nn:Int)=(N2:Int):=by rw [← hN];simp
 have HNN:=hide hN
 have hN1:N2≤1024:=by
  rw [← hN];exact Nat.mul_le_mul hn2 hn2
 clear hN
 by_cases e1:mn=nn
 ·subst e1;have z1:((nn:Int) != (nn:Int))=false:=by simp
  by_cases e2:m=N2
  ·have HM2:=hide (matB_c (n:=nn) (m:=⟨(nn:Int),L⟩) rfl (by rw [hNi,hm,e2]));have z2:((m:Int) != (N2:Int))=false:=by simp [e2]
   rw [HM2.out];simp only;have HE2:=hide e2;clear hm e2;go_enter Try.func82,Try.ntmps82;go_wp2
   go_loop [5] (fun vi=>∃ i:Nat,vi=.int .i64 i∧i≤nn∧Hid (iM nn L 0=iM nn L (i*nn))) (fun vi=>nn-(intOf vi).toNat)
   case atStart=>exact ⟨0,rfl,Nat.zero_le _,by show _=_;rw [Nat.zero_mul]⟩
   case round =>
    obtain ⟨i,rfl,hi,HS⟩:=hrel
    by_cases hlt:i<nn
    ·have i3:(i:Int)<(nn:Int):=by omega
     obtain ⟨P,hP⟩:∃ P:Nat,i*nn=P:=⟨_,rfl⟩;have hPi:(i:Int)*(nn:Int)=(P:Int):=by rw [← hP];simp
     have hPP:P+nn≤N2:=by rw [← hP,← HNN.out];exact uW hlt
     have HP:=hide hP;clear hP;go_wp2
     go_loop [6,7] (fun vk _=>∃ k:Nat,vk=.int .i64 k∧k≤nn∧Hid (iM nn L 0=iM nn L (i*nn+k))) (fun vk _=>nn-(intOf vk).toNat)
     case atStart=>exact ⟨0,rfl,Nat.zero_le _,HS.out⟩
     case round =>
      obtain ⟨k,rfl,hk,HS2⟩:=hrel
      by_cases hkt:k<nn
      ·have i4:(k:Int)<(nn:Int):=by omega
       have HJ:Hid (i*nn+k<L.length):=by show _<_;have:=HM.out;have:=HP.out;have:=HE2.out;omega
       obtain ⟨b,off,rfl,c1⟩:=(HA.out.alloc (.cells #[.int .i64 nn,.slice a m c] 24)) (i*nn+k) HJ.out;have HC:=hide (HS2.out.trans (ydO nn L (i*nn+k) HJ.out));obtain ⟨x,hx⟩:∃ x,L[i*nn+k]! = x:=⟨_,rfl⟩;rw [hx,cel_at hkt] at HC;rw [hx] at c1;clear hx;rw [HP.out] at c1;have i5:(P:Int)+(k:Int)<(m:Int):=by have:=HE2.out;omega
       have i6:P+k<m:=by have:=HE2.out;omega
       by_cases p1:x < -1
       ·have E:Hid (iM nn L 0=false):=by show _=_;rw [HC.out,inB_lo (by omega)];rfl
        go_wp2;go_ret;exact ⟨by rw [E.out];rfl,HB0.out _⟩
       ·by_cases p2:32000000<x
        ·have E:Hid (iM nn L 0=false):=by show _=_;rw [HC.out,inB_hi (by omega)];rfl
         go_wp2;go_ret;exact ⟨by rw [E.out];rfl,HB0.out _⟩
        ·rw [inB_yes (by omega) (by omega)] at HC
         by_cases p3:i=k
         ·have z3:((i:Int) == (k:Int))=true:=by simp [p3]
          have HP3:=hide p3;clear p3
          by_cases p4:x=0
          ·have z4:(x != 0)=false:=by simp [p4]
           rw [iX (show ¬ x≠0 by simpa using p4)] at HC;have E:Hid (iM nn L 0=iM nn L (i*nn+k+1)):=by show _=_;rw [HC.out];simp
           go_wp2
           go_round
           case rel=>exact ⟨k+1,by go_num,by omega,E.out⟩
           case measure=>simp [intOf];omega
          ·have z4:(x != 0)=true:=by simp [p4]
           rw [gI (show x≠0 from p4),gI HP3.out] at HC;have E:Hid (iM nn L 0=false):=by show _=_;rw [HC.out];rfl
           go_wp2;go_ret;exact ⟨by rw [E.out];rfl,HB0.out _⟩
         ·have z3:((i:Int) == (k:Int))=false:=by simp;omega
          have q3:¬ (i:Int)=(k:Int):=by omega
          rw [iX p3] at HC;have E:Hid (iM nn L 0=iM nn L (i*nn+k+1)):=by show _=_;rw [HC.out];rfl
          go_wp2
          go_round
          case rel=>exact ⟨k+1,by go_num,by omega,E.out⟩
          case measure=>simp [intOf];omega
      ·have i4:¬ (k:Int)<(nn:Int):=by omega
       have:k=nn:=by omega
       have E:Hid (iM nn L 0=iM nn L ((i+1)*nn)):=by show _=_;rw [HS2.out,this,Nat.add_mul,Nat.one_mul]
       clear this;go_wp2
       go_round
       case rel=>exact ⟨i+1,by go_num,by omega,E.out⟩
       case measure=>simp [intOf];omega
    ·have i3:¬ (i:Int)<(nn:Int):=by omega
     have E:Hid (iM nn L 0=true):=by
      show _=_;rw [HS.out];exact yfZ _ _ _ (by rw [show i=nn by omega,HNN.out];have:=HM.out;have:=HE2.out;omega)
     go_wp2;go_ret;exact ⟨by rw [E.out];rfl,HB0.out _⟩
  ·have HM2:=hide (matB_l (n:=nn) (m:=⟨(nn:Int),L⟩) (by rw [hNi,hm];omega));have z2:((m:Int) != (N2:Int))=true:=by simp;omega
   rw [HM2.out];clear hm;go_enter Try.func82,Try.ntmps82;go_wp2;go_ret;exact ⟨rfl,HB0.out _⟩
 ·have HM2:=hide (matB_n (n:=nn) (m:=⟨mn,L⟩) e1);have z1:(mn != (nn:Int))=true:=by simp [e1]
  rw [HM2.out];clear hm;go_enter Try.func82,Try.ntmps82;go_wp2;go_ret;exact ⟨rfl,HB0.out _⟩
theorem bH {w:World} (n:Int) {x:Value} {m:Mat} (h:IntsV w x m.cells) (hn:1≤n) (hn2:n≤32):Calls Try.prog 82 #[.agg #[.int .i64 m.n,x],.int .i64 n] w fun e w'=>e=.returned (.bool (gW n m))∧Below w.heap.size w w':=by
 obtain ⟨nn,rfl⟩:∃ nn:Nat,n=(nn:Int):=⟨n.toNat,by omega⟩;exact wX nn h (by omega) (by omega)
theorem bP {w:World} (n:Int) {x:Value} {s:Stp} (h:WinsV w x s.wins) (hn:1≤n) (hn2:n≤32):Calls Try.prog 84 #[.agg #[.int .i64 s.place,.int .i64 s.serv,x],.int .i64 n] w fun e w'=>e=.returned (.bool (oD n s))∧Below w.heap.size w w':=by
 have HA:=hide h;have HB0:Hid (∀ A,Below w.heap.size w (w.alloc A)):=fun A=>(Below.refl _ _).alloc (Nat.le_refl _) A;unfold oD;obtain ⟨s1,s2,s3⟩:=s;simp only at HA ⊢;clear h;obtain ⟨b1,h1⟩:∃ b,upB s1 (n-1)=b:=⟨_,rfl⟩;obtain ⟨b2,h2⟩:∃ b,upB s2 1000000=b:=⟨_,rfl⟩;obtain ⟨b3,h3⟩:∃ b,uI s3=b:=⟨_,rfl⟩;have H1:=hide h1;have H2:=hide h2;have H3:=hide h3;rw [h1,h2,h3];clear h1 h2 h3
 cases b1
 all_goals cases b2
 all_goals
  go_enter Try.func84,Try.ntmps84
  go_wp2_with (first
   | (go_at_call 118;refine (cY (HA.out.on (HB0.out _))).mono ?_;rintro e w2 ⟨rfl,k2⟩;rw [H3.out];have K2:=hide k2;clear k2)
   | (go_at_call 59;refine (bI _ _ _).mono ?_;rintro e w' ⟨rfl,rfl⟩;first | rw [H1.out] | rw [H2.out]))
  go_ret
  first
   | exact ⟨by simp,below_on (HB0.out _) K2.out⟩
   | exact ⟨by simp,HB0.out _⟩
end Go.Proofs.Ytgjpkpmikbpcnaa
