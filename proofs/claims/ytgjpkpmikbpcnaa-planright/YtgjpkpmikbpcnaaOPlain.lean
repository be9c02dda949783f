namespace Go.Proofs.Ytgjpkpmikbpcnaa
abbrev Win:=Int × Int
def ygF (e:Int) (w:Win):Bool:=decide (w.1≤e∨w.2<w.1∨1000000<w.2)
def jV:Int→Nat→List Win→Int × Int
 | _,_,[]=>(-1,0)
 | e,i,w::r=>if ygF e w=true then ((i:Int),2) else jV w.2 (i+1) r
def chk (L:List Win):Int × Int:=if L.length<1∨4<L.length then (-1,43) else jV (-1) 0 L
theorem ydK (e:Int) (L:List Win) (i:Nat) (h:i<L.length):jV e i (L.drop i)=if ygF e L[i]! = true then ((i:Int),2) else jV (L[i]!).2 (i+1) (L.drop (i+1)):=by
 rw [List.drop_eq_getElem_cons h,getElem!_pos L i h]
 rfl
theorem nJ {e x y:Int} (h:x≤e∨y<x∨1000000<y):ygF e (x,y)=true:=decide_eq_true h
theorem ybK {e x y:Int} (h:¬ (x≤e∨y<x∨1000000<y)):ygF e (x,y)=false:=decide_eq_false h

def Lw (L:List Win):Prop:=(∀ w ∈ L,w.1≤w.2∧0≤w.1∧w.2≤1000000)∧L.Pairwise fun u v=>u.2<v.1
theorem ybB:∀ (L:List Win) (e:Int) (i:Nat),-1≤e→(jV e i L).2=0→Lw L∧∀ w ∈ L,e<w.1
 | [],_,_,_,_=>⟨⟨fun _ h=>by simp at h,List.Pairwise.nil⟩,fun _ h=>by simp at h⟩
 | w::r,e,i,he,h=>by
  unfold jV at h
  cases hb:ygF e w with
  | true=>rw [hb] at h;simp at h
  | false =>
   rw [hb] at h;simp only [Bool.false_eq_true,if_false] at h;have hw:=of_decide_eq_false hb;have ih:=ybB r w.2 (i+1) (by omega) h;refine ⟨⟨fun u hu=>?_,List.pairwise_cons.2 ⟨ih.2,ih.1.2⟩⟩,fun u hu=>?_⟩
   ·rcases List.mem_cons.1 hu with rfl | hu
    ·omega
    ·exact ih.1.1 u hu
   ·rcases List.mem_cons.1 hu with rfl | hu
    ·omega
    ·have:=ih.2 u hu;omega
theorem chk_ok {L:List Win} (h:(chk L).2=0):1≤L.length∧L.length≤4∧Lw L:=by
 unfold chk at h
 split at h
 ·simp at h
 ·exact ⟨by omega,by omega,(ybB L (-1) 0 (by omega) h).1⟩

def fY (xs:List Int) (n:Int):Int:=if (xs.length:Int)=n then (if ∀ i,i<xs.length→0≤xs[i]!∧xs[i]!≤1000000 then 0 else 2) else 43
theorem ydN {xs:List Int} {n:Int} (h:¬ (xs.length:Int)=n):fY xs n=43:=by unfold fY;rw [if_neg h]
theorem ydM {xs:List Int} {n:Int} (h:(xs.length:Int)=n) (ho:∀ i,i<xs.length→0≤xs[i]!∧xs[i]!≤1000000):fY xs n=0:=by unfold fY;rw [if_pos h,if_pos ho]
theorem uD {xs:List Int} {n:Int} {k:Nat} (h:(xs.length:Int)=n) (hk:k<xs.length) (hn:¬ (0≤xs[k]!∧xs[k]!≤1000000)):fY xs n=2:=by unfold fY;rw [if_pos h,if_neg fun h'=>hn (h' k hk)]

structure Mat where
 n:Int
 cells:List Int
structure Brk where
 wins:List Win
 serv:Int
structure Veh where
 start:Int
 stop:Int
 cap:List Int
 skills:Int
 shift:Win
 fixed:Int
 perT:Int
 perD:Int
 maxT:Int
 brks:List Brk
structure Stp where
 place:Int
 serv:Int
 wins:List Win
structure Jb where
 stop:Stp
 drop:List Int
 pick:List Int
 skills:Int
 prio:Int
structure Shp where
 pick:Stp
 deli:Stp
 amt:List Int
 skills:Int
 prio:Int
structure Prb where
 dims:Int
 time:Mat
 dist:Mat
 vs:List Veh
 js:List Jb
 ss:List Shp
def bz:Brk:=⟨[],0⟩
def vz:Veh:=⟨0,0,[],0,(0,0),0,0,0,0,[]⟩
def sz:Stp:=⟨0,0,[]⟩
def jz:Jb:=⟨sz,[],[],0,0⟩
def hz:Shp:=⟨sz,sz,[],0,0⟩
theorem tK {α:Type} (L:List α) (z:α) (k:Nat) (h:k<L.length):L.drop k=L.getD k z::L.drop (k+1):=by
 rw [List.drop_eq_getElem_cons h,List.getD_eq_getElem?_getD,List.getElem?_eq_getElem h];rfl
theorem kS {α:Type} (L:List α) (z:α) (k:Nat) (h:k<L.length):L.getD k z ∈ L:=by
 rw [List.getD_eq_getElem?_getD,List.getElem?_eq_getElem h];exact List.getElem_mem h

def upB (x m:Int):Bool:=decide (0≤x∧x≤m)
theorem mS {x m:Int} (h:0≤x) (k:x≤m):upB x m=true:=decide_eq_true ⟨h,k⟩
theorem ydW {x m:Int} (h:¬ 0≤x):upB x m=false:=decide_eq_false fun k=>h k.1
theorem ydX {x m:Int} (h:¬ x≤m):upB x m=false:=decide_eq_false fun k=>h k.2
theorem upB_iff {x m:Int}:upB x m=true↔0≤x∧x≤m:=by unfold upB;exact decide_eq_true_iff
def inB (x l m:Int):Bool:=decide (l≤x∧x≤m)
theorem inB_yes {x l m:Int} (h:l≤x) (k:x≤m):inB x l m=true:=decide_eq_true ⟨h,k⟩
theorem inB_lo {x l m:Int} (h:¬ l≤x):inB x l m=false:=decide_eq_false fun k=>h k.1
theorem inB_hi {x l m:Int} (h:¬ x≤m):inB x l m=false:=decide_eq_false fun k=>h k.2
def uI (L:List Win):Bool:=decide ((chk L).2=0)
def pI (L:List Int) (d:Int):Bool:=decide (fY L d=0)
def wL (x:Int):Bool:=decide (x<4611686018427387904)
def oD (n:Int) (s:Stp):Bool:=upB s.place (n-1) && upB s.serv 1000000 && uI s.wins
def rL (b:Brk):Bool:=uI b.wins && upB b.serv 1000000
def twoB (L:List Brk):Bool:=decide (L.length≤2)
def pE (d n:Int) (v:Veh):Bool :=
 upB v.start (n-1) && upB v.stop (n-1) && pI v.cap d && wL v.skills && uI [v.shift] && upB v.fixed 1000000 && upB v.perT 1000000 && upB v.perD 1000000 && upB v.maxT 12 && twoB v.brks && v.brks.all rL
def mK (d n:Int) (j:Jb):Bool:=oD n j.stop && pI j.drop d && pI j.pick d && wL j.skills && upB j.prio 100
def jE (d n:Int) (s:Shp):Bool:=oD n s.pick && oD n s.deli && pI s.amt d && wL s.skills && upB s.prio 100
def yA (n:Int) (i:Nat) (c:Int):Bool:=inB c (-1) 32000000 && !(decide ((i:Int) / n=(i:Int) % n) && decide (c≠0))
def gW (n:Int) (m:Mat):Bool:=decide (m.n=n) && decide ((m.cells.length:Int)=n*n) && (List.range m.cells.length).all (fun i=>yA n i m.cells[i]!)
def xX (p:Prb):Bool:=upB p.dims 3 && inB p.time.n 1 32
def zX (p:Prb):Bool:=decide (p.vs.length≤4∧p.js.length+p.ss.length≤12)
def ydR (p:Prb):Bool:=p.vs.all (pE p.dims p.time.n) && p.js.all (mK p.dims p.time.n) && p.ss.all (jE p.dims p.time.n)
def oT (p:Prb):Int:=if (xX p && gW p.time.n p.time && gW p.time.n p.dist)=false then 2 else if zX p=false then 27 else if ydR p=false then 2 else 0
def aY (p:Prb):Bool:=decide (oT p=0)
theorem jP {p:Prb} (h:aY p=true):xX p=true∧gW p.time.n p.time=true∧gW p.time.n p.dist=true∧zX p=true∧ydR p=true:=by
 have h:=of_decide_eq_true h;unfold oT at h
 split at h
 ·simp at h
 ·split at h
  ·simp at h
  ·split at h
   ·simp at h
   ·rename_i h1 h2 h3;simp only [Bool.not_eq_false,Bool.and_eq_true] at h1 h2 h3;exact ⟨h1.1.1,h1.1.2,h1.2,h2,h3⟩
theorem jJ {α:Type} (f:α→Bool) (z:α) (L:List α) (k:Nat) (h:k<L.length):(L.drop k).all f=(f (L.getD k z) && (L.drop (k+1)).all f):=by
 rw [tK L z k h];rfl
theorem mA {α:Type} (f:α→Bool) (L:List α) (k:Nat) (h:¬ k<L.length):(L.drop k).all f=true:=by
 rw [List.drop_eq_nil_of_le (by omega)];rfl
end Go.Proofs.Ytgjpkpmikbpcnaa
