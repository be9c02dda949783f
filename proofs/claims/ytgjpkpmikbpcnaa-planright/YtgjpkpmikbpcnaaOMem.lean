import Derived.Test.YtgjpkpmikbpcnaaProg
import Derived.WalkKit
import Derived.WalkSpells
import Derived.WalkLawsBesides
import Derived.Deep.QuietTactic
import Derived.BigQuiet
import Derived.BigRegion
import Derived.Deep.RegionWith
import Derived.Deep.RegionHeld
import Derived.Laws.AppendOwnNone
import Derived.Laws.OwnMore
import Derived.Shelf.Abstract
import Derived.Test.YtgjpkpmikbpcnaaOPlain
namespace Go.Proofs.Ytgjpkpmikbpcnaa
open Go.RowKit
theorem hide {p:Prop} (h:p):Hid p:=h
theorem add0 (g j:Nat):(⟨g,0,none⟩:Addr).add j=⟨g,j,none⟩:=by
 unfold Addr.add
 split
 ·rename_i h;subst h;rfl
 ·simp
theorem pD (b off j:Nat):(⟨b,off,none⟩:Addr).add j=⟨b,off+j,none⟩:=by
 unfold Addr.add
 split
 ·rename_i h;subst h;rfl
 ·rfl
theorem drewN_heap (w:World) (n:Nat):(w.drewN n).heap=w.heap:=by
 induction n with
 | zero=>rfl
 | succ n ih=>exact ih
theorem below_drewN {B:Nat} {a w:World} (h:Below B a w) (n:Nat):Below B a (w.drewN n):=⟨h.os,h.tape,h.output,by rw [drewN_heap];exact h.size,fun k hk=>by rw [drewN_heap];exact h.block k hk⟩
def IntsAt (w:World) (a:Option Addr) (zs:List Int):Prop:=∀ k,k<zs.length→∃ b off,a=some ⟨b,off,none⟩∧w.cell? ⟨b,off+k,none⟩=some (.int .i64 zs[k]!)
theorem IntsAt.later {w w':World} {a:Option Addr} {zs:List Int} (h:IntsAt w a zs) (f:Below w.heap.size w w'):IntsAt w' a zs:=fun k hk=>by
 obtain ⟨b,off,e,h1⟩:=h k hk;exact ⟨b,off,e,(f.cell (p:=⟨b,_,none⟩) (block_lt_of_cell h1)).trans h1⟩
theorem IntsAt.drew {w:World} {a:Option Addr} {zs:List Int} (h:IntsAt w a zs):IntsAt w.drew a zs:=h.later (Below.refl _ _).drew
theorem IntsAt.alloc {w:World} {a:Option Addr} {zs:List Int} (h:IntsAt w a zs) (o:Obj):IntsAt (w.alloc o) a zs:=h.later ((Below.refl _ _).alloc (Nat.le_refl _) o)
theorem rB (w:World) (a:Option Addr):IntsAt w a []:=fun k hk=>by simp at hk
def intsV (xs:List Int):List Value:=xs.map (Value.int .i64 ·)
theorem intsV_len (xs:List Int):(intsV xs).length=xs.length:=by simp [intsV]
theorem intsV_get (xs:List Int) (k:Nat) (h:k<xs.length):(intsV xs)[k]? = some (.int .i64 xs[k]!):=by
 simp [intsV,h]
theorem intsV_set (xs:List Int) (k:Nat) (x:Int):intsV (xs.set k x)=(intsV xs).set k (.int .i64 x):=by simp [intsV,List.map_set]
theorem ycP (xs:List Int):∀ u ∈ intsV xs,u.oneCell'=true:=by
 intro u hu;obtain ⟨x,_,rfl⟩:=List.mem_map.1 hu
 rfl
def IRow (w:World) (base:Nat) (v:Value) (xs:List Int):Prop:=w.ownsRow base 3 1 v xs.length (intsV xs)
theorem info3:(Try.prog.info? 3).map (fun i=>(i.zero,i.size,i.bytes))=some (some (.int .i64 0),1,8):=by kernel_rfl
section
variable {w w':World} {base g cap m:Nat} {v:Value} {xs:List Int}
theorem own_of_block {base e size m:Nat} {v:Value} {xs:List Value} (h:w.ownsRow base e size v m xs) (hb:∀ g,v.ownBlock=some g→w'.heap[g]? = w.heap[g]?):w'.ownsRow base e size v m xs:=by
 obtain ⟨h1,h2⟩:=h;refine ⟨h1,?_⟩
 rcases h2 with h2 | ⟨g,cap,cur,rfl,a,b,r⟩
 ·exact .inl h2
 ·exact .inr ⟨g,cap,cur,rfl,a,(hb g rfl).trans b,r⟩
theorem IRow.shape (h:IRow w base v xs):∃ a c,v=.slice a xs.length c:=by
 rcases h.2 with ⟨e,e2⟩ | ⟨g,cap,cur,e,_⟩
 ·exact ⟨none,0,by rw [e,e2]⟩
 ·exact ⟨_,cap,e⟩
theorem IRow.cell (h:IRow w base (.slice (some ⟨g,0,none⟩) m cap) xs) (k:Nat) (hk:k<xs.length):w.cell? ⟨g,k,none⟩=some (.int .i64 xs[k]!):=by
 have:=World.ownsRow.cells (g:=g) h rfl k _ (intsV_get xs k hk);rw [add0] at this;exact this
theorem IRow.frozen (h:IRow w base (.slice (some ⟨g,0,none⟩) m cap) xs) (k:Nat):w.frozen? ⟨g,k,none⟩=false:=by
 rcases h.2 with ⟨h2,_⟩ | ⟨g2,cap2,cur,e,_,hb,_⟩
 ·cases h2
 ·cases e;exact frozen_of_row w g k _ _ hb
theorem IRow.set (h:IRow w base (.slice (some ⟨g,0,none⟩) m cap) xs) (k:Nat) (x:Int):IRow (w.setCell ⟨g,k,none⟩ (.int .i64 x)) base (.slice (some ⟨g,0,none⟩) m cap) (xs.set k x):=by
 obtain ⟨h1,h2⟩:=h;unfold IRow;rw [List.length_set,intsV_set];refine ⟨by simpa using h1,?_⟩
 rcases h2 with ⟨h2,_⟩ | ⟨g2,cap2,cur,e,a,hb,r1,r2,r3,r4⟩
 ·cases h2
 ·cases e
  refine .inr ⟨g,cap,cur.setIfInBounds k (.int .i64 x),rfl,a,heap_setCell_same w g k _ _ _ hb,r1,r2,by simpa using r3,?_⟩;rw [← r4,Array.toList_setIfInBounds,List.take_set]
theorem IRow.later {B:Nat} (h:IRow w base v xs) (hB:w.heap.size≤B) (f:Below B w w'):IRow w' base v xs:=own_of_block h (fun k hk=>f.block k (Nat.lt_of_lt_of_le (h.lt k hk).2 hB))
theorem IRow.drewN (h:IRow w base v xs) (q:Nat):IRow (w.drewN q) base v xs:=h.later (Nat.le_refl _) (below_drewN (Below.refl _ _) q)
theorem IRow.alloc (h:IRow w base v xs) (o:Obj):IRow (w.alloc o) base v xs:=World.ownsRow.alloc h o
theorem IRow.mono {base':Nat} (h:IRow w base v xs) (hb:base'≤base):IRow w base' v xs:=by
 obtain ⟨h1,h2⟩:=h;refine ⟨h1,?_⟩
 rcases h2 with h2 | ⟨g,cap,cur,e,a,r⟩
 ·exact .inl h2
 ·exact .inr ⟨g,cap,cur,e,Nat.le_trans hb a,r⟩
theorem IRow.ints {va:Option Addr} {vm vc:Nat} (h:IRow w base (.slice va vm vc) xs):IntsAt w va xs:=fun k hk=>by
 rcases h.2 with ⟨_,e2⟩ | ⟨g,cap,cur,e,_⟩
 ·omega
 ·cases e
  exact ⟨g,0,rfl,by rw [Nat.zero_add];exact h.cell k hk⟩
end
theorem below_on {a b c:World} (h:Below a.heap.size a b) (k:Below b.heap.size b c):Below a.heap.size a c:=h.trans (k.mono h.size)
structure WinsAt (w:World) (a:Option Addr) (m:Nat) (L:List Win):Prop where
 len:L.length=m
 max:m*16≤140737488351232
 cell:∀ k,k<m→∃ b off,a=some ⟨b,off,none⟩∧w.cell? ⟨b,off+k*2,none⟩=some (.int .i64 (L[k]!).1)∧w.cell? ⟨b,off+k*2+1,none⟩=some (.int .i64 (L[k]!).2)
theorem WinsAt.later {w w':World} {a:Option Addr} {m B:Nat} {L:List Win} (h:WinsAt w a m L) (hB:w.heap.size≤B) (f:Below B w w'):WinsAt w' a m L :=
 ⟨h.len,h.max,fun k hk=>by
  obtain ⟨b,off,e,h0,h1⟩:=h.cell k hk;have hb:b<B:=Nat.lt_of_lt_of_le (block_lt_of_cell h0) hB;exact ⟨b,off,e,(f.cell (p:=⟨b,_,none⟩) hb).trans h0,(f.cell (p:=⟨b,_,none⟩) hb).trans h1⟩⟩
theorem WinsAt.on {w w':World} {a:Option Addr} {m:Nat} {L:List Win} (h:WinsAt w a m L) (f:Below w.heap.size w w'):WinsAt w' a m L:=h.later (Nat.le_refl _) f
theorem rY {w:World} {m:Nat} {L:List Win} (h:WinsAt w none m L):m=0:=by
 rcases Nat.eq_zero_or_pos m with e | e
 ·exact e
 ·obtain ⟨b,off,e2,_⟩:=h.cell 0 e;cases e2


theorem aA {W w1:World} (hb:Below W.heap.size W w1):(∀ b o,b<W.heap.size→w1.cell? ⟨b,o,none⟩=W.cell? ⟨b,o,none⟩)∧(∀ b o,b<W.heap.size→w1.frozen? ⟨b,o,none⟩=W.frozen? ⟨b,o,none⟩) :=
 ⟨fun b o h=>hb.cell (p:=⟨b,o,none⟩) h,fun b o h=>hb.frozen (p:=⟨b,o,none⟩) h⟩
theorem o7 {w:World} {zs:List Int} (h:IntsAt w none zs):zs=[]:=by
 rcases zs with _ | ⟨z,r⟩
 ·rfl
 ·obtain ⟨_,_,e,_⟩:=h 0 (by simp);cases e
def IntsV (w:World) (v:Value) (L:List Int):Prop:=∃ a c,v=.slice a L.length c∧(a=none→c=0)∧L.length*8≤140737488351232∧IntsAt w a L
def WinsV (w:World) (v:Value) (L:List Win):Prop:=∃ a c,v=.slice a L.length c∧(a=none→c=0)∧WinsAt w a L.length L
theorem IntsV.on {w w':World} {v:Value} {L:List Int} (h:IntsV w v L) (f:Below w.heap.size w w'):IntsV w' v L:=by
 obtain ⟨a,c,h1,h2,h3,h4⟩:=h;exact ⟨a,c,h1,h2,h3,h4.later f⟩
theorem WinsV.on {w w':World} {v:Value} {L:List Win} (h:WinsV w v L) (f:Below w.heap.size w w'):WinsV w' v L:=by
 obtain ⟨a,c,h1,h2,h3⟩:=h;exact ⟨a,c,h1,h2,h3.on f⟩
theorem IntsV.shape {w:World} {v:Value} {L:List Int} (h:IntsV w v L):∃ a c,v=.slice a L.length c:=by
 obtain ⟨a,c,h1,_⟩:=h;exact ⟨a,c,h1⟩
theorem WinsV.shape {w:World} {v:Value} {L:List Win} (h:WinsV w v L):∃ a c,v=.slice a L.length c:=by
 obtain ⟨a,c,h1,_⟩:=h;exact ⟨a,c,h1⟩
def SlV {α:Type} (z y:Nat) (zero:α) (V:World→List Value→α→Prop) (w:World) (v:Value) (L:List α):Prop :=
 ∃ a c,v=.slice a L.length c∧(a=none→c=0)∧L.length*y≤140737488351232∧∀ k,k<L.length→∃ b off l,a=some ⟨b,off,none⟩∧l.length=z∧(∀ j,j<z→w.cell? ⟨b,off+k*z+j,none⟩=l[j]?)∧V w l (L.getD k zero)
theorem SlV.on {α:Type} {z y:Nat} {zero:α} {V:World→List Value→α→Prop} {w w':World} {v:Value} {L:List α} (h:SlV z y zero V w v L) (f:Below w.heap.size w w') (hz:0<z) (hV:∀ l x,V w l x→V w' l x):SlV z y zero V w' v L:=by
 obtain ⟨a,c,h1,h2,h3,h4⟩:=h;refine ⟨a,c,h1,h2,h3,fun k hk=>?_⟩;obtain ⟨b,off,l,e,hl,hc,hv⟩:=h4 k hk
 have hb:b<w.heap.size:=by
  have h0:=hc 0 hz;rw [List.getElem?_eq_getElem (by omega)] at h0;exact block_lt_of_cell h0
 exact ⟨b,off,l,e,hl,fun j hj=>(f.cell (p:=⟨b,_,none⟩) hb).trans (hc j hj),hV l _ hv⟩
theorem SlV.shape {α:Type} {z y:Nat} {zero:α} {V:World→List Value→α→Prop} {w:World} {v:Value} {L:List α} (h:SlV z y zero V w v L):∃ a c,v=.slice a L.length c:=by
 obtain ⟨a,c,h1,_⟩:=h;exact ⟨a,c,h1⟩
def BrkV (w:World) (l:List Value) (b:Brk):Prop:=∃ x,l=[x,.int .i64 b.serv]∧WinsV w x b.wins
def BrksV (w:World) (v:Value) (L:List Brk):Prop:=SlV 2 32 bz BrkV w v L
def kF (v:Veh) (xc xb:Value):List Value:=[.int .i64 v.start,.int .i64 v.stop,xc,.int .u64 v.skills,.int .i64 v.shift.1,.int .i64 v.shift.2,.int .i64 v.fixed,.int .i64 v.perT,.int .i64 v.perD,.int .i64 v.maxT,xb]
def kJ (s:Stp) (x:Value):List Value:=[.int .i64 s.place,.int .i64 s.serv,x]
def pH (j:Jb) (xw xd xp:Value):List Value:=[.int .i64 j.stop.place,.int .i64 j.stop.serv,xw,xd,xp,.int .u64 j.skills,.int .i64 j.prio]
def rP (s:Shp) (x1 x2 xa:Value):List Value:=[.int .i64 s.pick.place,.int .i64 s.pick.serv,x1,.int .i64 s.deli.place,.int .i64 s.deli.serv,x2,xa,.int .u64 s.skills,.int .i64 s.prio]
def Wd (x:Int):Prop:=0≤x∧x<18446744073709551616
def VehV (w:World) (l:List Value) (v:Veh):Prop:=∃ xc xb,l=kF v xc xb∧IntsV w xc v.cap∧BrksV w xb v.brks∧Wd v.skills
def StpV (w:World) (l:List Value) (s:Stp):Prop:=∃ x,l=kJ s x∧WinsV w x s.wins
def JobV (w:World) (l:List Value) (j:Jb):Prop:=∃ xw xd xp,l=pH j xw xd xp∧WinsV w xw j.stop.wins∧IntsV w xd j.drop∧IntsV w xp j.pick∧Wd j.skills
def ShpV (w:World) (l:List Value) (s:Shp):Prop:=∃ x1 x2 xa,l=rP s x1 x2 xa∧WinsV w x1 s.pick.wins∧WinsV w x2 s.deli.wins∧IntsV w xa s.amt∧Wd s.skills
def VehsV (w:World) (v:Value) (L:List Veh):Prop:=SlV 11 120 vz VehV w v L
def JobsV (w:World) (v:Value) (L:List Jb):Prop:=SlV 7 104 jz JobV w v L
def ShpsV (w:World) (v:Value) (L:List Shp):Prop:=SlV 9 120 hz ShpV w v L
section
variable {w w':World} {l:List Value} {v:Value}
theorem BrkV.on {b:Brk} (f:Below w.heap.size w w') (h:BrkV w l b):BrkV w' l b:=by
 obtain ⟨x,h1,h2⟩:=h;exact ⟨x,h1,h2.on f⟩
theorem BrksV.on {L:List Brk} (h:BrksV w v L) (f:Below w.heap.size w w'):BrksV w' v L:=SlV.on h f (by decide) fun _ _=>BrkV.on f
theorem VehV.on {x:Veh} (f:Below w.heap.size w w') (h:VehV w l x):VehV w' l x:=by
 obtain ⟨xc,xb,h1,h2,h3,h4⟩:=h;exact ⟨xc,xb,h1,h2.on f,h3.on f,h4⟩
theorem StpV.on {x:Stp} (f:Below w.heap.size w w') (h:StpV w l x):StpV w' l x:=by
 obtain ⟨a,h1,h2⟩:=h;exact ⟨a,h1,h2.on f⟩
theorem JobV.on {x:Jb} (f:Below w.heap.size w w') (h:JobV w l x):JobV w' l x:=by
 obtain ⟨a,b,c,h1,h2,h3,h4,h5⟩:=h;exact ⟨a,b,c,h1,h2.on f,h3.on f,h4.on f,h5⟩
theorem ShpV.on {x:Shp} (f:Below w.heap.size w w') (h:ShpV w l x):ShpV w' l x:=by
 obtain ⟨a,b,c,h1,h2,h3,h4,h5⟩:=h;exact ⟨a,b,c,h1,h2.on f,h3.on f,h4.on f,h5⟩
theorem VehsV.on {L:List Veh} (h:VehsV w v L) (f:Below w.heap.size w w'):VehsV w' v L:=SlV.on h f (by decide) fun _ _=>VehV.on f
theorem JobsV.on {L:List Jb} (h:JobsV w v L) (f:Below w.heap.size w w'):JobsV w' v L:=SlV.on h f (by decide) fun _ _=>JobV.on f
theorem ShpsV.on {L:List Shp} (h:ShpsV w v L) (f:Below w.heap.size w w'):ShpsV w' v L:=SlV.on h f (by decide) fun _ _=>ShpV.on f
end
structure aU where
 t:Value
 d:Value
 v:Value
 j:Value
 s:Value
def aL (p:Prb) (x:aU):Array Value:=#[.int .i64 p.dims,.int .i64 p.time.n,x.t,.int .i64 p.dist.n,x.d,x.v,x.j,x.s]
structure PrbV (w:World) (x:aU) (p:Prb):Prop where
 t:IntsV w x.t p.time.cells
 d:IntsV w x.d p.dist.cells
 v:VehsV w x.v p.vs
 j:JobsV w x.j p.js
 s:ShpsV w x.s p.ss
theorem PrbV.on {w w':World} {x:aU} {p:Prb} (h:PrbV w x p) (f:Below w.heap.size w w'):PrbV w' x p:=⟨h.t.on f,h.d.on f,h.v.on f,h.j.on f,h.s.on f⟩
end Go.Proofs.Ytgjpkpmikbpcnaa
