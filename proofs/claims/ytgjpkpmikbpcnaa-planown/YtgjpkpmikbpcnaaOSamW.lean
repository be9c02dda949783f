import Derived.BigRegion
import Derived.Test.YtgjpkpmikbpcnaaOLoaLG
namespace Go.Proofs.Ytgjpkpmikbpcnaa
open Go.RowKit
def PlanW (w:World) (base:Nat) (v:Value) (pl:dQ):Prop:=∃ a n c ys,v=.agg (bV pl.veh (.slice a n c) pl.time pl.dist pl.wait pl.serv pl.cost)∧StpR w base base (.slice a n c) pl.steps ys∧pl.steps.length=n
theorem PlanV.w {w:World} {base:Nat} {v:Value} {pl:dQ} (h:PlanV w base v pl):PlanW w base v pl:=by
 obtain ⟨a,n,c,ys,e,hR,_,hn⟩:=h;exact ⟨a,n,c,ys,e,hR,hn⟩
theorem PlanW.on {w w':World} {base:Nat} {v:Value} {pl:dQ} (h:PlanW w base v pl) (f:Below w.heap.size w w'):PlanW w' base v pl:=by
 obtain ⟨a,n,c,ys,e,hr,hn⟩:=h;exact ⟨a,n,c,ys,e,RowS.on hr (eJ base) f,hn⟩
theorem planZ_w (w:World) (base:Nat):PlanW w base (.agg (bV 0 (.slice none 0 0) 0 0 0 0 0)) planZ:=⟨none,0,0,[],rfl,RowS.nil (World.ownsRow_nil w base 88 9),rfl⟩
set_option maxRecDepth 100000 in
set_option maxHeartbeats 6400000 in
theorem yeE {w:World} {b1 b2:Nat} {v u:Value} {pl:dQ} (h:PlanW w b1 v pl) (h':PlanW w b2 u pl) (hn:pl.steps.length≤1000) (hld:∀ s ∈ pl.steps,s.load.length≤3):Calls Try.prog 39 #[v,u] w fun e w'=>e=.returned (.bool true)∧Below w.heap.size w w':=by
 obtain ⟨a1,n,c1,ys1,rfl,R1,e1⟩:=h;obtain ⟨a2,n',c2,ys2,rfl,R2,e2⟩:=h';rw [e1] at e2;subst e2;have HR1:=hide R1;have HR2:=hide R2;have HN:=hide e1;have HLD:=hide hld;rw [e1] at hn;clear R1 R2 e1 hld;unfold bV;obtain ⟨W,hW⟩:∃ W,W=(w.alloc (.cells #[.int .i64 pl.veh,.slice a1 n c1,.int .i64 pl.time,.int .i64 pl.dist,.int .i64 pl.wait,.int .i64 pl.serv,.int .i64 pl.cost] 71)).alloc (.cells #[.int .i64 pl.veh,.slice a2 n c2,.int .i64 pl.time,.int .i64 pl.dist,.int .i64 pl.wait,.int .i64 pl.serv,.int .i64 pl.cost] 71):=⟨_,rfl⟩;have HBW:Hid (Below w.heap.size w W):=by rw [hW];exact Mn.a.alloc (by simp) _
 have HWS:Hid (W.heap.size=w.heap.size+2):=by show _=_;rw [hW];simp
 have HC1:Hid (∀ j,W.cell? ⟨w.heap.size,j,none⟩=(#[.int .i64 pl.veh,.slice a1 n c1,.int .i64 pl.time,.int .i64 pl.dist,.int .i64 pl.wait,.int .i64 pl.serv,.int .i64 pl.cost]:Array Value)[j]?):=fun j=>by
  have e9:W.heap[w.heap.size]? = some (.cells #[.int .i64 pl.veh,.slice a1 n c1,.int .i64 pl.time,.int .i64 pl.dist,.int .i64 pl.wait,.int .i64 pl.serv,.int .i64 pl.cost] 71):=by rw [hW,heap_alloc_old _ _ (by simp),heap_alloc_new]
  exact cell_of_row _ _ _ _ _ _ e9
 have HC2:Hid (∀ j,W.cell? ⟨w.heap.size+1,j,none⟩=(#[.int .i64 pl.veh,.slice a2 n c2,.int .i64 pl.time,.int .i64 pl.dist,.int .i64 pl.wait,.int .i64 pl.serv,.int .i64 pl.cost]:Array Value)[j]?):=fun j=>by
  have e9:=heap_alloc_new (w.alloc (.cells #[.int .i64 pl.veh,.slice a1 n c1,.int .i64 pl.time,.int .i64 pl.dist,.int .i64 pl.wait,.int .i64 pl.serv,.int .i64 pl.cost] 71)) (.cells #[.int .i64 pl.veh,.slice a2 n c2,.int .i64 pl.time,.int .i64 pl.dist,.int .i64 pl.wait,.int .i64 pl.serv,.int .i64 pl.cost] 71);rw [← hW] at e9;simp only [World.size_alloc] at e9;exact cell_of_row _ _ _ _ _ _ e9
 have z0:∀ x:Int,(x != x)=false:=fun x=>by simp
 have z1:=z0 pl.veh;have z2:=z0 pl.time;have z3:=z0 pl.dist;have z4:=z0 pl.wait;have z5:=z0 pl.serv;have z6:=z0 pl.cost;have z7:=z0 (n:Int);go_enter Try.func39,Try.ntmps39;go_wp2_with fail;rw [← hW];clear hW z1 z2 z3 z4 z5 z6 z7
 go_loopw [5] (fun vi wr=>∃ q:Nat,vi=.int .i64 q∧q≤n∧Hid (Below W.heap.size W wr)) (fun vi _=>n-(intOf vi).toNat)
 case atStart=>exact ⟨0,rfl,Nat.zero_le _,Below.refl _ _⟩
 case round =>
  obtain ⟨q,rfl,hq,HB⟩:=hrel;have HBr:=hide (below_on HBW.out HB.out);have rs:w.heap.size+2≤wr.heap.size:=by have:=HB.out.size;have:=HWS.out;omega
  have r1:wr.cell? ⟨w.heap.size,1,none⟩=some (.slice a1 n c1):=((aA HB.out).1 _ 1 (by rw [HWS.out];omega)).trans (HC1.out 1);have r2:wr.cell? ⟨w.heap.size+1,1,none⟩=some (.slice a2 n c2):=((aA HB.out).1 _ 1 (by rw [HWS.out];omega)).trans (HC2.out 1)
  by_cases hqn:q<n
  ·have i1:(q:Int)<(n:Int):=by omega
   have i2:(0:Int)≤(q:Int):=by omega
   have i3:¬ (n:Int)≤(q:Int):=by omega
   obtain ⟨s,hs⟩:∃ s,pl.steps[q]? = some s:=⟨_,List.getElem?_eq_getElem (by rw [HN.out];exact hqn)⟩;obtain ⟨g1,y1,d1,rfl,hg1,hc1,hi1⟩:=pM HR1.out hs;obtain ⟨g2,y2,d2,rfl,hg2,hc2,hi2⟩:=pM HR2.out hs;have hl3:=HLD.out s (List.mem_of_getElem? hs);obtain ⟨ln,hln⟩:∃ ln,s.load.length=ln:=⟨_,rfl⟩;have HLN:=hide hln;have HI1:=hide hi1;have HI2:=hide hi2;rw [hln] at hc1 hc2 hl3;have p10:wr.cell? ⟨g1,q*9,none⟩=some (.int .i64 s.kind):=((aA HBr.out).1 _ _ hg1).trans (hc1 0 (by decide));have p20:wr.cell? ⟨g2,q*9,none⟩=some (.int .i64 s.kind):=((aA HBr.out).1 _ _ hg2).trans (hc2 0 (by decide));have p11:wr.cell? ⟨g1,q*9+1,none⟩=some (.int .i64 s.item):=((aA HBr.out).1 _ _ hg1).trans (hc1 1 (by decide));have p21:wr.cell? ⟨g2,q*9+1,none⟩=some (.int .i64 s.item):=((aA HBr.out).1 _ _ hg2).trans (hc2 1 (by decide));have p12:wr.cell? ⟨g1,q*9+2,none⟩=some (.int .i64 s.place):=((aA HBr.out).1 _ _ hg1).trans (hc1 2 (by decide));have p22:wr.cell? ⟨g2,q*9+2,none⟩=some (.int .i64 s.place):=((aA HBr.out).1 _ _ hg2).trans (hc2 2 (by decide));have p13:wr.cell? ⟨g1,q*9+3,none⟩=some (.int .i64 s.arr):=((aA HBr.out).1 _ _ hg1).trans (hc1 3 (by decide));have p23:wr.cell? ⟨g2,q*9+3,none⟩=some (.int .i64 s.arr):=((aA HBr.out).1 _ _ hg2).trans (hc2 3 (by decide));have p14:wr.cell? ⟨g1,q*9+4,none⟩=some (.int .i64 s.wait):=((aA HBr.out).1 _ _ hg1).trans (hc1 4 (by decide));have p24:wr.cell? ⟨g2,q*9+4,none⟩=some (.int .i64 s.wait):=((aA HBr.out).1 _ _ hg2).trans (hc2 4 (by decide));have p15:wr.cell? ⟨g1,q*9+5,none⟩=some (.int .i64 s.serv):=((aA HBr.out).1 _ _ hg1).trans (hc1 5 (by decide));have p25:wr.cell? ⟨g2,q*9+5,none⟩=some (.int .i64 s.serv):=((aA HBr.out).1 _ _ hg2).trans (hc2 5 (by decide));have p16:wr.cell? ⟨g1,q*9+6,none⟩=some (.slice y1 ln d1):=((aA HBr.out).1 _ _ hg1).trans (hc1 6 (by decide));have p26:wr.cell? ⟨g2,q*9+6,none⟩=some (.slice y2 ln d2):=((aA HBr.out).1 _ _ hg2).trans (hc2 6 (by decide));have p17:wr.cell? ⟨g1,q*9+7,none⟩=some (.int .i64 s.time):=((aA HBr.out).1 _ _ hg1).trans (hc1 7 (by decide));have p27:wr.cell? ⟨g2,q*9+7,none⟩=some (.int .i64 s.time):=((aA HBr.out).1 _ _ hg2).trans (hc2 7 (by decide));have p18:wr.cell? ⟨g1,q*9+8,none⟩=some (.int .i64 s.dist):=((aA HBr.out).1 _ _ hg1).trans (hc1 8 (by decide));have p28:wr.cell? ⟨g2,q*9+8,none⟩=some (.int .i64 s.dist):=((aA HBr.out).1 _ _ hg2).trans (hc2 8 (by decide))
   have H44:Hid (∀ W2,Below w.heap.size w W2→Calls Try.prog 44 #[.slice y1 ln d1,.slice y2 ln d2] W2 fun e w'=>e=.returned (.bool true)∧Below W2.heap.size W2 w'):=fun W2 hf=>by
    have h9:=Ld.sameInts_any (ca:=d1) (cb:=d2) (IntsAt.later HI1.out hf) (IntsAt.later HI2.out hf) HLN.out HLN.out (by omega) (by omega);rw [yb4] at h9;exact h9
   have ng1:¬ g1=wr.heap.size:=by omega
   have ng2:¬ g2=wr.heap.size:=by omega
   have nw1:¬ w.heap.size=wr.heap.size:=by omega
   have nw2:¬ w.heap.size+1=wr.heap.size:=by omega
   have nh1:¬ g1=wr.heap.size+1:=by omega
   have nh2:¬ g2=wr.heap.size+1:=by omega
   clear hc1 hc2 hi1 hi2 hln hs;have z1:=z0 s.kind;have z2:=z0 s.item;have z3:=z0 s.place;have z4:=z0 s.arr;have z5:=z0 s.wait;have z6:=z0 s.serv;have z7:=z0 s.time;have z8:=z0 s.dist;have x1:(s.kind == s.kind)=true:=by simp
   have x2:(s.item == s.item)=true:=by simp
   have lw1:w.heap.size<wr.heap.size:=by omega
   have lw2:w.heap.size+1<wr.heap.size:=by omega
   have lw3:w.heap.size<wr.heap.size+1:=by omega
   have lg1:g1<wr.heap.size:=by omega
   have lg2:g2<wr.heap.size:=by omega
   have lh1:g1<wr.heap.size+1:=by omega
   have lh2:g2<wr.heap.size+1:=by omega
   go_wp2_with fail
   go_region_held3 (fun w'=>w'.cell? ⟨w.heap.size,1,none⟩=some (.slice (some ⟨g1,0,none⟩) n c1)∧w'.cell? ⟨w.heap.size+1,1,none⟩=some (.slice (some ⟨g2,0,none⟩) n c2)∧w'.cell? ⟨g1,q*9,none⟩=some (.int .i64 s.kind)∧w'.cell? ⟨g2,q*9,none⟩=some (.int .i64 s.kind)∧w'.cell? ⟨g1,q*9+1,none⟩=some (.int .i64 s.item)∧w'.cell? ⟨g2,q*9+1,none⟩=some (.int .i64 s.item)∧w'.cell? ⟨g1,q*9+2,none⟩=some (.int .i64 s.place)∧w'.cell? ⟨g2,q*9+2,none⟩=some (.int .i64 s.place)∧w'.cell? ⟨g1,q*9+3,none⟩=some (.int .i64 s.arr)∧w'.cell? ⟨g2,q*9+3,none⟩=some (.int .i64 s.arr)∧w'.cell? ⟨g1,q*9+4,none⟩=some (.int .i64 s.wait)∧w'.cell? ⟨g2,q*9+4,none⟩=some (.int .i64 s.wait)∧w'.cell? ⟨g1,q*9+5,none⟩=some (.int .i64 s.serv)∧w'.cell? ⟨g2,q*9+5,none⟩=some (.int .i64 s.serv)∧w'.cell? ⟨g1,q*9+6,none⟩=some (.slice y1 ln d1)∧w'.cell? ⟨g2,q*9+6,none⟩=some (.slice y2 ln d2)∧w'.cell? ⟨g1,q*9+7,none⟩=some (.int .i64 s.time)∧w'.cell? ⟨g2,q*9+7,none⟩=some (.int .i64 s.time)∧w'.cell? ⟨g1,q*9+8,none⟩=some (.int .i64 s.dist)∧w'.cell? ⟨g2,q*9+8,none⟩=some (.int .i64 s.dist)) (go_keep) (fail)
   all_goals
    rename_i hHeld;clear hHeld p10 p11 p12 p13 p14 p15 p16 p17 p18 p20 p21 p22 p23 p24 p25 p26 p27 p28 r1 r2;go_wp2_with (first | (go_at_call 44;refine (H44.out _ (below_on HBr.out ((Mn.a.alloc (by simp) _).drew))).mono ?_;rintro e w7 ⟨rfl,k7⟩;have E7:=hide (below_on ((((Below.refl wr.heap.size wr).alloc (Nat.le_refl _) _).alloc (by simp) _).drew) k7);clear k7) | fail);go_roundw
    case rel=>exact ⟨q+1,by go_num,by omega,below_on HB.out E7.out⟩
    case measure=>simp [intOf];omega
  ·have i1:¬ (q:Int)<(n:Int):=by omega
   go_wp2_with fail;go_ret;exact ⟨rfl,HBr.out⟩
end Go.Proofs.Ytgjpkpmikbpcnaa
