import Derived.Deep.RegionHeld3
import Derived.Test.YtgjpkpmikbpcnaaOLEach
set_option maxRecDepth 100000
set_option maxHeartbeats 3200000
namespace Go.Proofs.Ytgjpkpmikbpcnaa.Ld
open Go.RowKit
theorem under_any {w:World} {a b:Option Addr} {ca cb n m:Nat} {xs ys:List Int} (ha:IntsAt w a xs) (hb:IntsAt w b ys) (hn:xs.length=n) (hm:ys.length=m) (hl:n≤9223372036854775807) (hl2:m≤9223372036854775807) :
  Calls Try.prog 125 #[.slice a n ca,.slice b m cb] w fun e w'=>e=.returned (.bool (underB xs ys))∧Below w.heap.size w w':=by
 have HA:=hide ha;have HB:=hide hb;have HN:=hide hn;have HM:=hide hm;have HW0:Hid (Below w.heap.size w w):=Below.refl _ _
 by_cases hnm:n=m
 ·have HL:Hid (xs.length=ys.length):=by show _=_;omega
  subst hnm;have z0:((n:Int) != (n:Int))=false:=by simp
  clear ha hb hn hm;go_enter Try.func125,Try.ntmps125;go_wp2
  go_loopw [14] (fun vi wr=>∃ i:Nat,vi=.int .i64 i∧i≤n∧Hid (∀ j,j<i→xs[j]!≤ys[j]!)∧Hid (Below w.heap.size w wr)) (fun vi _=>n-(intOf vi).toNat)
  case atStart=>exact ⟨0,rfl,Nat.zero_le _,fun j hj=>absurd hj (Nat.not_lt_zero j),HW0.out⟩
  case round =>
   obtain ⟨i,rfl,hi,HI,HR⟩:=hrel
   by_cases hil:i<n
   ·have i1:(i:Int)<(n:Int):=by omega
    obtain ⟨b1,o1,rfl,c1⟩:=(HA.out.later HR.out) i (by rw [HN.out];exact hil);obtain ⟨b2,o2,rfl,c2⟩:=(HB.out.later HR.out) i (by rw [HM.out];exact hil)
    by_cases hle:xs[i]!≤ys[i]!
    ·have HI2:Hid (∀ j,j<i+1→xs[j]!≤ys[j]!):=fun j hj=>by
      by_cases e:j=i
      ·rw [e];exact hle
      ·exact HI.out j (by omega)
     generalize xs[i]! = x at c1 hle
     generalize ys[i]! = y at c2 hle
     have i2:¬ y<x:=by omega
     go_wp2;go_roundw
     case rel=>exact ⟨i+1,by go_num,by omega,HI2.out,HR.out⟩
     case measure=>simp [intOf];omega
    ·have HF:=hide (sB (ys:=ys) (k:=i) (by rw [HN.out];exact hil) hle)
     generalize xs[i]! = x at c1 hle
     generalize ys[i]! = y at c2 hle
     have i2:y<x:=by omega
     go_wp2;go_ret;exact ⟨by rw [HF.out];rfl,HR.out⟩
   ·have i1:¬ (i:Int)<(n:Int):=by omega
    have HF:=hide (rZ HL.out (fun j hj=>HI.out j (by have:=HN.out;omega)));go_wp2;go_ret;exact ⟨by rw [HF.out];rfl,HR.out⟩
 ·have HF:=hide (sD (xs:=xs) (ys:=ys) (by omega));have z0:((n:Int) != (m:Int))=true:=by simp;omega
  clear ha hb hn hm;go_enter Try.func125,Try.ntmps125;go_wp2;go_ret;exact ⟨by rw [HF.out];rfl,HW0.out⟩
theorem runder_any {w:World} {a b:Option Addr} {ca cb n m:Nat} {xs ys:List Int} (ha:IntsAt w a xs) (hb:IntsAt w b ys) (hn:xs.length=n) (hm:ys.length=m) (hl:n≤9223372036854775807) (hl2:m≤9223372036854775807) :
  Calls Try.prog 47 #[.slice a n ca,.slice b m cb] w fun e w'=>e=.returned (.bool (underB xs ys))∧Below w.heap.size w w':=by
 have HA:=hide ha;have HB:=hide hb;have HN:=hide hn;have HM:=hide hm;have HW0:Hid (Below w.heap.size w w):=Below.refl _ _
 by_cases hnm:n=m
 ·have HL:Hid (xs.length=ys.length):=by show _=_;omega
  subst hnm;have z0:((n:Int) != (n:Int))=false:=by simp
  clear ha hb hn hm;go_enter Try.func47,Try.ntmps47;go_wp2
  go_loopw [5] (fun vi wr=>∃ i:Nat,vi=.int .i64 i∧i≤n∧Hid (∀ j,j<i→xs[j]!≤ys[j]!)∧Hid (Below w.heap.size w wr)) (fun vi _=>n-(intOf vi).toNat)
  case atStart=>exact ⟨0,rfl,Nat.zero_le _,fun j hj=>absurd hj (Nat.not_lt_zero j),HW0.out⟩
  case round =>
   obtain ⟨i,rfl,hi,HI,HR⟩:=hrel
   by_cases hil:i<n
   ·have i1:(i:Int)<(n:Int):=by omega
    obtain ⟨b1,o1,rfl,c1⟩:=(HA.out.later HR.out) i (by rw [HN.out];exact hil);obtain ⟨b2,o2,rfl,c2⟩:=(HB.out.later HR.out) i (by rw [HM.out];exact hil)
    by_cases hle:xs[i]!≤ys[i]!
    ·have HI2:Hid (∀ j,j<i+1→xs[j]!≤ys[j]!):=fun j hj=>by
      by_cases e:j=i
      ·rw [e];exact hle
      ·exact HI.out j (by omega)
     generalize xs[i]! = x at c1 hle
     generalize ys[i]! = y at c2 hle
     have i2:¬ y<x:=by omega
     have i3:decide (y<x)=false:=decide_eq_false i2;go_wp2
     go_quiet (fail)
     go_wp2;go_roundw
     case rel=>exact ⟨i+1,by go_num,by omega,HI2.out,below_drewN HR.out _⟩
     case measure=>simp [intOf];omega
    ·have HF:=hide (sB (ys:=ys) (k:=i) (by rw [HN.out];exact hil) hle)
     generalize xs[i]! = x at c1 hle
     generalize ys[i]! = y at c2 hle
     have i2:y<x:=by omega
     have i3:decide (y<x)=true:=decide_eq_true i2;go_wp2
     go_quiet (fail)
     go_wp2;go_ret;exact ⟨by rw [HF.out];rfl,below_drewN HR.out _⟩
   ·have i1:¬ (i:Int)<(n:Int):=by omega
    have HF:=hide (rZ HL.out (fun j hj=>HI.out j (by have:=HN.out;omega)));go_wp2;go_ret;exact ⟨by rw [HF.out];rfl,HR.out⟩
 ·have HF:=hide (sD (xs:=xs) (ys:=ys) (by omega));have z0:((n:Int) != (m:Int))=true:=by simp;omega
  clear ha hb hn hm;go_enter Try.func47,Try.ntmps47;go_wp2;go_ret;exact ⟨by rw [HF.out];rfl,HW0.out⟩
theorem sameInts_any {w:World} {a b:Option Addr} {ca cb n m:Nat} {xs ys:List Int} (ha:IntsAt w a xs) (hb:IntsAt w b ys) (hn:xs.length=n) (hm:ys.length=m) (hl:n≤9223372036854775807) (hl2:m≤9223372036854775807) :
  Calls Try.prog 44 #[.slice a n ca,.slice b m cb] w fun e w'=>e=.returned (.bool (sameB xs ys))∧Below w.heap.size w w':=by
 have HA:=hide ha;have HB:=hide hb;have HN:=hide hn;have HM:=hide hm;have HW0:Hid (Below w.heap.size w w):=Below.refl _ _
 by_cases hnm:n=m
 ·have HL:Hid (xs.length=ys.length):=by show _=_;omega
  subst hnm;have z0:((n:Int) != (n:Int))=false:=by simp
  clear ha hb hn hm;go_enter Try.func44,Try.ntmps44;go_wp2
  go_loopw [5] (fun vi wr=>∃ i:Nat,vi=.int .i64 i∧i≤n∧Hid (∀ j,j<i→xs[j]! = ys[j]!)∧Hid (Below w.heap.size w wr)) (fun vi _=>n-(intOf vi).toNat)
  case atStart=>exact ⟨0,rfl,Nat.zero_le _,fun j hj=>absurd hj (Nat.not_lt_zero j),HW0.out⟩
  case round =>
   obtain ⟨i,rfl,hi,HI,HR⟩:=hrel
   by_cases hil:i<n
   ·have i1:(i:Int)<(n:Int):=by omega
    obtain ⟨b1,o1,rfl,c1⟩:=(HA.out.later HR.out) i (by rw [HN.out];exact hil);obtain ⟨b2,o2,rfl,c2⟩:=(HB.out.later HR.out) i (by rw [HM.out];exact hil)
    by_cases hle:xs[i]! = ys[i]!
    ·have HI2:Hid (∀ j,j<i+1→xs[j]! = ys[j]!):=fun j hj=>by
      by_cases e:j=i
      ·rw [e];exact hle
      ·exact HI.out j (by omega)
     generalize xs[i]! = x at c1 hle
     generalize ys[i]! = y at c2 hle
     subst hle;have i2:(x != x)=false:=by simp
     go_wp2
     go_quiet (fail)
     go_wp2;go_roundw
     case rel=>exact ⟨i+1,by go_num,by omega,HI2.out,below_drewN HR.out _⟩
     case measure=>simp [intOf];omega
    ·have HF:=hide (yeC hle)
     generalize xs[i]! = x at c1 hle
     generalize ys[i]! = y at c2 hle
     have i2:(x != y)=true:=by simpa using hle
     go_wp2
     go_quiet (fail)
     go_wp2;go_ret;exact ⟨by rw [HF.out];rfl,below_drewN HR.out _⟩
   ·have i1:¬ (i:Int)<(n:Int):=by omega
    have HF:=hide (yeB HL.out (fun j hj=>HI.out j (by have:=HN.out;omega)));go_wp2;go_ret;exact ⟨by rw [HF.out];rfl,HR.out⟩
 ·have HF:=hide (yeD (xs:=xs) (ys:=ys) (by omega));have z0:((n:Int) != (m:Int))=true:=by simp;omega
  clear ha hb hn hm;go_enter Try.func44,Try.ntmps44;go_wp2;go_ret;exact ⟨by rw [HF.out];rfl,HW0.out⟩
theorem zero_in (n:Nat) (w:World) (h:n≤3) :
  Calls Try.prog 77 #[.int .i64 n] w fun e w'=>e=.returned (.slice (some ⟨w.heap.size,0,none⟩) n n)∧w'=w.alloc (.cells (Array.replicate n (.int .i64 0)) 3):=by
 have hmk:=made_ints n (by omega) w;go_enter Try.func77,Try.ntmps77;go_wp2;go_ret;exact ⟨rfl,rfl⟩
end Go.Proofs.Ytgjpkpmikbpcnaa.Ld
namespace Go.Proofs.Ytgjpkpmikbpcnaa
open Go.RowKit
def Smal (M:Int) (xs:List Int):Prop:=∀ k,k<xs.length→-M≤xs[k]!∧xs[k]!≤M
def kX (xs ys:List Int):List Int:=(List.range xs.length).map fun i=>xs[i]!+ys[i]!
def kI (xs ys:List Int):List Int:=(List.range xs.length).map fun i=>xs[i]! - ys[i]!
theorem gR (xs ys:List Int):(kX xs ys).length=xs.length:=by simp [kX]
theorem eL (xs ys:List Int):(kI xs ys).length=xs.length:=by simp [kI]
theorem nN (xs ys:List Int) (k:Nat) (h:k<xs.length):(kX xs ys)[k]! = xs[k]!+ys[k]!:=by
 rw [getElem!_pos (kX xs ys) k (by rw [gR];exact h)]
 simp [kX]
theorem qD (xs ys:List Int) (k:Nat) (h:k<xs.length):(kI xs ys)[k]! = xs[k]! - ys[k]!:=by
 rw [getElem!_pos (kI xs ys) k (by rw [eL];exact h)]
 simp [kI]
theorem Smal.add {M K:Int} {xs ys:List Int} (h:Smal M xs) (k:Smal K ys) (e:xs.length=ys.length):Smal (M+K) (kX xs ys):=fun i hi=>by
 rw [gR] at hi;rw [nN xs ys i hi];have:=h i hi;have:=k i (by omega)
 omega
theorem Smal.sub {M K:Int} {xs ys:List Int} (h:Smal M xs) (k:Smal K ys) (e:xs.length=ys.length):Smal (M+K) (kI xs ys):=fun i hi=>by
 rw [eL] at hi;rw [qD xs ys i hi];have:=h i hi;have:=k i (by omega)
 omega
theorem Smal.mono {M K:Int} {xs:List Int} (h:Smal M xs) (hk:M≤K):Smal K xs:=fun i hi=>by
 have:=h i hi
 omega
theorem jU {x:Int} (h:-1000000000000≤x) (k:x≤1000000000000):Ld.fitsB x=true:=(Ld.fitsB_iff x).2 ⟨by omega,by omega⟩
theorem yfQ {xs ys:List Int} (h:Smal 100000000000 xs) (k:Smal 100000000000 ys) (e:xs.length=ys.length):Ld.eachM Ld.addF xs ys=(kX xs ys,0):=by
 have ok:∀ i,i<xs.length→Ld.addOk xs[i]! ys[i]! = true:=fun i hi=>by
  have h1:=h i hi;have h2:=k i (by omega);unfold Ld.addOk;rw [jU (by omega) (by omega),jU (by omega) (by omega),jU (by omega) (by omega)]
  rfl
 rw [Ld.eachM_ok e fun i hi=>by unfold Ld.addF Ld.addE;simp only;rw [ok i hi];rfl];refine Prod.ext (List.map_congr_left fun i hi=>?_) rfl;have hi:=List.mem_range.1 hi;show (Ld.addF _ _).1=_;unfold Ld.addF Ld.addV;simp only;rw [ok i hi]
 rfl
theorem yfP {xs ys:List Int} (h:Smal 100000000000 xs) (k:Smal 100000000000 ys) (e:xs.length=ys.length):Ld.eachM Ld.subF xs ys=(kI xs ys,0):=by
 have fy:∀ i,i<xs.length→Ld.fitsB ys[i]! = true:=fun i hi=>by
  have h2:=k i (by omega);exact jU (by omega) (by omega)
 have ok:∀ i,i<xs.length→Ld.addOk xs[i]! (-ys[i]!)=true:=fun i hi=>by
  have h1:=h i hi;have h2:=k i (by omega);unfold Ld.addOk;rw [jU (by omega) (by omega),jU (by omega) (by omega),jU (by omega) (by omega)]
  rfl
 rw [Ld.eachM_ok e fun i hi=>by unfold Ld.subF Ld.addE;rw [if_pos (fy i hi),ok i hi];rfl];refine Prod.ext (List.map_congr_left fun i hi=>?_) rfl;have hi:=List.mem_range.1 hi;show (Ld.subF _ _).1=_;unfold Ld.subF Ld.addV;rw [if_pos (fy i hi),ok i hi];show xs[i]! + -ys[i]! = xs[i]! - ys[i]!
 omega
theorem cW (w:World) (k i:Int):Calls Try.prog 73 #[.agg #[.int .i64 k,.int .i64 i]] w fun e w'=>e=.returned (.bool (k == 4))∧Below w.heap.size w w':=by
 have HB0:Hid (∀ A,Below w.heap.size w (w.alloc A)):=fun A=>(Below.refl _ _).alloc (Nat.le_refl _) A;go_enter Try.func73,Try.ntmps73;go_wp2;go_ret;exact ⟨rfl,HB0.out _⟩
theorem qW {w:World} {a b:Option Addr} {ca cb n:Nat} {xs ys:List Int} (ha:IntsAt w a xs) (hb:IntsAt w b ys) (hn:xs.length=n) (hm:ys.length=n) (hl:n≤3) (h1:Smal 100000000000 xs) (h2:Smal 100000000000 ys) :
  Calls Try.prog 79 #[.func (.func 80) #[] #[],.slice a n ca,.slice b n cb] w fun e w'=>∃ a' c',e=.returned (.slice a' n c')∧IRow w' w.heap.size (.slice a' n c') (kX xs ys)∧Below w.heap.size w w':=by
 have HE:=hide (yfQ h1 h2 (hn.trans hm.symm));have HC:=hide (Ld.add_any (ca:=ca) (cb:=cb) ha hb hn hm (by omega) (by omega));have HLN:Hid ((kX xs ys).length=n):=by show _=_;rw [gR];exact hn
 rw [HE.out] at HC;simp only [HLN.out] at HC;clear ha hb hn hm h1 h2;have y0:((0:Int) != 0)=false:=by decide
 go_enter Try.func79,Try.ntmps79;go_wp2_with (go_at_call 80;refine HC.out.mono ?_;rintro e w1 ⟨a',c',rfl,R1,k1⟩;have HR1:=hide R1;have K1:=hide k1;clear R1 k1);go_ret;exact ⟨_,_,rfl,HR1.out,K1.out⟩
theorem xF {w:World} {a b:Option Addr} {ca cb n:Nat} {xs ys:List Int} (ha:IntsAt w a xs) (hb:IntsAt w b ys) (hn:xs.length=n) (hm:ys.length=n) (hl:n≤3) (h1:Smal 100000000000 xs) (h2:Smal 100000000000 ys) :
  Calls Try.prog 79 #[.func (.func 117) #[] #[],.slice a n ca,.slice b n cb] w fun e w'=>∃ a' c',e=.returned (.slice a' n c')∧IRow w' w.heap.size (.slice a' n c') (kI xs ys)∧Below w.heap.size w w':=by
 have HE:=hide (yfP h1 h2 (hn.trans hm.symm));have HC:=hide (Ld.sub_any (ca:=ca) (cb:=cb) ha hb hn hm (by omega) (by omega) (fun k hk=>by have:=h2 k hk;unfold Ld.I64;omega));have HLN:Hid ((kI xs ys).length=n):=by show _=_;rw [eL];exact hn
 rw [HE.out] at HC;simp only [HLN.out] at HC;clear ha hb hn hm h1 h2;have y0:((0:Int) != 0)=false:=by decide
 go_enter Try.func79,Try.ntmps79;go_wp2_with (go_at_call 117;refine HC.out.mono ?_;rintro e w1 ⟨a',c',rfl,R1,k1⟩;have HR1:=hide R1;have K1:=hide k1;clear R1 k1);go_ret;exact ⟨_,_,rfl,HR1.out,K1.out⟩
theorem fH {w:World} {x:aU} {p:Prb} (h:PrbV w x p) (k i:Int):Calls Try.prog 78 #[.agg (aL p x),.agg #[.int .i64 k,.int .i64 i]] w fun e w'=>e=.returned (.bool (aI p k i))∧Below w.heap.size w w':=by
 have HB0:Hid (∀ A B,Below w.heap.size w ((w.alloc A).alloc B)):=fun A B=>((Below.refl _ _).alloc (Nat.le_refl _) A).alloc (by simp) B;have HP:=hide h;obtain ⟨ta,tc,da,dc,va,vc,ja,jc,sa,sc,rfl⟩:=h.open;obtain ⟨s0,i0,b0,ho⟩:∃ s0 i0 b0,ofM k i=((s0,i0),b0):=⟨_,_,_,rfl⟩;have HT:Hid (aI p k i=(b0 && bM p (s0,i0))):=by show _=_;unfold aI;rw [ho]
 rw [HT.out];have HO:=hide ho;clear ho h HT;obtain ⟨t0,ht0⟩:∃ t,bM p (s0,i0)=t:=⟨_,rfl⟩;rw [ht0];have HT0:=hide ht0;clear ht0;unfold aL
 cases b0 with
 | false =>
  go_enter Try.func78,Try.ntmps78;go_wp2_with (go_at_call 19;refine (iW _ _ _).mono ?_;rintro e w1 ⟨rfl,k1⟩;rw [HO.out];simp only [dZ];have B1:=hide k1;obtain ⟨hc1,hf1⟩:=aA k1;clear k1);go_ret;exact ⟨rfl,(by repeat (first | exact below_on (HB0.out _ _) B1.out | refine Below.drew ?_ | (refine Below.alloc ?_ (by have:=B1.out.size;simp at this ⊢;omega) _)))⟩
 | true =>
  go_enter Try.func78,Try.ntmps78;go_wp2_with (first | (go_at_call 26;refine (fF (HP.out.on (below_on (HB0.out _ _) (below_on B1.out Mn.a))) _ _).mono ?_;rintro e w2 ⟨rfl,k2⟩;rw [HT0.out];have B2:=hide (below_on (below_on B1.out Mn.a) k2);clear k2) | (go_at_call 19;refine (iW _ _ _).mono ?_;rintro e w1 ⟨rfl,k1⟩;rw [HO.out];simp only [dZ];have B1:=hide k1;have l1:w.heap.size+1<w1.heap.size:=(by have:=k1.size;simp at this;omega);have l0:w.heap.size<w1.heap.size:=(by omega);have n0:¬ w.heap.size=w1.heap.size:=(by omega);have n1:¬ w.heap.size+1=w1.heap.size:=(by omega);have p0:w1.cell? ⟨w.heap.size,0,none⟩=some (.int .i64 p.dims):=((aA k1).1 _ 0 (by simp;omega)).trans (by simp [go_sem]);have p1:w1.cell? ⟨w.heap.size,1,none⟩=some (.int .i64 p.time.n):=((aA k1).1 _ 1 (by simp;omega)).trans (by simp [go_sem]);have p2:w1.cell? ⟨w.heap.size,2,none⟩=some (.slice ta p.time.cells.length tc):=((aA k1).1 _ 2 (by simp;omega)).trans (by simp [go_sem]);have p3:w1.cell? ⟨w.heap.size,3,none⟩=some (.int .i64 p.dist.n):=((aA k1).1 _ 3 (by simp;omega)).trans (by simp [go_sem]);have p4:w1.cell? ⟨w.heap.size,4,none⟩=some (.slice da p.dist.cells.length dc):=((aA k1).1 _ 4 (by simp;omega)).trans (by simp [go_sem]);have p5:w1.cell? ⟨w.heap.size,5,none⟩=some (.slice va p.vs.length vc):=((aA k1).1 _ 5 (by simp;omega)).trans (by simp [go_sem]);have p6:w1.cell? ⟨w.heap.size,6,none⟩=some (.slice ja p.js.length jc):=((aA k1).1 _ 6 (by simp;omega)).trans (by simp [go_sem]);have p7:w1.cell? ⟨w.heap.size,7,none⟩=some (.slice sa p.ss.length sc):=((aA k1).1 _ 7 (by simp;omega)).trans (by simp [go_sem]);clear k1) | fail);go_ret;exact ⟨rfl,below_on (HB0.out _ _) B2.out⟩
end Go.Proofs.Ytgjpkpmikbpcnaa
namespace Go.Proofs.Ytgjpkpmikbpcnaa
open Go.RowKit
theorem ydD (w:World) (t:Tsk):∀ j u,(zY t)[j]? = some u→(w.alloc (.cells #[.bool t.1,.int .i64 t.2] 31)).cell? ((⟨w.heap.size,0,none⟩:Addr).add j)=some u:=by
 intro j u hu;have hr:=heap_alloc_new w (.cells #[.bool t.1,.int .i64 t.2] 31);have hj:j<2:=(List.getElem?_eq_some_iff.1 hu).1;rw [add0,cell_of_row _ _ _ _ _ _ hr];have:j=0∨j=1:=by omega
 rcases this with rfl | rfl <;> exact hu
end Go.Proofs.Ytgjpkpmikbpcnaa
namespace Go.Proofs.Ytgjpkpmikbpcnaa
open Go.RowKit
def PrV (w:World) (v:Value) (n:Nat) (c:Nat→Value × Value):Prop:=∃ a cp,v=.slice a n cp∧n*16≤140737488351232∧∀ k,k<n→∃ b off,a=some ⟨b,off,none⟩∧w.cell? ⟨b,off+k*2,none⟩=some (c k).1∧w.cell? ⟨b,off+k*2+1,none⟩=some (c k).2
theorem nH {w:World} {b o:Nat} {v:Value} (h:w.cell? ⟨b,o,none⟩=some v):b<w.heap.size:=by
 unfold World.cell? at h
 cases hh:w.heap[b]? with
 | none=>simp only [hh] at h;cases h
 | some x=>exact (Array.getElem?_eq_some_iff.1 hh).1
theorem PrV.on {w w':World} {v:Value} {n:Nat} {c:Nat→Value × Value} (h:PrV w v n c) (f:Below w.heap.size w w'):PrV w' v n c:=by
 obtain ⟨a,cp,rfl,hb,hc⟩:=h;refine ⟨a,cp,rfl,hb,fun k hk=>?_⟩;obtain ⟨b,off,e,c1,c2⟩:=hc k hk;have hl:b<w.heap.size:=nH c1;exact ⟨b,off,e,by rw [f.cell (p:=⟨b,off+k*2,none⟩) hl];exact c1,by rw [f.cell (p:=⟨b,off+k*2+1,none⟩) hl];exact c2⟩
theorem qI {w:World} {v u:Value} {n:Nat} {f:Nat→Int} {g:Nat→Int} (h:PrV w v n fun k=>(.int .i64 (f k),.int .i64 (g k))) (h':PrV w u n fun k=>(.int .i64 (f k),.int .i64 (g k))):Calls Try.prog 30 #[v,u] w fun e w'=>e=.returned (.bool true)∧Below w.heap.size w w':=by
 obtain ⟨a,cp,rfl,hb,hc⟩:=h;obtain ⟨a',cp',rfl,_,hc'⟩:=h';have HC:=hide hc;have HC':=hide hc';clear hc hc';have y1:((n:Int) != (n:Int))=false:=by simp
 go_enter Try.func30,Try.ntmps30;go_wp2
 go_loopw [5] (fun vi wr=>∃ k:Nat,vi=.int .i64 k∧k≤n∧Hid (Below w.heap.size w wr)) (fun vi _=>n-(intOf vi).toNat)
 case atStart=>exact ⟨0,rfl,Nat.zero_le _,Below.refl _ _⟩
 case round =>
  obtain ⟨k,rfl,hk,HR⟩:=hrel
  by_cases hlt:k<n
  ·obtain ⟨b,off,rfl,c1,c2⟩:=HC.out k hlt;obtain ⟨b',off',rfl,c3,c4⟩:=HC'.out k hlt;have l1:=nH c1;have l2:=nH c3;have d1:wr.cell? ⟨b,off+k*2,none⟩=some (.int .i64 (f k)):=by rw [HR.out.cell (p:=⟨b,off+k*2,none⟩) l1];exact c1
   have d2:wr.cell? ⟨b,off+k*2+1,none⟩=some (.int .i64 (g k)):=by rw [HR.out.cell (p:=⟨b,off+k*2+1,none⟩) l1];exact c2
   have d3:wr.cell? ⟨b',off'+k*2,none⟩=some (.int .i64 (f k)):=by rw [HR.out.cell (p:=⟨b',off'+k*2,none⟩) l2];exact c3
   have d4:wr.cell? ⟨b',off'+k*2+1,none⟩=some (.int .i64 (g k)):=by rw [HR.out.cell (p:=⟨b',off'+k*2+1,none⟩) l2];exact c4
   obtain ⟨F,hF⟩:∃ F,f k=F:=⟨_,rfl⟩;obtain ⟨G,hG⟩:∃ G,g k=G:=⟨_,rfl⟩;rw [hF] at d1 d3;rw [hG] at d2 d4;clear hF hG c1 c2 c3 c4 l1 l2;have i3:(k:Int)<(n:Int):=by omega
   have i4:(0:Int)≤(k:Int):=by omega
   have yF:(F == F)=true:=by simp
   have yG:(G == G)=true:=by simp
   go_wp2
   go_quiet (fail)
   go_wp2;go_roundw
   case rel=>exact ⟨k+1,by go_num,by omega,below_drewN HR.out _⟩
   case measure=>simp [intOf];omega
  ·have i3:¬ (k:Int)<(n:Int):=by omega
   go_wp2;go_ret;exact ⟨rfl,HR.out⟩
end Go.Proofs.Ytgjpkpmikbpcnaa
namespace Go.Proofs.Ytgjpkpmikbpcnaa
open Go.RowKit
def gV (s:Bool):Nat:=if s=true then 2 else 1
def uJ (s:Bool) (k:Nat):Int:=if s=true then (k:Int)+2 else 1
theorem pZ (w:World) (s:Bool) (i:Int):Calls Try.prog 31 #[.agg #[.bool s,.int .i64 i]] w fun e w'=>∃ v,e=.returned v∧PrV w' v (gV s) (fun k=>(.int .i64 (uJ s k),.int .i64 i))∧(∃ c,v=.slice (some ⟨w.heap.size+1,0,none⟩) (gV s) c)∧Below w.heap.size w w':=by
 have HB0:Hid (∀ A B,Below w.heap.size w ((w.alloc A).alloc B)):=fun A B=>((Below.refl _ _).alloc (Nat.le_refl _) A).alloc (by simp) B
 cases s with
 | true =>
  go_enter Try.func31,Try.ntmps31;go_wp2;go_ret;have hr:=heap_alloc2_new w (.cells #[.bool true,.int .i64 i] 31) (.cells #[.int .i64 2,.int .i64 i,.int .i64 3,.int .i64 i] 34);refine ⟨_,rfl,⟨_,_,rfl,by decide,fun k hk=>⟨w.heap.size+1,0,rfl,?_⟩⟩,⟨_,rfl⟩,HB0.out _ _⟩;rw [cell_of_row _ _ _ _ _ _ hr,cell_of_row _ _ _ _ _ _ hr];have hk:k<2:=hk;have hk:k=0∨k=1:=by omega
  rcases hk with rfl | rfl <;> exact ⟨rfl,rfl⟩
 | false =>
  go_enter Try.func31,Try.ntmps31;go_wp2;go_ret;have hr:=heap_alloc2_new w (.cells #[.bool false,.int .i64 i] 31) (.cells #[.int .i64 1,.int .i64 i] 34);refine ⟨_,rfl,⟨_,_,rfl,by decide,fun k hk=>⟨w.heap.size+1,0,rfl,?_⟩⟩,⟨_,rfl⟩,HB0.out _ _⟩;rw [cell_of_row _ _ _ _ _ _ hr,cell_of_row _ _ _ _ _ _ hr];have hk:k<1:=hk;have hk:k=0:=by omega
  subst hk;exact ⟨rfl,rfl⟩
end Go.Proofs.Ytgjpkpmikbpcnaa
namespace Go.Proofs.Ytgjpkpmikbpcnaa
section
variable {α:Type} (f:α→Int)
end
theorem lY {p:Prb} (h:aY p=true) {j:Nat} (hj:j<p.js.length):mK p.dims p.time.n (p.js.getD j jz)=true:=by
 obtain ⟨_,_,_,_,h5⟩:=jP h;unfold ydR at h5;simp only [Bool.and_eq_true] at h5;exact List.all_eq_true.1 h5.1.2 _ (kS _ _ _ hj)
theorem fV {p:Prb} (h:aY p=true) {j:Nat} (hj:j<p.ss.length):jE p.dims p.time.n (p.ss.getD j hz)=true:=by
 obtain ⟨_,_,_,_,h5⟩:=jP h;unfold ydR at h5;simp only [Bool.and_eq_true] at h5;exact List.all_eq_true.1 h5.2 _ (kS _ _ _ hj)
end Go.Proofs.Ytgjpkpmikbpcnaa
