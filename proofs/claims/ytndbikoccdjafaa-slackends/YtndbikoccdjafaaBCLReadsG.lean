/-
  Several texts in one: CLReads CPlnA CSame CTskP CBhd CLds CRst CArgV.
-/
import Derived.Deep.RegionHeld3
import Derived.Test.YtndbikoccdjafaaBCCelG
import Derived.Test.YtndbikoccdjafaaBCStpAG
import Derived.Test.YtndbikoccdjafaaBCAskG
import Derived.Test.YtndbikoccdjafaaBCRowTG
import Derived.Test.YtndbikoccdjafaaBCCpDG
import Derived.Test.YtndbikoccdjafaaBCArg
namespace Go.Proofs.Ytndbikoccdjafaa.Ld
open Go.RowKit
set_option maxRecDepth 100000 in
set_option maxHeartbeats 1600000 in
theorem runder_any {w : World} {a b : Option Addr} {ca cb n m : Nat} {xs ys : List Int} (ha : IntsAt w a xs) (hb : IntsAt w b ys) (hn : xs.length = n) (hm : ys.length = m) (hl : n ≤ 9223372036854775807) (hl2 : m ≤ 9223372036854775807) :
  Calls Try.prog 111 #[.slice a n ca,.slice b m cb] w fun e w' => e = .returned (.bool (underB xs ys)) ∧ Below w.heap.size w w' := by
 have HA := hide ha
 have HB := hide hb
 have HN := hide hn
 have HM := hide hm
 have HW0 : Hid (Below w.heap.size w w) := Below.refl _ _
 by_cases hnm : n = m
 ·have HL : Hid (xs.length = ys.length) := by show _ = _;omega
  subst hnm
  have z0 : ((n : Int) != (n : Int)) = false := by simp
  clear ha hb hn hm
  go_enter Try.func111,Try.ntmps111
  go_wp2
  go_loopw [5] (fun vi wr => ∃ i : Nat,vi = .int .i64 i ∧ i ≤ n ∧ Hid (∀ j,j < i → xs[j]! ≤ ys[j]!) ∧ Hid (Below w.heap.size w wr)) (fun vi _ => n - (intOf vi).toNat)
  case atStart => exact ⟨0,rfl,Nat.zero_le _,fun j hj => absurd hj (Nat.not_lt_zero j),HW0.out⟩
  case round =>
   obtain ⟨i,rfl,hi,HI,HR⟩ := hrel
   by_cases hil : i < n
   ·have i1 : (i : Int) < (n : Int) := by omega
    obtain ⟨b1,o1,rfl,c1⟩ := (HA.out.later HR.out) i (by rw [HN.out];exact hil)
    obtain ⟨b2,o2,rfl,c2⟩ := (HB.out.later HR.out) i (by rw [HM.out];exact hil)
    by_cases hle : xs[i]! ≤ ys[i]!
    ·have HI2 : Hid (∀ j,j < i + 1 → xs[j]! ≤ ys[j]!) := fun j hj => by
      by_cases e : j = i
      ·rw [e];exact hle
      ·exact HI.out j (by omega)
     generalize xs[i]! = x at c1 hle
     generalize ys[i]! = y at c2 hle
     have i2 : ¬ y < x := by omega
     have i3 : decide (y < x) = false := decide_eq_false i2
     go_wp2
     go_quiet (fail)
     go_wp2
     go_roundw
     case rel => exact ⟨i + 1,by go_num,by omega,HI2.out,below_drewN HR.out _⟩
     case measure => simp [intOf];omega
    ·have HF := hide (underB_no (ys := ys) (k := i) (by rw [HN.out];exact hil) hle)
     generalize xs[i]! = x at c1 hle
     generalize ys[i]! = y at c2 hle
     have i2 : y < x := by omega
     have i3 : decide (y < x) = true := decide_eq_true i2
     go_wp2
     go_quiet (fail)
     go_wp2
     go_ret
     exact ⟨by rw [HF.out];rfl,below_drewN HR.out _⟩
   ·have i1 : ¬ (i : Int) < (n : Int) := by omega
    have HF := hide (underB_ok HL.out (fun j hj => HI.out j (by have := HN.out;omega)))
    go_wp2
    go_ret
    exact ⟨by rw [HF.out];rfl,HR.out⟩
 ·have HF := hide (underB_ne (xs := xs) (ys := ys) (by omega))
  have z0 : ((n : Int) != (m : Int)) = true := by simp;omega
  clear ha hb hn hm
  go_enter Try.func111,Try.ntmps111
  go_wp2
  go_ret
  exact ⟨by rw [HF.out];rfl,HW0.out⟩
end Go.Proofs.Ytndbikoccdjafaa.Ld
namespace Go.Proofs.Ytndbikoccdjafaa
open Go.RowKit
def Smal (M : Int) (xs : List Int) : Prop := ∀ k,k < xs.length → -M ≤ xs[k]! ∧ xs[k]! ≤ M
def addL (xs ys : List Int) : List Int := (List.range xs.length).map fun i => xs[i]! + ys[i]!
def subL (xs ys : List Int) : List Int := (List.range xs.length).map fun i => xs[i]! - ys[i]!
theorem addL_len (xs ys : List Int) : (addL xs ys).length = xs.length := by simp [addL]
theorem subL_len (xs ys : List Int) : (subL xs ys).length = xs.length := by simp [subL]
theorem addL_get (xs ys : List Int) (k : Nat) (h : k < xs.length) : (addL xs ys)[k]! = xs[k]! + ys[k]! := by
 rw [getElem!_pos (addL xs ys) k (by rw [addL_len];exact h)]
 simp [addL]
theorem subL_get (xs ys : List Int) (k : Nat) (h : k < xs.length) : (subL xs ys)[k]! = xs[k]! - ys[k]! := by
 rw [getElem!_pos (subL xs ys) k (by rw [subL_len];exact h)]
 simp [subL]
theorem Smal.add {M K : Int} {xs ys : List Int} (h : Smal M xs) (k : Smal K ys) (e : xs.length = ys.length) : Smal (M + K) (addL xs ys) := fun i hi => by
 rw [addL_len] at hi
 rw [addL_get xs ys i hi]
 have := h i hi
 have := k i (by omega)
 omega
theorem Smal.sub {M K : Int} {xs ys : List Int} (h : Smal M xs) (k : Smal K ys) (e : xs.length = ys.length) : Smal (M + K) (subL xs ys) := fun i hi => by
 rw [subL_len] at hi
 rw [subL_get xs ys i hi]
 have := h i hi
 have := k i (by omega)
 omega
theorem Smal.mono {M K : Int} {xs : List Int} (h : Smal M xs) (hk : M ≤ K) : Smal K xs := fun i hi => by
 have := h i hi
 omega
end Go.Proofs.Ytndbikoccdjafaa
namespace Go.Proofs.Ytndbikoccdjafaa
open Go.RowKit
def PrV (w : World) (v : Value) (n : Nat) (c : Nat → Value × Value) : Prop := ∃ a cp,v = .slice a n cp ∧ n * 16 ≤ 140737488351232 ∧ ∀ k,k < n → ∃ b off,a = some ⟨b,off,none⟩ ∧ w.cell? ⟨b,off + k * 2,none⟩ = some (c k).1 ∧ w.cell? ⟨b,off + k * 2 + 1,none⟩ = some (c k).2
theorem cell_lt9 {w : World} {b o : Nat} {v : Value} (h : w.cell? ⟨b,o,none⟩ = some v) : b < w.heap.size := by
 unfold World.cell? at h
 cases hh : w.heap[b]? with
 | none => simp only [hh] at h;cases h
 | some x => exact (Array.getElem?_eq_some_iff.1 hh).1
theorem PrV.on {w w' : World} {v : Value} {n : Nat} {c : Nat → Value × Value} (h : PrV w v n c) (f : Below w.heap.size w w') : PrV w' v n c := by
 obtain ⟨a,cp,rfl,hb,hc⟩ := h
 refine ⟨a,cp,rfl,hb,fun k hk => ?_⟩
 obtain ⟨b,off,e,c1,c2⟩ := hc k hk
 have hl : b < w.heap.size := cell_lt9 c1
 exact ⟨b,off,e,by rw [f.cell (p := ⟨b,off + k * 2,none⟩) hl];exact c1,by rw [f.cell (p := ⟨b,off + k * 2 + 1,none⟩) hl];exact c2⟩
end Go.Proofs.Ytndbikoccdjafaa
namespace Go.Proofs.Ytndbikoccdjafaa
section
variable {α : Type} (f : α → Int)
end
theorem law_job {p : Prb} (h : lawM p = true) {j : Nat} (hj : j < p.js.length) : jobB p.dims p.time.n (p.js.getD j jz) = true := by
 obtain ⟨_,_,_,_,h5⟩ := lawM_ok h
 unfold allB at h5
 simp only [Bool.and_eq_true] at h5
 exact List.all_eq_true.1 h5.1.2 _ (getD_mem _ _ _ hj)
theorem law_shp {p : Prb} (h : lawM p = true) {j : Nat} (hj : j < p.ss.length) : shpB p.dims p.time.n (p.ss.getD j hz) = true := by
 obtain ⟨_,_,_,_,h5⟩ := lawM_ok h
 unfold allB at h5
 simp only [Bool.and_eq_true] at h5
 exact List.all_eq_true.1 h5.2 _ (getD_mem _ _ _ hj)
end Go.Proofs.Ytndbikoccdjafaa
namespace Go.Proofs.Ytndbikoccdjafaa
open Go.RowKit
theorem amt_ok {L : List Int} {d : Int} (h : amtB L d = true) : (L.length : Int) = d ∧ ∀ i,i < L.length → 0 ≤ L[i]! ∧ L[i]! ≤ 1000000 := by
 have h := of_decide_eq_true h
 unfold checkE at h
 split at h
 ·split at h
  ·exact ⟨by assumption,by assumption⟩
  ·cases h
 ·cases h
theorem amt_smal {L : List Int} {d : Int} (h : amtB L d = true) : Smal 1000000 L := fun i hi => by
 have := (amt_ok h).2 i hi
 omega
def behindM (p : Prb) (k i : Int) (xs : List Int) : List Int := if thereV p k i = true then (if k = 1 then addL (subL xs (p.js.getD i.toNat jz).drop) (p.js.getD i.toNat jz).pick else if k = 2 then addL xs (p.ss.getD i.toNat hz).amt else subL xs (p.ss.getD i.toNat hz).amt) else xs
theorem behindM_no {p : Prb} {k i : Int} {xs : List Int} (h : thereV p k i = false) : behindM p k i xs = xs := by unfold behindM;rw [h];rfl
theorem behindM_job {p : Prb} {j : Nat} {xs : List Int} (h : thereV p 1 (j : Int) = true) : behindM p 1 (j : Int) xs = addL (subL xs (p.js.getD j jz).drop) (p.js.getD j jz).pick := by unfold behindM;rw [h];simp
theorem behindM_pick {p : Prb} {j : Nat} {xs : List Int} (h : thereV p 2 (j : Int) = true) : behindM p 2 (j : Int) xs = addL xs (p.ss.getD j hz).amt := by unfold behindM;rw [h];simp
theorem behindM_deli {p : Prb} {j : Nat} {xs : List Int} (h : thereV p 3 (j : Int) = true) : behindM p 3 (j : Int) xs = subL xs (p.ss.getD j hz).amt := by unfold behindM;rw [h];simp
end Go.Proofs.Ytndbikoccdjafaa
namespace Go.Proofs.Ytndbikoccdjafaa
open Go.RowKit
abbrev Vst := Int × Int
def dropM (p : Prb) (v : Vst) (xs : List Int) : List Int := if v.1 = 1 ∧ thereV p v.1 v.2 = true then addL xs (p.js.getD v.2.toNat jz).drop else xs
def startM (p : Prb) (dd : Nat) (V : List Vst) : List Int := V.foldl (fun xs v => dropM p v xs) (List.replicate dd 0)
def goM (p : Prb) : List Int → List Vst → List (List Int)
 | _,[] => []
 | xs,v :: V => behindM p v.1 v.2 xs :: goM p (behindM p v.1 v.2 xs) V
def loadsM (p : Prb) (dd : Nat) (V : List Vst) : List (List Int) := startM p dd V :: goM p (startM p dd V) V
def lastL (p : Prb) (xs : List Int) (V : List Vst) : List Int := V.foldl (fun xs v => behindM p v.1 v.2 xs) xs
theorem goM_len (p : Prb) : ∀ (V : List Vst) (xs : List Int),(goM p xs V).length = V.length
 | [],_ => rfl
 | v :: V,xs => by simp [goM,goM_len p V]
theorem lastL_snoc (p : Prb) (V : List Vst) (xs : List Int) (v : Vst) : lastL p xs (V ++ [v]) = behindM p v.1 v.2 (lastL p xs V) := by unfold lastL;rw [List.foldl_append];rfl
theorem startM_snoc (p : Prb) (dd : Nat) (V : List Vst) (v : Vst) : startM p dd (V ++ [v]) = dropM p v (startM p dd V) := by unfold startM;rw [List.foldl_append];rfl
section
variable {p : Prb} {dd : Nat}
theorem drop_len {j : Nat} (h : lawM p = true) (hd : p.dims = dd) (hj : j < p.js.length) : (p.js.getD j jz).drop.length = dd ∧ (p.js.getD j jz).pick.length = dd ∧ Smal 1000000 (p.js.getD j jz).drop ∧ Smal 1000000 (p.js.getD j jz).pick := by
 have hJ := law_job h hj
 unfold jobB at hJ
 simp only [Bool.and_eq_true] at hJ
 have h1 := (amt_ok hJ.1.1.1.2).1
 have h2 := (amt_ok hJ.1.1.2).1
 exact ⟨by omega,by omega,amt_smal hJ.1.1.1.2,amt_smal hJ.1.1.2⟩
theorem amt_len {j : Nat} (h : lawM p = true) (hd : p.dims = dd) (hj : j < p.ss.length) : (p.ss.getD j hz).amt.length = dd ∧ Smal 1000000 (p.ss.getD j hz).amt := by
 have hJ := law_shp h hj
 unfold shpB at hJ
 simp only [Bool.and_eq_true] at hJ
 have h1 := (amt_ok hJ.1.1.2).1
 exact ⟨by omega,amt_smal hJ.1.1.2⟩
theorem dropM_ok {v : Vst} {xs : List Int} {M : Int} (h : lawM p = true) (hd : p.dims = dd) (hx : xs.length = dd) (hs : Smal M xs) : (dropM p v xs).length = dd ∧ Smal (M + 1000000) (dropM p v xs) := by
 unfold dropM
 split
 ·rename_i hv
  obtain ⟨k,i⟩ := v
  simp only at hv
  obtain ⟨rfl,ht⟩ := hv
  rcases thereV_cases ht with ⟨_,j,rfl,hj,_⟩ | ⟨e,_⟩ | ⟨e,_⟩
  ·obtain ⟨h1,_,h3,_⟩ := drop_len h hd hj
   simp only [Int.toNat_natCast]
   exact ⟨by rw [addL_len];exact hx,hs.add h3 (by omega)⟩
  ·cases e
  ·cases e
 ·exact ⟨hx,hs.mono (by omega)⟩
theorem behindM_ok {k i : Int} {xs : List Int} {M : Int} (h : lawM p = true) (hd : p.dims = dd) (hx : xs.length = dd) (hs : Smal M xs) : (behindM p k i xs).length = dd ∧ Smal (M + 2000000) (behindM p k i xs) := by
 cases ht : thereV p k i with
 | false => rw [behindM_no ht];exact ⟨hx,hs.mono (by omega)⟩
 | true =>
  rcases thereV_cases ht with ⟨rfl,j,rfl,hj,_⟩ | ⟨rfl,j,rfl,hj,_⟩ | ⟨rfl,j,rfl,hj,_⟩
  ·rw [behindM_job ht]
   obtain ⟨h1,h2,h3,h4⟩ := drop_len h hd hj
   refine ⟨by rw [addL_len,subL_len];exact hx,?_⟩
   have := (hs.sub h3 (by omega)).add h4 (by rw [subL_len];omega)
   exact this.mono (by omega)
  ·rw [behindM_pick ht]
   obtain ⟨h1,h2⟩ := amt_len h hd hj
   exact ⟨by rw [addL_len];exact hx,(hs.add h2 (by omega)).mono (by omega)⟩
  ·rw [behindM_deli ht]
   obtain ⟨h1,h2⟩ := amt_len h hd hj
   exact ⟨by rw [subL_len];exact hx,(hs.sub h2 (by omega)).mono (by omega)⟩
theorem zeros_smal (dd : Nat) : Smal 0 (List.replicate dd 0) := fun k hk => by
 rw [getElem!_pos _ k hk,List.getElem_replicate];omega
theorem foldl_snoc_ind {α : Type} {Q : List α → Prop} (h0 : Q []) (hs : ∀ V v,Q V → Q (V ++ [v])) : ∀ V,Q V := fun V => by
 have : ∀ n,∀ V : List α,V.length = n → Q V := by
  intro n
  induction n with
  | zero => intro V hV;rw [List.eq_nil_of_length_eq_zero hV];exact h0
  | succ n ih =>
   intro V hV
   have hne : V ≠ [] := fun e => by rw [e] at hV;cases hV
   rw [← List.dropLast_concat_getLast hne]
   exact hs _ _ (ih _ (by rw [List.length_dropLast];omega))
 exact this _ V rfl
theorem startM_ok (h : lawM p = true) (hd : p.dims = dd) (V : List Vst) : (startM p dd V).length = dd ∧ Smal (V.length * 1000000) (startM p dd V) := by
 refine foldl_snoc_ind (Q := fun V => (startM p dd V).length = dd ∧ Smal ((V.length : Int) * 1000000) (startM p dd V)) ⟨by simp [startM],by simpa [startM] using zeros_smal dd⟩ (fun V v ⟨h1,h2⟩ => ?_) V
 rw [startM_snoc]
 have := dropM_ok (v := v) h hd h1 h2
 exact ⟨this.1,this.2.mono (by simp;omega)⟩
theorem lastL_ok (h : lawM p = true) (hd : p.dims = dd) {xs : List Int} {M : Int} (hx : xs.length = dd) (hs : Smal M xs) (V : List Vst) : (lastL p xs V).length = dd ∧ Smal (M + V.length * 2000000) (lastL p xs V) := by
 refine foldl_snoc_ind (Q := fun V => (lastL p xs V).length = dd ∧ Smal (M + (V.length : Int) * 2000000) (lastL p xs V)) ⟨hx,by simpa [lastL] using hs⟩ (fun V v ⟨h1,h2⟩ => ?_) V
 rw [lastL_snoc]
 have := behindM_ok (k := v.1) (i := v.2) h hd h1 h2
 exact ⟨this.1,this.2.mono (by simp;omega)⟩
end
end Go.Proofs.Ytndbikoccdjafaa
namespace Go.Proofs.Ytndbikoccdjafaa
open Go.RowKit
def VsV (w : World) (v : Value) (V : List Vst) : Prop := PrV w v V.length fun k => (.int .i64 (V.getD k (0,0)).1,.int .i64 (V.getD k (0,0)).2)
theorem vs_cells {w : World} {a : Option Addr} {m c k : Nat} {V : List Vst} {u : Vst} (h : VsV w (.slice a m c) V) (hu : V[k]? = some u) : ∃ b off,a = some ⟨b,off,none⟩ ∧ b < w.heap.size ∧ w.cell? ⟨b,off + k * 2,none⟩ = some (.int .i64 u.1) ∧ w.cell? ⟨b,off + k * 2 + 1,none⟩ = some (.int .i64 u.2) ∧ V.length = m := by
 obtain ⟨a',c',e,_,hc⟩ := h
 injection e with e1 e2 e3
 subst e1
 have hk := (List.getElem?_eq_some_iff.1 hu).1
 obtain ⟨b,off,e,h1,h2⟩ := hc k hk
 have eg : V.getD k (0,0) = u := by rw [List.getD_eq_getElem?_getD,hu];rfl
 simp only [eg] at h1 h2
 exact ⟨b,off,e,cell_lt9 h1,h1,h2,e2.symm⟩
def brkF : Nat → List Vst → Option Nat
 | n,[] => some n
 | n,v :: V => if v.1 = 4 then (if v.2 = (n : Int) then brkF (n + 1) V else none) else brkF n V
def restM (V : List Vst) (n : Nat) : Bool := decide (brkF 0 V = some n)
theorem brkF_drop {V : List Vst} {k n : Nat} {v : Vst} (h : V[k]? = some v) : brkF n (V.drop k) = if v.1 = 4 then (if v.2 = (n : Int) then brkF (n + 1) (V.drop (k + 1)) else none) else brkF n (V.drop (k + 1)) := by
 obtain ⟨hk,e⟩ := List.getElem?_eq_some_iff.1 h
 rw [List.drop_eq_getElem_cons hk,e]
 rfl
end Go.Proofs.Ytndbikoccdjafaa
namespace Go.Proofs.Ytndbikoccdjafaa
open Go.ChangeShapes Go.WideShapes Go.ChangeAt Go.WideMaps Go.WideElems Go.RowKit Go.Deep
theorem bytes34v : Try.prog.bytesOf 43 = 16 := by kernel_rfl
theorem cells34v : Try.prog.cellsOf 43 = 2 := by kernel_rfl
def valV : Option Value → Int
 | some (.int _ x) => x
 | _ => 0
def visAt (W : World) (b off k : Nat) : Vst := (valV (W.cell? ⟨b,off + k * 2,none⟩),valV (W.cell? ⟨b,off + k * 2 + 1,none⟩))
theorem visAt_get (W : World) (b off m k : Nat) (h : k < m) : ((List.range m).map (visAt W b off)).getD k (0,0) = visAt W b off k := by
 rw [List.getD_eq_getElem?_getD]
 simp [h]
set_option maxRecDepth 100000 in
theorem open_visits {H : Type} {enc : TypeId × Value → H} {W : World} {a : Option Addr} {m c : Nat} {d : DataW H} {p : List MemPlace}
  (h : DataW.Trod enc Try.prog W 0 (fun _ => true) true 30 (.slice a m c) d p) (hz : ∀ k ∈ d.weights Try.prog 30,k ≤ reachBytes) : ∃ L : List Vst,VsV W (.slice a m c) L ∧ L.length = m ∧ (a = none → c = 0) := by
 obtain ⟨fuel,hf⟩ := h
 rcases open_slice Try.underlying30 hf with ⟨hcs,_⟩ | ⟨x,l,cc,mm,nn,D,Pl,hcs,_,hl,hmx,hmm,hx,hcell⟩
 ·simp [Value.cells] at hcs
  obtain ⟨rfl,rfl,rfl⟩ := hcs
  exact ⟨[],⟨none,0,rfl,by simp,fun k hk => by simp at hk⟩,rfl,fun _ => rfl⟩
 ·simp [Value.cells] at hcs
  obtain ⟨rfl,rfl,rfl⟩ := hcs
  simp only [if_true] at hmm
  have hd : d = _ := congrArg Prod.fst hx
  have hsz := hz ((m + (mm - m)) * Try.prog.bytesOf 43) (by rw [hd];simp [DataW.weights,Try.underlying30])
  rw [bytes34v] at hsz
  unfold reachBytes at hsz
  obtain ⟨b,off,spot⟩ := x
  have hlen0 : ((List.range m).map (visAt W b off)).length = m := by simp
  refine ⟨(List.range m).map (visAt W b off),⟨_,c,by rw [hlen0],by rw [hlen0];omega,fun k hk => ?_⟩,hlen0,fun e => by cases e⟩
  rw [hlen0] at hk
  obtain ⟨cs',h1,h2⟩ := hcell k (by omega)
  rw [cells34v] at h1
  obtain ⟨_,hlen,hget⟩ := World.cells?_some h1
  obtain ⟨y0,y1,n2,_,_,t0,t1⟩ := trod_struct2 Try.underlying43 h2
  match cs',hlen with
  | [v0,v1],_ =>
   obtain ⟨c0,e00,_⟩ := DataW.trod_int Try.underlying41 t0
   obtain ⟨c1,e11,_⟩ := DataW.trod_int Try.underlying3 t1
   cases e00
   cases e11
   have g0 := hget 0 (by omega)
   have g1 := hget 1 (by omega)
   have hspot : spot = none := by
    obtain ⟨cs0,k1,_⟩ := hcell 0 (by omega)
    rw [cells34v] at k1
    obtain ⟨_,hl0,hg0⟩ := World.cells?_some k1
    have e0 := hg0 0 (by omega)
    match cs0,hl0 with
    | u0 :: _,_ => simpa [Addr.add] using World.cell?_spot (e0.trans rfl)
   subst hspot
   rw [addAt,addAt] at g0 g1
   refine ⟨b,off,rfl,?_⟩
   simp only [visAt_get W b off m k hk]
   simp only [Nat.add_zero] at g0
   have e0 : W.cell? ⟨b,off + k * 2,none⟩ = some (.int .i64 c0) := g0
   have e1 : W.cell? ⟨b,off + k * 2 + 1,none⟩ = some (.int .i64 c1) := g1
   unfold visAt
   simp only [e0,e1,valV]
   exact ⟨trivial,trivial⟩
end Go.Proofs.Ytndbikoccdjafaa
