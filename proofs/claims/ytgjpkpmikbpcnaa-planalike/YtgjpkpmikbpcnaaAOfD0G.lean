/-
  Several texts in one: OfD0 SamW Rof RofO RFt LatC MorP.
-/
import Derived.BigRegion
import Derived.Deep.RegionHeld3
import Derived.Deep.CutRange
import Derived.Laws.BitsAllLaws
import Derived.Deep.AppendLies
import Derived.Test.YtgjpkpmikbpcnaaALoaLG
import Derived.Test.YtgjpkpmikbpcnaaXPtsG
import Derived.Test.YtgjpkpmikbpcnaaXRTskG
import Derived.Test.YtgjpkpmikbpcnaaXRLd0
import Derived.Test.YtgjpkpmikbpcnaaXPlBG
import Derived.Test.YtgjpkpmikbpcnaaXStpAG
import Derived.Test.YtgjpkpmikbpcnaaWFitQ
import Derived.Test.YtgjpkpmikbpcnaaXFitE
import Derived.Test.YtgjpkpmikbpcnaaWFitD
import Derived.Test.YtgjpkpmikbpcnaaXCpVG
import Derived.Test.YtgjpkpmikbpcnaaXTStp
import Derived.Test.YtgjpkpmikbpcnaaXCpX
import Derived.Test.YtgjpkpmikbpcnaaXCelG
import Derived.Test.YtgjpkpmikbpcnaaXLReadsG
namespace Go.Proofs.Ytgjpkpmikbpcnaa
open Go.RowKit
theorem loadsT_at {p : Prb} {dd : Nat} (h : lawM p = true) (hd : p.dims = dd) (V : List Vst) (k : Nat) (hk : k ≤ V.length) : (loadsT p dd V).getD k [] = rldM p dd V k := by
 unfold loadsT
 rw [List.getD_eq_getElem?_getD,List.getElem?_append_left (by rw [loadsM_len];omega),loads_rld h hd V k hk]
 rfl
theorem loadsM_last (p : Prb) (dd : Nat) (V : List Vst) : (loadsM p dd V)[V.length]? = some (lastL p (startM p dd V) V) := by
 unfold loadsM
 cases hV : V with
 | nil => rfl
 | cons u W =>
  rw [← hV,show V.length = W.length + 1 by rw [hV];rfl,List.getElem?_cons_succ,goM_get _ _ W.length (by rw [hV];simp),List.take_of_length_le (by rw [hV];simp)]
theorem loadsT_end {p : Prb} {dd : Nat} (h : lawM p = true) (hd : p.dims = dd) (V : List Vst) : (loadsT p dd V).getD (V.length + 1) [] = rldM p dd V V.length := by
 have e1 := loadsM_last p dd V
 rw [loads_rld h hd V _ (Nat.le_refl _)] at e1
 injection e1 with e1
 unfold loadsT
 rw [List.getD_eq_getElem?_getD,List.getElem?_append_right (by rw [loadsM_len];exact Nat.le_refl _),loadsM_len,Nat.sub_self,e1]
 rfl
section
variable {p : Prb} {v : Veh} {V : List Vst}
end
end Go.Proofs.Ytgjpkpmikbpcnaa
namespace Go.Proofs.Ytgjpkpmikbpcnaa
open Go.RowKit
def PlanW (w : World) (base : Nat) (v : Value) (pl : PlanT) : Prop := ∃ a n c ys,v = .agg (planC pl.veh (.slice a n c) pl.time pl.dist pl.wait pl.serv pl.cost) ∧ StpR w base base (.slice a n c) pl.steps ys ∧ pl.steps.length = n
theorem PlanV.w {w : World} {base : Nat} {v : Value} {pl : PlanT} (h : PlanV w base v pl) : PlanW w base v pl := by
 obtain ⟨a,n,c,ys,e,hR,_,hn⟩ := h
 exact ⟨a,n,c,ys,e,hR,hn⟩
set_option maxRecDepth 100000 in
set_option maxHeartbeats 6400000 in
theorem same39_w {w : World} {b1 b2 : Nat} {v u : Value} {pl : PlanT} (h : PlanW w b1 v pl) (h' : PlanW w b2 u pl) (hn : pl.steps.length ≤ 1000) (hld : ∀ s ∈ pl.steps,s.load.length ≤ 3) : Calls Try.prog 39 #[v,u] w fun e w' => e = .returned (.bool true) ∧ Below w.heap.size w w' := by
 obtain ⟨a1,n,c1,ys1,rfl,R1,e1⟩ := h
 obtain ⟨a2,n',c2,ys2,rfl,R2,e2⟩ := h'
 rw [e1] at e2
 subst e2
 have HR1 := hide R1
 have HR2 := hide R2
 have HN := hide e1
 have HLD := hide hld
 rw [e1] at hn
 clear R1 R2 e1 hld
 unfold planC
 obtain ⟨W,hW⟩ : ∃ W,W = (w.alloc (.cells #[.int .i64 pl.veh,.slice a1 n c1,.int .i64 pl.time,.int .i64 pl.dist,.int .i64 pl.wait,.int .i64 pl.serv,.int .i64 pl.cost] 71)).alloc (.cells #[.int .i64 pl.veh,.slice a2 n c2,.int .i64 pl.time,.int .i64 pl.dist,.int .i64 pl.wait,.int .i64 pl.serv,.int .i64 pl.cost] 71) := ⟨_,rfl⟩
 have HBW : Hid (Below w.heap.size w W) := by rw [hW];exact ((Below.refl _ _).alloc (Nat.le_refl _) _).alloc (by simp) _
 have HWS : Hid (W.heap.size = w.heap.size + 2) := by show _ = _;rw [hW];simp
 have HC1 : Hid (∀ j,W.cell? ⟨w.heap.size,j,none⟩ = (#[.int .i64 pl.veh,.slice a1 n c1,.int .i64 pl.time,.int .i64 pl.dist,.int .i64 pl.wait,.int .i64 pl.serv,.int .i64 pl.cost] : Array Value)[j]?) := fun j => by
  have e9 : W.heap[w.heap.size]? = some (.cells #[.int .i64 pl.veh,.slice a1 n c1,.int .i64 pl.time,.int .i64 pl.dist,.int .i64 pl.wait,.int .i64 pl.serv,.int .i64 pl.cost] 71) := by rw [hW,heap_alloc_old _ _ (by simp),heap_alloc_new]
  exact cell_of_row _ _ _ _ _ _ e9
 have HC2 : Hid (∀ j,W.cell? ⟨w.heap.size + 1,j,none⟩ = (#[.int .i64 pl.veh,.slice a2 n c2,.int .i64 pl.time,.int .i64 pl.dist,.int .i64 pl.wait,.int .i64 pl.serv,.int .i64 pl.cost] : Array Value)[j]?) := fun j => by
  have e9 := heap_alloc_new (w.alloc (.cells #[.int .i64 pl.veh,.slice a1 n c1,.int .i64 pl.time,.int .i64 pl.dist,.int .i64 pl.wait,.int .i64 pl.serv,.int .i64 pl.cost] 71)) (.cells #[.int .i64 pl.veh,.slice a2 n c2,.int .i64 pl.time,.int .i64 pl.dist,.int .i64 pl.wait,.int .i64 pl.serv,.int .i64 pl.cost] 71)
  rw [← hW] at e9
  simp only [World.size_alloc] at e9
  exact cell_of_row _ _ _ _ _ _ e9
 have z0 : ∀ x : Int,(x != x) = false := fun x => by simp
 have z1 := z0 pl.veh
 have z2 := z0 pl.time
 have z3 := z0 pl.dist
 have z4 := z0 pl.wait
 have z5 := z0 pl.serv
 have z6 := z0 pl.cost
 have z7 := z0 (n : Int)
 go_enter Try.func39,Try.ntmps39
 go_wp2_with fail
 rw [← hW]
 clear hW z1 z2 z3 z4 z5 z6 z7
 go_loopw [5] (fun vi wr => ∃ q : Nat,vi = .int .i64 q ∧ q ≤ n ∧ Hid (Below W.heap.size W wr)) (fun vi _ => n - (intOf vi).toNat)
 case atStart => exact ⟨0,rfl,Nat.zero_le _,Below.refl _ _⟩
 case round =>
  obtain ⟨q,rfl,hq,HB⟩ := hrel
  have HBr := hide (below_on HBW.out HB.out)
  have rs : w.heap.size + 2 ≤ wr.heap.size := by have := HB.out.size;have := HWS.out;omega
  have r1 : wr.cell? ⟨w.heap.size,1,none⟩ = some (.slice a1 n c1) := ((bcell HB.out).1 _ 1 (by rw [HWS.out];omega)).trans (HC1.out 1)
  have r2 : wr.cell? ⟨w.heap.size + 1,1,none⟩ = some (.slice a2 n c2) := ((bcell HB.out).1 _ 1 (by rw [HWS.out];omega)).trans (HC2.out 1)
  by_cases hqn : q < n
  ·have i1 : (q : Int) < (n : Int) := by omega
   have i2 : (0 : Int) ≤ (q : Int) := by omega
   have i3 : ¬ (n : Int) ≤ (q : Int) := by omega
   obtain ⟨s,hs⟩ : ∃ s,pl.steps[q]? = some s := ⟨_,List.getElem?_eq_getElem (by rw [HN.out];exact hqn)⟩
   obtain ⟨g1,y1,d1,rfl,hg1,hc1,hi1⟩ := stp_get HR1.out hs
   obtain ⟨g2,y2,d2,rfl,hg2,hc2,hi2⟩ := stp_get HR2.out hs
   have hl3 := HLD.out s (List.mem_of_getElem? hs)
   obtain ⟨ln,hln⟩ : ∃ ln,s.load.length = ln := ⟨_,rfl⟩
   have HLN := hide hln
   have HI1 := hide hi1
   have HI2 := hide hi2
   rw [hln] at hc1 hc2 hl3
   have p10 : wr.cell? ⟨g1,q * 9,none⟩ = some (.int .i64 s.kind) := ((bcell HBr.out).1 _ _ hg1).trans (hc1 0 (by decide))
   have p20 : wr.cell? ⟨g2,q * 9,none⟩ = some (.int .i64 s.kind) := ((bcell HBr.out).1 _ _ hg2).trans (hc2 0 (by decide))
   have p11 : wr.cell? ⟨g1,q * 9 + 1,none⟩ = some (.int .i64 s.item) := ((bcell HBr.out).1 _ _ hg1).trans (hc1 1 (by decide))
   have p21 : wr.cell? ⟨g2,q * 9 + 1,none⟩ = some (.int .i64 s.item) := ((bcell HBr.out).1 _ _ hg2).trans (hc2 1 (by decide))
   have p12 : wr.cell? ⟨g1,q * 9 + 2,none⟩ = some (.int .i64 s.place) := ((bcell HBr.out).1 _ _ hg1).trans (hc1 2 (by decide))
   have p22 : wr.cell? ⟨g2,q * 9 + 2,none⟩ = some (.int .i64 s.place) := ((bcell HBr.out).1 _ _ hg2).trans (hc2 2 (by decide))
   have p13 : wr.cell? ⟨g1,q * 9 + 3,none⟩ = some (.int .i64 s.arr) := ((bcell HBr.out).1 _ _ hg1).trans (hc1 3 (by decide))
   have p23 : wr.cell? ⟨g2,q * 9 + 3,none⟩ = some (.int .i64 s.arr) := ((bcell HBr.out).1 _ _ hg2).trans (hc2 3 (by decide))
   have p14 : wr.cell? ⟨g1,q * 9 + 4,none⟩ = some (.int .i64 s.wait) := ((bcell HBr.out).1 _ _ hg1).trans (hc1 4 (by decide))
   have p24 : wr.cell? ⟨g2,q * 9 + 4,none⟩ = some (.int .i64 s.wait) := ((bcell HBr.out).1 _ _ hg2).trans (hc2 4 (by decide))
   have p15 : wr.cell? ⟨g1,q * 9 + 5,none⟩ = some (.int .i64 s.serv) := ((bcell HBr.out).1 _ _ hg1).trans (hc1 5 (by decide))
   have p25 : wr.cell? ⟨g2,q * 9 + 5,none⟩ = some (.int .i64 s.serv) := ((bcell HBr.out).1 _ _ hg2).trans (hc2 5 (by decide))
   have p16 : wr.cell? ⟨g1,q * 9 + 6,none⟩ = some (.slice y1 ln d1) := ((bcell HBr.out).1 _ _ hg1).trans (hc1 6 (by decide))
   have p26 : wr.cell? ⟨g2,q * 9 + 6,none⟩ = some (.slice y2 ln d2) := ((bcell HBr.out).1 _ _ hg2).trans (hc2 6 (by decide))
   have p17 : wr.cell? ⟨g1,q * 9 + 7,none⟩ = some (.int .i64 s.time) := ((bcell HBr.out).1 _ _ hg1).trans (hc1 7 (by decide))
   have p27 : wr.cell? ⟨g2,q * 9 + 7,none⟩ = some (.int .i64 s.time) := ((bcell HBr.out).1 _ _ hg2).trans (hc2 7 (by decide))
   have p18 : wr.cell? ⟨g1,q * 9 + 8,none⟩ = some (.int .i64 s.dist) := ((bcell HBr.out).1 _ _ hg1).trans (hc1 8 (by decide))
   have p28 : wr.cell? ⟨g2,q * 9 + 8,none⟩ = some (.int .i64 s.dist) := ((bcell HBr.out).1 _ _ hg2).trans (hc2 8 (by decide))
   have H44 : Hid (∀ W2,Below w.heap.size w W2 → Calls Try.prog 44 #[.slice y1 ln d1,.slice y2 ln d2] W2 fun e w' => e = .returned (.bool true) ∧ Below W2.heap.size W2 w') := fun W2 hf => by
    have h9 := Ld.sameInts_any (ca := d1) (cb := d2) (IntsAt.later HI1.out hf) (IntsAt.later HI2.out hf) HLN.out HLN.out (by omega) (by omega)
    rw [same_self] at h9
    exact h9
   have ng1 : ¬ g1 = wr.heap.size := by omega
   have ng2 : ¬ g2 = wr.heap.size := by omega
   have nw1 : ¬ w.heap.size = wr.heap.size := by omega
   have nw2 : ¬ w.heap.size + 1 = wr.heap.size := by omega
   have nh1 : ¬ g1 = wr.heap.size + 1 := by omega
   have nh2 : ¬ g2 = wr.heap.size + 1 := by omega
   clear hc1 hc2 hi1 hi2 hln hs
   have z1 := z0 s.kind
   have z2 := z0 s.item
   have z3 := z0 s.place
   have z4 := z0 s.arr
   have z5 := z0 s.wait
   have z6 := z0 s.serv
   have z7 := z0 s.time
   have z8 := z0 s.dist
   have x1 : (s.kind == s.kind) = true := by simp
   have x2 : (s.item == s.item) = true := by simp
   have lw1 : w.heap.size < wr.heap.size := by omega
   have lw2 : w.heap.size + 1 < wr.heap.size := by omega
   have lw3 : w.heap.size < wr.heap.size + 1 := by omega
   have lg1 : g1 < wr.heap.size := by omega
   have lg2 : g2 < wr.heap.size := by omega
   have lh1 : g1 < wr.heap.size + 1 := by omega
   have lh2 : g2 < wr.heap.size + 1 := by omega
   go_wp2_with fail
   go_region_held3 (fun w' => w'.cell? ⟨w.heap.size,1,none⟩ = some (.slice (some ⟨g1,0,none⟩) n c1) ∧ w'.cell? ⟨w.heap.size + 1,1,none⟩ = some (.slice (some ⟨g2,0,none⟩) n c2) ∧ w'.cell? ⟨g1,q * 9,none⟩ = some (.int .i64 s.kind) ∧ w'.cell? ⟨g2,q * 9,none⟩ = some (.int .i64 s.kind) ∧ w'.cell? ⟨g1,q * 9 + 1,none⟩ = some (.int .i64 s.item) ∧ w'.cell? ⟨g2,q * 9 + 1,none⟩ = some (.int .i64 s.item) ∧ w'.cell? ⟨g1,q * 9 + 2,none⟩ = some (.int .i64 s.place) ∧ w'.cell? ⟨g2,q * 9 + 2,none⟩ = some (.int .i64 s.place) ∧ w'.cell? ⟨g1,q * 9 + 3,none⟩ = some (.int .i64 s.arr) ∧ w'.cell? ⟨g2,q * 9 + 3,none⟩ = some (.int .i64 s.arr) ∧ w'.cell? ⟨g1,q * 9 + 4,none⟩ = some (.int .i64 s.wait) ∧ w'.cell? ⟨g2,q * 9 + 4,none⟩ = some (.int .i64 s.wait) ∧ w'.cell? ⟨g1,q * 9 + 5,none⟩ = some (.int .i64 s.serv) ∧ w'.cell? ⟨g2,q * 9 + 5,none⟩ = some (.int .i64 s.serv) ∧ w'.cell? ⟨g1,q * 9 + 6,none⟩ = some (.slice y1 ln d1) ∧ w'.cell? ⟨g2,q * 9 + 6,none⟩ = some (.slice y2 ln d2) ∧ w'.cell? ⟨g1,q * 9 + 7,none⟩ = some (.int .i64 s.time) ∧ w'.cell? ⟨g2,q * 9 + 7,none⟩ = some (.int .i64 s.time) ∧ w'.cell? ⟨g1,q * 9 + 8,none⟩ = some (.int .i64 s.dist) ∧ w'.cell? ⟨g2,q * 9 + 8,none⟩ = some (.int .i64 s.dist)) (go_keep) (fail)
   all_goals
    rename_i hHeld
    clear hHeld p10 p11 p12 p13 p14 p15 p16 p17 p18 p20 p21 p22 p23 p24 p25 p26 p27 p28 r1 r2
    go_wp2_with (first | (go_at_call 44;refine (H44.out _ (below_on HBr.out ((((Below.refl _ _).alloc (Nat.le_refl _) _).alloc (by simp) _).drew))).mono ?_;rintro e w7 ⟨rfl,k7⟩;have E7 := hide (below_on ((((Below.refl wr.heap.size wr).alloc (Nat.le_refl _) _).alloc (by simp) _).drew) k7);clear k7) | fail)
    go_roundw
    case rel => exact ⟨q + 1,by go_num,by omega,below_on HB.out E7.out⟩
    case measure => simp [intOf];omega
  ·have i1 : ¬ (q : Int) < (n : Int) := by omega
   go_wp2_with fail
   go_ret
   exact ⟨rfl,HBr.out⟩
end Go.Proofs.Ytgjpkpmikbpcnaa
namespace Go.Proofs.Ytgjpkpmikbpcnaa
open Go.RowKit
theorem rld_len (p : Prb) (dd : Nat) (V : List Vst) (k : Nat) : (rldM p dd V k).length = dd := by simp [rldM]
end Go.Proofs.Ytgjpkpmikbpcnaa
namespace Go.Proofs.Ytgjpkpmikbpcnaa
open Go.RowKit
theorem plan_small {p : Prb} {vi : Int} {V : List Vst} (hl : lawM p = true) (hm : V.length ≤ 900) : (ofP p vi V).steps.length ≤ 1000 ∧ ∀ s ∈ (ofP p vi V).steps,s.load.length ≤ 3 := by
 by_cases he : ofE p vi V = 0
 ·rw [ofP_good he]
  obtain ⟨dd,hdd⟩ : ∃ dd : Nat,p.dims = dd := ⟨p.dims.toNat,by have := (ways_ok hl).dim;omega⟩
  have hd3 : dd ≤ 3 := by have := (ways_ok hl).dim;omega
  have hdt : p.dims.toNat = dd := by rw [hdd];simp
  refine ⟨?_,fun s hs => ?_⟩
  ·show ((List.range (stopsM p _ V).length).map _).length ≤ _
   rw [List.length_map,List.length_range,stopsM_len]
   omega
  ·have hs : s ∈ (List.range (stopsM p (p.vs.getD vi.toNat vz) V).length).map (stepM p p.dims.toNat (p.vs.getD vi.toNat vz).shift.1 V (stopsM p (p.vs.getD vi.toNat vz) V)) := hs
   obtain ⟨i,hi,rfl⟩ := List.mem_map.1 hs
   rw [List.mem_range,stopsM_len] at hi
   show ((loadsT p p.dims.toNat V).getD i []).length ≤ 3
   rw [hdt]
   by_cases h9 : i ≤ V.length
   ·rw [loadsT_at hl hdd V i h9,rld_len];exact hd3
   ·have : i = V.length + 1 := by omega
    rw [this,loadsT_end hl hdd V,rld_len];exact hd3
 ·rw [ofP_bad he]
  exact ⟨by decide,fun s hs => by simp [planZ] at hs⟩
end Go.Proofs.Ytgjpkpmikbpcnaa
namespace Go.Proofs.Ytgjpkpmikbpcnaa
open Go.RowKit
theorem fit_out {p : Prb} {vi : Int} {V : List Vst} (h : manB p vi = false) : fitE p vi V = 160 ∧ fitP p vi V = planZ := by unfold fitE fitP;rw [h];exact ⟨rfl,rfl⟩
theorem fit_brk {p : Prb} {vi : Int} {V : List Vst} (h : manB p vi = true) (hb : hasB V = true) : fitE p vi V = 162 ∧ fitP p vi V = planZ := by unfold fitE fitP;rw [h,hb];exact ⟨rfl,rfl⟩
theorem fit_small {p : Prb} {vi : Int} {V : List Vst} (hl : lawM p = true) (hm : V.length ≤ 800) : (fitP p vi V).steps.length ≤ 1000 ∧ ∀ s ∈ (fitP p vi V).steps,s.load.length ≤ 3 := by
 have hz : planZ.steps.length ≤ 1000 ∧ ∀ s ∈ planZ.steps,s.load.length ≤ 3 := ⟨by decide,fun s hs => by simp [planZ] at hs⟩
 cases ho : manB p vi with
 | false => rw [(fit_out ho).2];exact hz
 | true =>
 cases hb : hasB V with
 | true => rw [(fit_brk ho hb).2];exact hz
 | false =>
 have hlen : ∀ A : List Int,A.length ≤ 2 → (setM V A).length ≤ 900 := fun A hA => by rw [setM_len];omega
 obtain ⟨k,hk,hkl⟩ := man_nat (show (decide (0 ≤ vi) && decide (vi < (p.vs.length : Int))) = true from ho)
 have hvo : VehOk p.dims p.time.n (p.vs.getD vi.toNat vz) := veh_ok (law_veh hl (by rw [hk];simpa using hkl))
 have h2 := hvo.two
 unfold fitP
 rw [ho,hb]
 cases hd : decide (ofE p vi (headV p vi V) = 167) with
 | false => exact plan_small hl (hlen _ (by rw [List.length_replicate];exact h2))
 | true =>
  show (match seekP p (p.vs.getD vi.toNat vz) V with | none => planZ | some ps => ofP p vi (setM V (ps.map fun n : Nat => (n : Int)))).steps.length ≤ 1000 ∧ ∀ s ∈ (match seekP p (p.vs.getD vi.toNat vz) V with | none => planZ | some ps => ofP p vi (setM V (ps.map fun n : Nat => (n : Int)))).steps,s.load.length ≤ 3
  have hF : First p (p.vs.getD vi.toNat vz) V (seekP p (p.vs.getD vi.toNat vz) V) := first_is (ps0 := List.replicate (p.vs.getD vi.toNat vz).brks.length 0) hl hvo (hasB_no hb) (by simp) (by
   have h9 := of_decide_eq_true hd
   rw [ofE_man ho,head_ins rfl] at h9
   exact h9)
  cases hs : seekP p (p.vs.getD vi.toNat vz) V with
  | none => exact hz
  | some ps =>
   rw [hs] at hF
   exact plan_small hl (hlen _ (by rw [List.length_map,(hF.yes ps rfl).1];exact h2))
end Go.Proofs.Ytgjpkpmikbpcnaa
namespace Go.Proofs.Ytgjpkpmikbpcnaa
open Go.RowKit
theorem cpf_v {w : World} {base gv gj gs : Nat} {p : Prb} {x : PrbS} (hF : CpF w base gv gj gs p x) (hn : 0 < p.vs.length) : (∃ c,x.v = .slice (some ⟨gv,0,none⟩) p.vs.length c) ∧ base ≤ gv ∧ gv < w.heap.size ∧ ∀ j,w.frozen? ⟨gv,j,none⟩ = false := by
 obtain ⟨R,h1,h2,h3,h4,h5⟩ := hF.v
 have hlt := h1.lt gv hF.ev
 rcases h1.2 with ⟨_,e⟩ | ⟨g,cap,cur,e,a,hb,_⟩
 ·omega
 ·have hg : g = gv := by
   have := hF.ev
   rw [e] at this
   exact own_blk this
  subst hg
  exact ⟨⟨cap,e⟩,hlt.1,hlt.2,fun j => frozen_of_row w g j _ _ hb⟩
theorem copy_any {w : World} {x : PrbS} {p : Prb} (h : PrbV w x p) (hn : 0 < p.vs.length) : Calls Try.prog 17 #[.agg (prbE p x)] w fun e w' => ∃ ta tc da dc gv cv ja jc sa sc gj gs,e = .returned (.agg (prbE p ⟨.slice ta p.time.cells.length tc,.slice da p.dist.cells.length dc,.slice (some ⟨gv,0,none⟩) p.vs.length cv,.slice ja p.js.length jc,.slice sa p.ss.length sc⟩)) ∧ (CpF w' (w.heap.size + 2) gv gj gs p ⟨.slice ta p.time.cells.length tc,.slice da p.dist.cells.length dc,.slice (some ⟨gv,0,none⟩) p.vs.length cv,.slice ja p.js.length jc,.slice sa p.ss.length sc⟩ ∧ w.heap.size + 2 ≤ gv ∧ gv < w'.heap.size ∧ ∀ j,w'.frozen? ⟨gv,j,none⟩ = false) ∧ Below w.heap.size w w' := by
 refine (copied_any h).mono ?_
 rintro e w' ⟨x',rfl,⟨gv,gj,gs,hF⟩,k9⟩
 obtain ⟨⟨cv,hv⟩,h1,h2,h3⟩ := cpf_v hF hn
 obtain ⟨ta,tc,da,dc,va,vc,ja,jc,sa,sc,rfl⟩ := hF.prb.open
 simp only at hv
 injection hv with e1 _ e3
 subst e1 e3
 exact ⟨ta,tc,da,dc,gv,_,ja,jc,sa,sc,gj,gs,rfl,⟨hF,h1,h2,h3⟩,k9⟩
end Go.Proofs.Ytgjpkpmikbpcnaa
namespace Go.Proofs.Ytgjpkpmikbpcnaa
open Go.RowKit
section
variable {p : Prb} {dd : Nat} {pr : Int}
end
theorem news_of {WX : World} {B T : Nat} {l : List Value} (h : WX.heap[B]? = some (.cells l.toArray T (0,0))) : ∀ (j : Nat) u,l[j]? = some u → WX.cell? ((⟨B,0,none⟩ : Addr).add j) = some u := by
 intro j u hu
 rw [add0,cell_of_row _ _ _ _ _ _ h]
 simpa using hu
end Go.Proofs.Ytgjpkpmikbpcnaa
