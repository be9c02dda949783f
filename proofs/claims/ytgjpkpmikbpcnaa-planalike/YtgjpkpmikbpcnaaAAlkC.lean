/-
  A problem's copy with one vehicle more, in memory.
-/
import Derived.Test.YtgjpkpmikbpcnaaAAlkP
import Derived.Test.YtgjpkpmikbpcnaaAOfD0G
import Derived.Test.YtgjpkpmikbpcnaaXChSG
import Derived.Test.YtgjpkpmikbpcnaaXTrAG
import Derived.Test.YtgjpkpmikbpcnaaXPlBG
import Derived.Test.YtgjpkpmikbpcnaaXFitE
namespace Go.Proofs.Ytgjpkpmikbpcnaa
open Go.RowKit
theorem alike_close {w3 w' : World} {base gv gj gs g cap k : Nat} {xc xb : Value} {v : Veh} {p : Prb} {x : PrbS} {R : List (List Value)} (hF : CpF w3 base gv gj gs p x) (hv : p.vs.getD k vz = v)
  (hK : ∀ b,b < w3.heap.size → b ≠ gv → w'.heap[b]? = w3.heap[b]?)
  (h2 : R.length = p.vs.length) (h5 : ∀ (k : Nat) a,p.vs[k]? = some a → ∃ l,R[k]? = some l ∧ l.length = 11 ∧ (∀ u ∈ l,u.oneCell' = true) ∧ OVeh w3 w3 base (G3 gv gj gs) (G3 gv gj gs) a.brks.length l a)
  (hown : w'.ownsRow base 86 11 (.slice (some ⟨g,0,none⟩) (p.vs.length + 1) cap) (p.vs.length + 1) (R.flatten ++ vehE v xc xb))
  (hnew : VehV w' (vehE v xc xb) v) (h1 : ∀ u ∈ vehE v xc xb,u.oneCell' = true) (hl : p.vs.length ≤ 12) : PrbV w' ⟨x.t,x.d,.slice (some ⟨g,0,none⟩) (p.vs.length + 1) cap,x.j,x.s⟩ (alikeP p k) := by
 subst hv
 have kp : Kp w3 w' base (G3 gv gj gs) (G3 gv gj gs) := fun b hb _ hl => ⟨hK b hl (fun e => hb (.inl e)),hb⟩
 have kj : Kp w3 w' base (fun b => G3 gv gj gs b ∧ b ≠ gj) (fun b => G3 gv gj gs b ∧ b ≠ gj) := fun b hb _ hl => ⟨hK b hl (fun e => hb ⟨.inl e,fun e2 => hF.vj (e.symm.trans e2)⟩),hb⟩
 have ks : Kp w3 w' base (fun b => G3 gv gj gs b ∧ b ≠ gs) (fun b => G3 gv gj gs b ∧ b ≠ gs) := fun b hb _ hl => ⟨hK b hl (fun e => hb ⟨.inl e,fun e2 => hF.vs (e.symm.trans e2)⟩),hb⟩
 refine ⟨(hF.t.kp kp).read,(hF.d.kp kp).read,?_,(hF.j.kp kj fun k l a h => h.kp kp).read fun k l a ha hp => ?_,(hF.s.kp ks fun k l a h => h.kp kp).read fun k l a ha hp => ?_⟩
 ·have hR' : (R ++ [vehE (p.vs.getD k vz) xc xb]).flatten = R.flatten ++ vehE (p.vs.getD k vz) xc xb := by simp
  refine ORow.read (w := w') (base := base) (T := 86) (G := fun _ => False) (PV := fun _ l j => VehV w' l j) (zero := vz) (V := VehV) ⟨R ++ [vehE (p.vs.getD k vz) xc xb],?_,?_,?_,fun _ _ h => h,fun i a ha => ?_⟩ fun k l a ha hp => hp
  ·rw [hR',alk_len]
   exact hown
  ·rw [alk_len];simp [h2]
  ·rw [alk_len]
   omega
  ·by_cases hi : i < p.vs.length
   ·have ha2 : p.vs[i]? = some a := by
     have ha' : (p.vs ++ [p.vs.getD k vz])[i]? = some a := ha
     rw [List.getElem?_append_left hi] at ha'
     exact ha'
    obtain ⟨l,e1,e2,e3,hO⟩ := h5 i a ha2
    exact ⟨l,by rw [List.getElem?_append_left (by omega)];exact e1,e2,e3,VehV.of_o (hO.kp kp)⟩
   ·have ha' : (p.vs ++ [p.vs.getD k vz])[i]? = some a := ha
    rw [List.getElem?_append_right (by omega)] at ha'
    have hi0 : i - p.vs.length = 0 := by
     have := (List.getElem?_eq_some_iff.1 ha').1
     simp at this
     omega
    rw [hi0] at ha'
    simp only [List.getElem?_cons_zero,Option.some.injEq] at ha'
    subst ha'
    exact ⟨vehE (p.vs.getD k vz) xc xb,by rw [List.getElem?_append_right (by omega),show i - R.length = 0 by omega];rfl,rfl,h1,hnew⟩
 ·obtain ⟨a,b,c,e,h1,h2,h3,h4⟩ := hp
  exact ⟨a,b,c,e,h1.read,h2.read,h3.read,h4⟩
 ·obtain ⟨a,b,c,e,h1,h2,h3,h4⟩ := hp
  exact ⟨a,b,c,e,h1.read,h2.read,h3.read,h4⟩
theorem planv_veh {w : World} {base n c : Nat} {a : Option Addr} {i : Int} {pq : PlanT} (h : PlanV w base (.agg (planC pq.veh (.slice a n c) pq.time pq.dist pq.wait pq.serv pq.cost)) pq) : PlanV w base (.agg (planC i (.slice a n c) pq.time pq.dist pq.wait pq.serv pq.cost)) { pq with veh := i } := by
 obtain ⟨a',n',c',ys,e,hR,hs,hn⟩ := h
 unfold planC at e
 injection e with e
 simp only [Array.mk.injEq,List.cons.injEq,Value.slice.injEq,true_and,and_true] at e
 obtain ⟨rfl,rfl,rfl⟩ := e
 exact ⟨a,n,c,ys,rfl,hR,hs,hn⟩
theorem copy_veh {w : World} {x : PrbS} {p : Prb} {k lc lb nv : Nat} {v : Veh} (h : PrbV w x p) (hk : k < p.vs.length) (hv : p.vs.getD k vz = v) (hlc : v.cap.length = lc) (hlb : v.brks.length = lb) (hnv : p.vs.length = nv) : Calls Try.prog 17 #[.agg (prbE p x)] w fun e w' => ∃ ta tc da dc vb vo cv ja jc sa sc ca cc ba bc,e = .returned (.agg (prbE p ⟨.slice ta p.time.cells.length tc,.slice da p.dist.cells.length dc,.slice (some ⟨vb,vo,none⟩) nv cv,.slice ja p.js.length jc,.slice sa p.ss.length sc⟩)) ∧ ((∀ j,j < 11 → w'.cell? ⟨vb,vo + k * 11 + j,none⟩ = (vehE v (.slice ca lc cc) (.slice ba lb bc))[j]?) ∧ ∃ G,OVeh w' w' (w.heap.size + 2) G G v.brks.length (vehE v (.slice ca lc cc) (.slice ba lb bc)) v) ∧ Below w.heap.size w w' := by
 subst hv hnv
 refine (copied_any h).mono ?_
 rintro e w' ⟨x',rfl,⟨gv,gj,gs,hF⟩,k9⟩
 have hP := hF.prb
 obtain ⟨ta,tc,da,dc,va,vc,ja,jc,sa,sc,rfl⟩ := hP.open
 have hS : SlV 11 120 vz (fun _ l a => OVeh w' w' (w.heap.size + 2) (G3 gv gj gs) (G3 gv gj gs) a.brks.length l a) w' (.slice va p.vs.length vc) p.vs := hF.v.read fun k l a ha hp => hp
 obtain ⟨a0,c0,e0,f0,f1,f2⟩ := hS
 obtain ⟨b,off,l,e1,e2,e3,hO⟩ := f2 k hk
 injection e0 with e4 _ e5
 subst e4 e5 e1
 obtain ⟨xc,xb,e,h1,h2,h3⟩ := id hO
 subst e
 obtain ⟨ca,cc,rfl⟩ := h1.read.shape
 obtain ⟨ba,bc,hxb⟩ : ∃ ba bc,xb = .slice ba (p.vs.getD k vz).brks.length bc := by
  have h9 := VehV.of_o hO
  obtain ⟨xc',xb',e9,_,q2,_⟩ := h9
  have : xb = xb' := by unfold vehE at e9;simp only [List.cons.injEq,and_true,true_and] at e9;exact e9.2
  subst this
  exact SlV.shape q2
 subst hxb
 rw [hlc,hlb] at e3
 have hO2 := hO
 rw [hlc] at hO
 refine ⟨ta,tc,da,dc,b,off,_,ja,jc,sa,sc,ca,cc,ba,bc,rfl,⟨e3,G3 gv gj gs,?_⟩,k9⟩
 rw [← hlb,← hlc]
 exact hO2
end Go.Proofs.Ytgjpkpmikbpcnaa
