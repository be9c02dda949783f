/-
  Several texts in one: CHCall COfA SkQ CLine COfW CSetW CFitE.
-/
import Derived.Deep.RegionHeld3
import Derived.DeepKeys4
import Derived.Maps.OwnSet
import Derived.Maps.RangeWalk
import Derived.WideKeyEntry
import Derived.Deep.CutRange
import Derived.Test.YtndbikoccdjafaaBCMem
import Derived.Test.YtndbikoccdjafaaBCPlBG
import Derived.Test.YtndbikoccdjafaaBCArg
import Derived.Test.YtndbikoccdjafaaBCAskG
import Derived.Test.YtndbikoccdjafaaBCLReadsG
import Derived.Test.YtndbikoccdjafaaBCVrwG
import Derived.Test.YtndbikoccdjafaaBSkP
import Derived.Test.YtndbikoccdjafaaBCChkAG
import Derived.Test.YtndbikoccdjafaaBCCelG
namespace Go.Proofs.Ytndbikoccdjafaa
open Go.RowKit
theorem held_call {P : Program} {ops : Array Oper} {o : Oper} {a : Act} {w : World} {K : Act → World → Prop} {Q : Exit → Act → World → Prop} {E : Prop}
  (hw : Region.wanted o (yielded ops a.tmps) = true) (f : FuncId) (xs : Array Operand) (ts : Array TypeId) (hop : o.op = Op.call { callee := Callee.value (Operand.func f),args := xs,argTypes := ts })
  (hent : ∀ args w,(callFunc f args).run P w = .ok (.enter f args) w) (vs : List Value) (hx : xs.toList.map a.eval = vs)
  (H : Calls P f vs.toArray w fun e w' => ∃ v,e = .returned v ∧ K (a.put o.dst v) w') :
  if Region.wanted o (yielded ops a.tmps) = true then Oper.wp P o a w K Q else E := by
 rw [if_pos hw]
 have he : (execOp a.eval o).run P w = .ok (.enter f vs.toArray) w := by
  have hx' : xs.map a.eval = vs.toArray := by rw [← hx];apply Array.ext';simp
  rw [← hx']
  simp [execOp,hop,resolve,invoke,hent,go_sem]
 unfold Oper.wp
 rw [he,Oper.upon_enter]
 refine H.mono ?_
 rintro e w' ⟨v,rfl,hR⟩
 exact hR
end Go.Proofs.Ytndbikoccdjafaa
namespace Go.Proofs.Ytndbikoccdjafaa
open Go.RowKit
theorem up_man (p : Prb) (vi : Int) : upB vi ((p.vs.length : Int) - 1) = (decide (0 ≤ vi) && decide (vi < (p.vs.length : Int))) := by
 unfold upB
 by_cases h1 : 0 ≤ vi
 ·by_cases h2 : vi < (p.vs.length : Int)
  ·simp [h1,h2];omega
  ·simp [h1,h2];omega
 ·simp [h1]
theorem ofP_bad {p : Prb} {vi : Int} {V : List Vst} (h : ofE p vi V ≠ 0) : ofP p vi V = planZ := by unfold ofP;rw [decide_eq_false h];rfl
theorem ofP_good {p : Prb} {vi : Int} {V : List Vst} (h : ofE p vi V = 0) : ofP p vi V = planM p vi (p.vs.getD vi.toNat vz) V := by unfold ofP;rw [decide_eq_true h];rfl
theorem brkF_in : ∀ (V : List Vst) (n q : Nat),brkF n V = some q → n ≤ q ∧ ∀ u ∈ V,u.1 = 4 → ∃ j : Nat,u.2 = j ∧ j < q
 | [],n,q,h => by simp [brkF] at h;exact ⟨by omega,fun u hu => by simp at hu⟩
 | v :: V,n,q,h => by
  unfold brkF at h
  split at h
  ·split at h
   ·obtain ⟨h1,h2⟩ := brkF_in V (n + 1) q h
    refine ⟨by omega,fun u hu h4 => ?_⟩
    rcases List.mem_cons.1 hu with rfl | hu
    ·exact ⟨n,by assumption,by omega⟩
    ·exact h2 u hu h4
   ·cases h
  ·obtain ⟨h1,h2⟩ := brkF_in V n q h
   refine ⟨h1,fun u hu h4 => ?_⟩
   rcases List.mem_cons.1 hu with rfl | hu
   ·exact absurd h4 (by assumption)
   ·exact h2 u hu h4
theorem man_nat {p : Prb} {vi : Int} (h : (decide (0 ≤ vi) && decide (vi < (p.vs.length : Int))) = true) : ∃ k : Nat,vi = k ∧ k < p.vs.length := by
 simp at h
 exact ⟨vi.toNat,by omega,by omega⟩
end Go.Proofs.Ytndbikoccdjafaa
namespace Go.Proofs.Ytndbikoccdjafaa
open Go.RowKit
def winS (p : Prb) (v : Veh) (k j : Int) : List Win := if k = 4 then (v.brks.getD j.toNat bz).wins else (stpM p k j).wins
def optW (S : List Stp) (i : Nat) : Option (List Win) := if i = 0 then none else some (S.getD i sz).wins
def stgM (p : Prb) (v : Veh) (U : List Vst) : List Stg := (List.range (U.length + 1)).map fun i => (optW (stopsM p v U) i,((stopsM p v U).getD i sz).serv + travelM p.time (stopsM p v U) (i + 1))
def latL (p : Prb) (v : Veh) (U : List Vst) : List Int := (latG v.shift.2 (stgM p v U)).getD []
def endL (p : Prb) (v : Veh) (U : List Vst) (i : Nat) (t : Int) : Option Int := endG v.shift.2 ((stgM p v U).drop i) t
section
variable {p : Prb} {v : Veh} {U : List Vst}
theorem lst_le {s : Stg} {S : List Stg} (h : okG (s :: S)) {t : Int} (ht : (lstG s.1 t).2 = true) : (lstG s.1 t).1 ≤ t := by
 have := (galG h (lstG s.1 t).1 t).2 ⟨ht,Int.le_refl _⟩
 have hs := h s List.mem_cons_self
 obtain ⟨o,d⟩ := s
 cases o with
 | none => exact Int.le_refl _
 | some L => exact (Hr.last_le (hs L rfl) t ht).1
theorem lat_ub {cl : Int} : ∀ {S : List Stg} {l : List Int},okG S → (∀ s ∈ S,0 ≤ s.2) → latG cl S = some l → ∀ i,i < l.length → l.getD i 0 ≤ cl
 | [],l,_,_,h,i,hi => by
  unfold latG at h
  injection h with h
  subst h
  have : i = 0 := by simpa using hi
  subst this
  exact Int.le_refl _
 | s :: r,l,ok,h0,h,i,hi => by
  obtain ⟨m,h1,h2,rfl⟩ := lat_cons h
  have ih := lat_ub ok.tail (fun s hs => h0 s (List.mem_cons_of_mem _ hs)) h1
  cases i with
  | zero =>
   have := lst_le ok h2
   have h3 := ih 0 (by rw [lat_len h1];omega)
   have h4 := h0 s List.mem_cons_self
   have e : m.getD 0 0 = m.headD 0 := by cases m <;> rfl
   show (lstG s.1 (m.headD 0 - s.2)).1 ≤ cl
   omega
  | succ i => exact ih i (by simpa using hi)
structure Rout (p : Prb) (k : Nat) (L : List StepT) (G : List Stg) : Prop where
 len : L.length = G.length + 1
 low : 1 ≤ G.length
 high : G.length ≤ 40
 ok : okG G
 step : ∀ i,i < G.length → ∃ s t,L[i]? = some s ∧ L[i + 1]? = some t ∧ G[i]? = some (if i = 0 then none else some (winS p (p.vs.getD k vz) s.kind s.item),s.serv + cellM p.time s.place t.place) ∧ (0 ≤ s.serv ∧ s.serv ≤ 1000000) ∧ (0 ≤ cellM p.time s.place t.place ∧ cellM p.time s.place t.place ≤ 32000000) ∧ (i = 0 → s.kind = 5 ∧ s.item = 0 ∧ s.serv = 0) ∧ (i ≠ 0 → (s.kind = 4 ∧ ∃ q : Nat,s.item = q ∧ q < (p.vs.getD k vz).brks.length ∧ s.serv = ((p.vs.getD k vz).brks.getD q bz).serv) ∨ (s.kind ≠ 4 ∧ thereV p s.kind s.item = true ∧ s.serv = (stpM p s.kind s.item).serv))
theorem lat_bd {k : Nat} {L : List StepT} {G : List Stg} {l : List Int} {cl : Int} (R : Rout p k L G) (ht : 0 ≤ cl ∧ cl ≤ 1000000) (h : latG cl G = some l) : l.length = G.length + 1 ∧ l.getD G.length 0 = cl ∧ ∀ i,i < G.length + 1 → -100000000 ≤ l.getD i 0 ∧ l.getD i 0 ≤ 1000000 := by
 have hlen := lat_len h
 refine ⟨hlen,lat_last h,fun i hi => ?_⟩
 have hub : ∀ i,i < G.length + 1 → l.getD i 0 ≤ cl := fun i hi => lat_ub R.ok (fun s hs => by
  obtain ⟨j,hj,e⟩ := List.getElem_of_mem hs
  obtain ⟨a,b,_,_,e2,e3,e4,_,_⟩ := R.step j hj
  rw [List.getElem?_eq_getElem hj,e] at e2
  injection e2 with e2
  rw [e2]
  show 0 ≤ a.serv + cellM p.time a.place b.place
  omega) h i (by omega)
 have hlo : ∀ i,1 ≤ i → i < G.length + 1 → 0 ≤ l.getD i 0 := fun i h1 hi => by
  by_cases e : i = G.length
  ·rw [e,lat_last h];exact ht.1
  ·obtain ⟨a,b,_,_,e2,_⟩ := R.step i (by omega)
   have := lat_at h e2
   rw [if_neg (by omega)] at this
   have hw : Hr.Lw (winS p (p.vs.getD k vz) a.kind a.item) := R.ok _ (List.mem_of_getElem? e2) _ (by rw [if_neg (by omega)])
   have h9 := Hr.last_le hw (l.getD (i + 1) 0 - (a.serv + cellM p.time a.place b.place)) (by
    have := congrArg Prod.snd this
    exact this)
   have h8 := congrArg Prod.fst this
   have h8 : (Hr.lastM (l.getD (i + 1) 0 - (a.serv + cellM p.time a.place b.place)) (winS p (p.vs.getD k vz) a.kind a.item)).1 = l.getD i 0 := h8
   omega
 have := hub i hi
 by_cases e : i = 0
 ·subst e
  obtain ⟨a,b,_,_,e2,e3,e4,_⟩ := R.step 0 R.low
  have h9 := lat_at h e2
  rw [if_pos rfl] at h9
  have h8 := congrArg Prod.fst h9
  have h8 : l.getD 1 0 - (a.serv + cellM p.time a.place b.place) = l.getD 0 0 := h8
  have := hlo 1 (Nat.le_refl _) (by have := R.low;omega)
  omega
 ·have := hlo i (by omega) hi
  omega
end
end Go.Proofs.Ytndbikoccdjafaa
namespace Go.Proofs.Ytndbikoccdjafaa
open Go.RowKit
def lineW : List Win := [(0,1000000)]
def lineM : Mat := ⟨2,[0,10,10,0]⟩
def lineP : Prb := ⟨0,lineM,lineM,[⟨0,0,[],0,(0,1000000),0,1,0,12,[]⟩],[⟨⟨1,5,lineW⟩,[],[],0,1⟩,⟨⟨1,0,lineW⟩,[],[],0,5⟩],[]⟩
theorem cell_same {w w' : World} {b o : Nat} {v : Value} (h : w'.heap[b]? = w.heap[b]?) (k : w.cell? ⟨b,o,none⟩ = some v) : w'.cell? ⟨b,o,none⟩ = some v := by
 rw [← k]
 simp only [World.cell?,h]
theorem put8 {W : World} {b : Nat} {c0 c1 c2 c3 c4 c5 c6 c7 : Value} (v0 v1 v2 v3 v4 v5 v6 v7 : Value) (h : W.heap[b]? = some (.cells #[c0,c1,c2,c3,c4,c5,c6,c7] 29 (0,0))) :
  ((((((((W.setCell ⟨b,0,none⟩ (v0)).setCell ⟨b,1,none⟩ (v1)).setCell ⟨b,2,none⟩ (v2)).setCell ⟨b,3,none⟩ (v3)).setCell ⟨b,4,none⟩ (v4)).setCell ⟨b,5,none⟩ (v5)).setCell ⟨b,6,none⟩ (v6)).setCell ⟨b,7,none⟩ (v7)).heap[b]? = some (.cells #[v0,v1,v2,v3,v4,v5,v6,v7] 29 (0,0)) ∧ ((((((((W.setCell ⟨b,0,none⟩ (v0)).setCell ⟨b,1,none⟩ (v1)).setCell ⟨b,2,none⟩ (v2)).setCell ⟨b,3,none⟩ (v3)).setCell ⟨b,4,none⟩ (v4)).setCell ⟨b,5,none⟩ (v5)).setCell ⟨b,6,none⟩ (v6)).setCell ⟨b,7,none⟩ (v7)).heap.size = W.heap.size ∧ ∀ k,k ≠ b → ((((((((W.setCell ⟨b,0,none⟩ (v0)).setCell ⟨b,1,none⟩ (v1)).setCell ⟨b,2,none⟩ (v2)).setCell ⟨b,3,none⟩ (v3)).setCell ⟨b,4,none⟩ (v4)).setCell ⟨b,5,none⟩ (v5)).setCell ⟨b,6,none⟩ (v6)).setCell ⟨b,7,none⟩ (v7)).heap[k]? = W.heap[k]? := by
 refine ⟨?_,by simp,fun k hk => ?_⟩
 ·have h0 : (W.setCell ⟨b,0,none⟩ v0).heap[b]? = some (.cells #[v0,c1,c2,c3,c4,c5,c6,c7] 29 (0,0)) := by have := heap_setCell_same W b 0 _ _ v0 h;simpa using this
  have h1 : ((W.setCell ⟨b,0,none⟩ v0).setCell ⟨b,1,none⟩ v1).heap[b]? = some (.cells #[v0,v1,c2,c3,c4,c5,c6,c7] 29 (0,0)) := by have := heap_setCell_same _ b 1 _ _ v1 h0;simpa using this
  have h2 : (((W.setCell ⟨b,0,none⟩ v0).setCell ⟨b,1,none⟩ v1).setCell ⟨b,2,none⟩ v2).heap[b]? = some (.cells #[v0,v1,v2,c3,c4,c5,c6,c7] 29 (0,0)) := by have := heap_setCell_same _ b 2 _ _ v2 h1;simpa using this
  have h3 : ((((W.setCell ⟨b,0,none⟩ v0).setCell ⟨b,1,none⟩ v1).setCell ⟨b,2,none⟩ v2).setCell ⟨b,3,none⟩ v3).heap[b]? = some (.cells #[v0,v1,v2,v3,c4,c5,c6,c7] 29 (0,0)) := by have := heap_setCell_same _ b 3 _ _ v3 h2;simpa using this
  have h4 : (((((W.setCell ⟨b,0,none⟩ v0).setCell ⟨b,1,none⟩ v1).setCell ⟨b,2,none⟩ v2).setCell ⟨b,3,none⟩ v3).setCell ⟨b,4,none⟩ v4).heap[b]? = some (.cells #[v0,v1,v2,v3,v4,c5,c6,c7] 29 (0,0)) := by have := heap_setCell_same _ b 4 _ _ v4 h3;simpa using this
  have h5 : ((((((W.setCell ⟨b,0,none⟩ v0).setCell ⟨b,1,none⟩ v1).setCell ⟨b,2,none⟩ v2).setCell ⟨b,3,none⟩ v3).setCell ⟨b,4,none⟩ v4).setCell ⟨b,5,none⟩ v5).heap[b]? = some (.cells #[v0,v1,v2,v3,v4,v5,c6,c7] 29 (0,0)) := by have := heap_setCell_same _ b 5 _ _ v5 h4;simpa using this
  have h6 : (((((((W.setCell ⟨b,0,none⟩ v0).setCell ⟨b,1,none⟩ v1).setCell ⟨b,2,none⟩ v2).setCell ⟨b,3,none⟩ v3).setCell ⟨b,4,none⟩ v4).setCell ⟨b,5,none⟩ v5).setCell ⟨b,6,none⟩ v6).heap[b]? = some (.cells #[v0,v1,v2,v3,v4,v5,v6,c7] 29 (0,0)) := by have := heap_setCell_same _ b 6 _ _ v6 h5;simpa using this
  have h7 : ((((((((W.setCell ⟨b,0,none⟩ v0).setCell ⟨b,1,none⟩ v1).setCell ⟨b,2,none⟩ v2).setCell ⟨b,3,none⟩ v3).setCell ⟨b,4,none⟩ v4).setCell ⟨b,5,none⟩ v5).setCell ⟨b,6,none⟩ v6).setCell ⟨b,7,none⟩ v7).heap[b]? = some (.cells #[v0,v1,v2,v3,v4,v5,v6,v7] 29 (0,0)) := by have := heap_setCell_same _ b 7 _ _ v7 h6;simpa using this
  exact h7
 ·repeat rw [heap_setCell_other _ _ _ _ hk]
theorem two_alloc {X : World} {N : Nat} (hN : X.heap.size = N) (A B : Obj) : ((X.alloc A).alloc B).drew.heap[N]? = some A ∧ ((X.alloc A).alloc B).drew.heap[N + 1]? = some B ∧ ∀ b,b < N → ((X.alloc A).alloc B).drew.heap[b]? = X.heap[b]? := by
 subst hN
 refine ⟨?_,?_,fun b hb => ?_⟩
 ·rw [heap_drew];exact heap_alloc2_old X A B
 ·rw [heap_drew];exact heap_alloc2_new X A B
 ·rw [heap_drew,heap_alloc_old _ _ (by simp;omega),heap_alloc_old _ _ hb]
end Go.Proofs.Ytndbikoccdjafaa
namespace Go.Proofs.Ytndbikoccdjafaa
open Go.RowKit
theorem frz_row {w : World} {b : Nat} {A : Array Value} {t j : Nat} (h : w.heap[b]? = some (.cells A t)) : w.frozen? ⟨b,j,none⟩ = false := by
 unfold World.frozen?
 simp [h]
end Go.Proofs.Ytndbikoccdjafaa
namespace Go.Proofs.Ytndbikoccdjafaa
open Go.RowKit
def clampM (n : Int) (s l : Nat) : Nat := if n ≤ (s : Int) then s else if n ≤ (l : Int) then n.toNat else l
def setF (V : List Vst) : Nat → Nat → List Int → List Vst
 | _,s,[] => V.drop s
 | i,s,n :: A => (V.drop s).take (clampM n s V.length - s) ++ ((4,(i : Int)) :: setF V (i + 1) (clampM n s V.length) A)
def setM (V : List Vst) (A : List Int) : List Vst := setF V 0 0 A
theorem clamp_ok {n : Int} {s l : Nat} (h : s ≤ l) : s ≤ clampM n s l ∧ clampM n s l ≤ l := by
 unfold clampM
 split
 ·omega
 ·split <;> omega
theorem setF_len (V : List Vst) : ∀ (A : List Int) (i s : Nat),s ≤ V.length → (setF V i s A).length = V.length - s + A.length
 | [],i,s,h => by simp [setF]
 | n :: A,i,s,h => by
  have hc := clamp_ok (n := n) h
  simp only [setF,List.length_append,List.length_cons,List.length_take,List.length_drop]
  rw [setF_len V A (i + 1) _ hc.2]
  omega
theorem setM_len (V : List Vst) (A : List Int) : (setM V A).length = V.length + A.length := by unfold setM;rw [setF_len V A 0 0 (Nat.zero_le _)];omega
end Go.Proofs.Ytndbikoccdjafaa
namespace Go.Proofs.Ytndbikoccdjafaa
open Go.RowKit
def manB (p : Prb) (vi : Int) : Bool := decide (0 ≤ vi) && decide (vi < (p.vs.length : Int))
def hasB (V : List Vst) : Bool := V.any fun v => v.1 == 4
def headV (p : Prb) (vi : Int) (V : List Vst) : List Vst := setM V (List.replicate (p.vs.getD vi.toNat vz).brks.length 0)
theorem put7 {W : World} {b : Nat} {c0 c1 c2 c3 c4 c5 c6 : Value} (v0 v1 v2 v3 v4 v5 v6 : Value) (h : W.heap[b]? = some (.cells #[c0,c1,c2,c3,c4,c5,c6] 34 (0,0))) :
  ∃ Z,Z = (((((((W.setCell ⟨b,0,none⟩ v0).setCell ⟨b,1,none⟩ v1).setCell ⟨b,2,none⟩ v2).setCell ⟨b,3,none⟩ v3).setCell ⟨b,4,none⟩ v4).setCell ⟨b,5,none⟩ v5).setCell ⟨b,6,none⟩ v6) ∧ Z.heap[b]? = some (.cells #[v0,v1,v2,v3,v4,v5,v6] 34 (0,0)) ∧ W.grownBy Z (some b) := by
 refine ⟨_,rfl,?_,?_⟩
 ·have h0 : (W.setCell ⟨b,0,none⟩ v0).heap[b]? = some (.cells #[v0,c1,c2,c3,c4,c5,c6] 34 (0,0)) := by have := heap_setCell_same W b 0 _ _ v0 h;simpa using this
  have h1 : ((W.setCell ⟨b,0,none⟩ v0).setCell ⟨b,1,none⟩ v1).heap[b]? = some (.cells #[v0,v1,c2,c3,c4,c5,c6] 34 (0,0)) := by have := heap_setCell_same _ b 1 _ _ v1 h0;simpa using this
  have h2 : (((W.setCell ⟨b,0,none⟩ v0).setCell ⟨b,1,none⟩ v1).setCell ⟨b,2,none⟩ v2).heap[b]? = some (.cells #[v0,v1,v2,c3,c4,c5,c6] 34 (0,0)) := by have := heap_setCell_same _ b 2 _ _ v2 h1;simpa using this
  have h3 : ((((W.setCell ⟨b,0,none⟩ v0).setCell ⟨b,1,none⟩ v1).setCell ⟨b,2,none⟩ v2).setCell ⟨b,3,none⟩ v3).heap[b]? = some (.cells #[v0,v1,v2,v3,c4,c5,c6] 34 (0,0)) := by have := heap_setCell_same _ b 3 _ _ v3 h2;simpa using this
  have h4 : (((((W.setCell ⟨b,0,none⟩ v0).setCell ⟨b,1,none⟩ v1).setCell ⟨b,2,none⟩ v2).setCell ⟨b,3,none⟩ v3).setCell ⟨b,4,none⟩ v4).heap[b]? = some (.cells #[v0,v1,v2,v3,v4,c5,c6] 34 (0,0)) := by have := heap_setCell_same _ b 4 _ _ v4 h3;simpa using this
  have h5 : ((((((W.setCell ⟨b,0,none⟩ v0).setCell ⟨b,1,none⟩ v1).setCell ⟨b,2,none⟩ v2).setCell ⟨b,3,none⟩ v3).setCell ⟨b,4,none⟩ v4).setCell ⟨b,5,none⟩ v5).heap[b]? = some (.cells #[v0,v1,v2,v3,v4,v5,c6] 34 (0,0)) := by have := heap_setCell_same _ b 5 _ _ v5 h4;simpa using this
  have h6 : (((((((W.setCell ⟨b,0,none⟩ v0).setCell ⟨b,1,none⟩ v1).setCell ⟨b,2,none⟩ v2).setCell ⟨b,3,none⟩ v3).setCell ⟨b,4,none⟩ v4).setCell ⟨b,5,none⟩ v5).setCell ⟨b,6,none⟩ v6).heap[b]? = some (.cells #[v0,v1,v2,v3,v4,v5,v6] 34 (0,0)) := by have := heap_setCell_same _ b 6 _ _ v6 h5;simpa using this
  exact h6
 ·repeat (first | (with_reducible exact grw_refl _ _) | (with_reducible refine grw_set ?_ _ _))
end Go.Proofs.Ytndbikoccdjafaa
