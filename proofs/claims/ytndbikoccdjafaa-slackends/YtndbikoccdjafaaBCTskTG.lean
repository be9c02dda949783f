/-
  Several texts in one: CTskT CPlP.
-/
import Derived.Deep.RegionHeld3
import Derived.Test.YtndbikoccdjafaaBCLReadsG
import Derived.Test.YtndbikoccdjafaaBCRowTG
import Derived.Test.YtndbikoccdjafaaBCStpAG
namespace Go.Proofs.Ytndbikoccdjafaa
open Go.RowKit
def taskV (v : Vst) : Option Tsk := if v.1 = 1 then some (false,v.2) else if v.1 = 2 then some (true,v.2) else none
def tasksV (V : List Vst) : List Tsk := V.filterMap taskV
theorem tasksV_some {V : List Vst} {q : Nat} {v : Vst} {t : Tsk} (h : V[q]? = some v) (ht : taskV v = some t) : tasksV (V.take (q + 1)) = tasksV (V.take q) ++ [t] := by
 obtain ⟨hk,e⟩ := List.getElem?_eq_some_iff.1 h
 unfold tasksV
 rw [List.take_succ_eq_append_getElem hk,e,List.filterMap_append]
 simp [ht]
theorem tasksV_none {V : List Vst} {q : Nat} {v : Vst} (h : V[q]? = some v) (ht : taskV v = none) : tasksV (V.take (q + 1)) = tasksV (V.take q) := by
 obtain ⟨hk,e⟩ := List.getElem?_eq_some_iff.1 h
 unfold tasksV
 rw [List.take_succ_eq_append_getElem hk,e,List.filterMap_append]
 simp [ht]
end Go.Proofs.Ytndbikoccdjafaa
namespace Go.Proofs.Ytndbikoccdjafaa
open Go.RowKit
def stopW (p : Prb) (v : Veh) (was : Int) (u : Vst) : Stp := if u.1 = 4 then ⟨was,(v.brks.getD u.2.toNat bz).serv,(v.brks.getD u.2.toNat bz).wins⟩ else stpM p u.1 u.2
def endS (v : Veh) (pl : Int) : Stp := ⟨pl,0,[v.shift]⟩
def stopsP (p : Prb) (v : Veh) (V : List Vst) : List Stp := V.foldl (fun S u => S ++ [stopW p v (S.getD (S.length - 1) sz).place u]) [endS v v.start]
def stopsM (p : Prb) (v : Veh) (V : List Vst) : List Stp := stopsP p v V ++ [endS v v.stop]
section
variable {p : Prb} {v : Veh}
theorem stopsP_step (V : List Vst) (u : Vst) : stopsP p v (V ++ [u]) = stopsP p v V ++ [stopW p v ((stopsP p v V).getD ((stopsP p v V).length - 1) sz).place u] := by unfold stopsP;rw [List.foldl_append];rfl
theorem stopsP_len (V : List Vst) : (stopsP p v V).length = V.length + 1 := by
 refine foldl_snoc_ind (Q := fun V => (stopsP p v V).length = V.length + 1) rfl (fun V u h => ?_) V
 rw [stopsP_step,List.length_append,h,List.length_append];rfl
theorem stopsP_snoc (V : List Vst) (u : Vst) : stopsP p v (V ++ [u]) = stopsP p v V ++ [stopW p v ((stopsP p v V).getD V.length sz).place u] := by
 rw [stopsP_step,stopsP_len];rfl
theorem stopsM_len (V : List Vst) : (stopsM p v V).length = V.length + 2 := by unfold stopsM;rw [List.length_append,stopsP_len];rfl
theorem stopsP_take (V : List Vst) : ∀ i,i ≤ V.length → stopsP p v (V.take i) = (stopsP p v V).take (i + 1) := by
 refine foldl_snoc_ind (Q := fun V => ∀ i,i ≤ V.length → stopsP p v (V.take i) = (stopsP p v V).take (i + 1)) (fun i hi => ?_) (fun V u ih i hi => ?_) V
 ·simp at hi;subst hi;rfl
 ·rw [List.length_append] at hi
  by_cases h : i ≤ V.length
  ·rw [List.take_append_of_le_length h,ih i h,stopsP_snoc,List.take_append_of_le_length (by rw [stopsP_len];omega)]
  ·have e : i = V.length + 1 := by simp at hi;omega
   subst e
   rw [List.take_of_length_le (by simp),List.take_of_length_le (by rw [stopsP_len,List.length_append];simp)]
theorem stopsM_low {V : List Vst} {i : Nat} (h : i ≤ V.length) : (stopsM p v V).getD i sz = (stopsP p v (V.take i)).getD i sz := by
 rw [stopsP_take V i h]
 unfold stopsM
 rw [List.getD_eq_getElem?_getD,List.getD_eq_getElem?_getD,List.getElem?_append_left (by rw [stopsP_len];omega),List.getElem?_take_of_lt (by omega)]
theorem stop_zero (V : List Vst) : (stopsM p v V).getD 0 sz = endS v v.start := by rw [stopsM_low (Nat.zero_le _)];rfl
theorem stop_end (V : List Vst) : (stopsM p v V).getD (V.length + 1) sz = endS v v.stop := by
 unfold stopsM
 rw [List.getD_eq_getElem?_getD,List.getElem?_append_right (by rw [stopsP_len];omega),stopsP_len,Nat.sub_self];rfl
theorem stop_at {V : List Vst} {i : Nat} {u : Vst} (h : V[i]? = some u) : (stopsM p v V).getD (i + 1) sz = stopW p v ((stopsM p v V).getD i sz).place u := by
 obtain ⟨hi,e⟩ := List.getElem?_eq_some_iff.1 h
 rw [stopsM_low (show i + 1 ≤ V.length by omega),stopsM_low (show i ≤ V.length by omega),List.take_succ_eq_append_getElem hi,e,stopsP_snoc,List.getD_eq_getElem?_getD,List.getElem?_append_right (by rw [stopsP_len,List.length_take];omega),stopsP_len,List.length_take,Nat.min_eq_left (by omega),Nat.sub_self]
 rfl
end
def travelM (m : Mat) (S : List Stp) (i : Nat) : Int := if i = 0 then 0 else cellM m (S.getD (i - 1) sz).place (S.getD i sz).place
theorem travelM_succ (m : Mat) (S : List Stp) (i : Nat) : travelM m S (i + 1) = cellM m (S.getD i sz).place (S.getD (i + 1) sz).place := by unfold travelM;rw [if_neg (by omega)];rfl
def lfM (m : Mat) (S : List Stp) (f : Int) : Nat → Int
 | 0 => f
 | i + 1 => (Hr.startM (lfM m S f i + travelM m S i) (S.getD i sz).wins).1 + (S.getD i sz).serv
def arrM (m : Mat) (S : List Stp) (f : Int) (i : Nat) : Int := lfM m S f i + travelM m S i
def begM (m : Mat) (S : List Stp) (f : Int) (i : Nat) : Int × Bool := Hr.startM (arrM m S f i) (S.getD i sz).wins
theorem lfM_succ (m : Mat) (S : List Stp) (f : Int) (i : Nat) : lfM m S f (i + 1) = (begM m S f i).1 + (S.getD i sz).serv := rfl
def timelyM (m : Mat) (S : List Stp) (f : Int) : Bool := (List.range S.length).all fun i => (begM m S f i).2
def linkedM (p : Prb) (S : List Stp) : Bool := (List.range S.length).all fun i => decide (0 ≤ travelM p.time S i) && decide (0 ≤ travelM p.dist S i)
theorem all_yes {n : Nat} {f : Nat → Bool} (h : ∀ i,i < n → f i = true) : (List.range n).all f = true := List.all_eq_true.2 fun i hi => h i (List.mem_range.1 hi)
theorem all_not {n i : Nat} {f : Nat → Bool} (hi : i < n) (h : f i = false) : (List.range n).all f = false := by
 cases e : (List.range n).all f with
 | false => rfl
 | true => have := List.all_eq_true.1 e i (List.mem_range.2 hi);rw [h] at this;cases this
theorem all_get {n i : Nat} {f : Nat → Bool} (h : (List.range n).all f = true) (hi : i < n) : f i = true := List.all_eq_true.1 h i (List.mem_range.2 hi)
def sumN (f : Nat → Int) : Nat → Int
 | 0 => 0
 | n + 1 => sumN f n + f n
theorem sumN_le {f : Nat → Int} {l u : Int} : ∀ n : Nat,(∀ i,i < n → l ≤ f i ∧ f i ≤ u) → l * n ≤ sumN f n ∧ sumN f n ≤ u * n
 | 0,_ => by simp [sumN]
 | n + 1,h => by
  have ih := sumN_le n fun i hi => h i (by omega)
  have := h n (by omega)
  have e1 : l * ((n + 1 : Nat) : Int) = l * n + l := by rw [Int.natCast_add,Int.mul_add];simp
  have e2 : u * ((n + 1 : Nat) : Int) = u * n + u := by rw [Int.natCast_add,Int.mul_add];simp
  unfold sumN
  omega
structure StepT where
 kind : Int
 item : Int
 place : Int
 arr : Int
 wait : Int
 serv : Int
 load : List Int
 time : Int
 dist : Int
structure PlanT where
 veh : Int
 steps : List StepT
 time : Int
 dist : Int
 wait : Int
 serv : Int
 cost : Int
def pointsM (V : List Vst) : List Vst := (5,0) :: (V ++ [(6,0)])
def loadsT (p : Prb) (dd : Nat) (V : List Vst) : List (List Int) := loadsM p dd V ++ [lastL p (startM p dd V) V]
theorem loadsM_len (p : Prb) (dd : Nat) (V : List Vst) : (loadsM p dd V).length = V.length + 1 := by unfold loadsM;rw [List.length_cons,goM_len]
def waitM (m : Mat) (S : List Stp) (f : Int) (i : Nat) : Int := (begM m S f i).1 - arrM m S f i
def servM (S : List Stp) (i : Nat) : Int := (S.getD i sz).serv
def stepM (p : Prb) (dd : Nat) (f : Int) (V : List Vst) (S : List Stp) (i : Nat) : StepT := ⟨((pointsM V).getD i (0,0)).1,((pointsM V).getD i (0,0)).2,(S.getD i sz).place,arrM p.time S f i,waitM p.time S f i,(S.getD i sz).serv,(loadsT p dd V).getD i [],sumN (travelM p.time S) (i + 1),sumN (travelM p.dist S) (i + 1)⟩
def planS (p : Prb) (dd : Nat) (vi : Int) (v : Veh) (V : List Vst) (S : List Stp) : PlanT := ⟨vi,(List.range S.length).map (stepM p dd v.shift.1 V S),sumN (travelM p.time S) S.length,sumN (travelM p.dist S) S.length,sumN (waitM p.time S v.shift.1) S.length,sumN (servM S) S.length,v.fixed + sumN (travelM p.time S) S.length * v.perT + sumN (travelM p.dist S) S.length * v.perD⟩
def planM (p : Prb) (vi : Int) (v : Veh) (V : List Vst) : PlanT := planS p p.dims.toNat vi v V (stopsM p v V)
def planZ : PlanT := ⟨0,[],0,0,0,0,0⟩
def Gd (p : Prb) (P : List Vst) : Prop := ∀ (i : Nat) (v : Vst),P[i]? = some v → v.1 ≠ 4 → thereV p v.1 v.2 = true ∧ v ∉ P.take i ∧ (v.1 = 3 → ((2,v.2) : Vst) ∈ P.take i)
def Whole (p : Prb) (V : List Vst) : Prop := Gd p V ∧ ∀ j : Int,((2,j) : Vst) ∈ V → ((3,j) : Vst) ∈ V
def gdF (p : Prb) : List Vst → List Vst → Bool
 | _,[] => true
 | P,v :: V => (decide (v.1 = 4) || (thereV p v.1 v.2 && decide (v ∉ P) && (decide (v.1 ≠ 3) || decide (((2,v.2) : Vst) ∈ P)))) && gdF p (P ++ [v]) V
def wholeM (p : Prb) (V : List Vst) : Bool := gdF p [] V && V.all (fun v => decide (v.1 ≠ 2) || decide (((3,v.2) : Vst) ∈ V))
theorem gdF_iff (p : Prb) : ∀ (V P : List Vst),gdF p P V = true ↔ ∀ (i : Nat) (v : Vst),V[i]? = some v → v.1 ≠ 4 → thereV p v.1 v.2 = true ∧ v ∉ P ++ V.take i ∧ (v.1 = 3 → ((2,v.2) : Vst) ∈ P ++ V.take i)
 | [],P => by simp [gdF]
 | u :: V,P => by
  unfold gdF
  rw [Bool.and_eq_true,gdF_iff p V (P ++ [u])]
  constructor
  ·rintro ⟨h1,h2⟩ i v hi h4
   cases i with
   | zero =>
    simp at hi
    subst hi
    simp only [Bool.or_eq_true,Bool.and_eq_true,decide_eq_true_eq] at h1
    rcases h1 with h1 | ⟨⟨h1,h3⟩,h5⟩
    ·exact absurd h1 h4
    ·refine ⟨h1,by simpa using h3,fun h6 => ?_⟩
     rcases h5 with h5 | h5
     ·exact absurd h6 h5
     ·simpa using h5
   | succ i =>
    have := h2 i v (by simpa using hi) h4
    rw [List.append_assoc] at this
    exact this
  ·intro h
   refine ⟨?_,fun i v hi h4 => ?_⟩
   ·simp only [Bool.or_eq_true,Bool.and_eq_true,decide_eq_true_eq]
    by_cases h4 : u.1 = 4
    ·exact .inl h4
    ·have := h 0 u (by simp) h4
     simp at this
     exact .inr ⟨⟨this.1,this.2.1⟩,by by_cases h6 : u.1 = 3;exact .inr (this.2.2 h6);exact .inl h6⟩
   ·have := h (i + 1) v (by simpa using hi) h4
    rw [List.append_assoc]
    exact this
theorem wholeM_iff (p : Prb) (V : List Vst) : wholeM p V = true ↔ Whole p V := by
 unfold wholeM Whole Gd
 rw [Bool.and_eq_true,gdF_iff]
 simp only [List.nil_append]
 refine and_congr Iff.rfl ⟨fun h j hj => ?_,fun h => List.all_eq_true.2 fun v hv => ?_⟩
 ·have := List.all_eq_true.1 h _ hj
  simpa using this
 ·simp only [Bool.or_eq_true,decide_eq_true_eq]
  by_cases h2 : v.1 = 2
  ·obtain ⟨k,i⟩ := v
   simp only at h2
   subst h2
   exact .inr (h i hv)
  ·exact .inl h2
theorem take_snoc {V : List Vst} {q : Nat} {u : Vst} (h : V[q]? = some u) : V.take (q + 1) = V.take q ++ [u] := by
 obtain ⟨hk,e⟩ := List.getElem?_eq_some_iff.1 h
 rw [List.take_succ_eq_append_getElem hk,e]
def coversB (a b : Int) : Bool := decide (a.toNat ||| b.toNat = a.toNat)
def ableM (p : Prb) (v : Veh) (V : List Vst) : Bool := (tasksV V).all fun t => coversB v.skills (sklM p t)
def smallM (v : Veh) (V : List Vst) : Bool := decide (((tasksV V).length : Int) ≤ v.maxT)
def lightM (p : Prb) (dd : Nat) (v : Veh) (V : List Vst) : Bool := (loadsM p dd V).all fun xs => Ld.underB xs v.cap
def errV (p : Prb) (v : Veh) (V : List Vst) : Int :=
 bif !wholeM p V then 161 else bif !restM V v.brks.length then 162 else bif !ableM p v V then 163 else bif !smallM v V then 164 else bif !lightM p p.dims.toNat v V then 165 else bif !linkedM p (stopsM p v V) then 166 else bif !timelyM p.time (stopsM p v V) v.shift.1 then 167 else 0
def ofE (p : Prb) (vi : Int) (V : List Vst) : Int := bif upB vi ((p.vs.length : Int) - 1) then errV p (p.vs.getD vi.toNat vz) V else 160
def ofP (p : Prb) (vi : Int) (V : List Vst) : PlanT := bif decide (ofE p vi V = 0) then planM p vi (p.vs.getD vi.toNat vz) V else planZ
end Go.Proofs.Ytndbikoccdjafaa
