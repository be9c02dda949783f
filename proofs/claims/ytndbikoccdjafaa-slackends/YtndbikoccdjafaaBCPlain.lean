/-
  Plain mathematics for the laws of layer 12 (model): problems, and which are lawful; no program in it.
-/
namespace Go.Proofs.Ytndbikoccdjafaa
abbrev Win := Int × Int
def badW (e : Int) (w : Win) : Bool := decide (w.1 ≤ e ∨ w.2 < w.1 ∨ 1000000 < w.2)
def chkF : Int → Nat → List Win → Int × Int
 | _,_,[] => (-1,0)
 | e,i,w :: r => if badW e w = true then ((i : Int),2) else chkF w.2 (i + 1) r
def chk (L : List Win) : Int × Int := if L.length < 1 ∨ 4 < L.length then (-1,43) else chkF (-1) 0 L
theorem chkF_drop (e : Int) (L : List Win) (i : Nat) (h : i < L.length) : chkF e i (L.drop i) = if badW e L[i]! = true then ((i : Int),2) else chkF (L[i]!).2 (i + 1) (L.drop (i + 1)) := by
 rw [List.drop_eq_getElem_cons h,getElem!_pos L i h]
 rfl
theorem badW_yes {e x y : Int} (h : x ≤ e ∨ y < x ∨ 1000000 < y) : badW e (x,y) = true := decide_eq_true h
theorem badW_no {e x y : Int} (h : ¬ (x ≤ e ∨ y < x ∨ 1000000 < y)) : badW e (x,y) = false := decide_eq_false h

def Lw (L : List Win) : Prop := (∀ w ∈ L,w.1 ≤ w.2 ∧ 0 ≤ w.1 ∧ w.2 ≤ 1000000) ∧ L.Pairwise fun u v => u.2 < v.1
theorem chkF_ok : ∀ (L : List Win) (e : Int) (i : Nat),-1 ≤ e → (chkF e i L).2 = 0 → Lw L ∧ ∀ w ∈ L,e < w.1
 | [],_,_,_,_ => ⟨⟨fun _ h => by simp at h,List.Pairwise.nil⟩,fun _ h => by simp at h⟩
 | w :: r,e,i,he,h => by
  unfold chkF at h
  cases hb : badW e w with
  | true => rw [hb] at h;simp at h
  | false =>
   rw [hb] at h
   simp only [Bool.false_eq_true,if_false] at h
   have hw := of_decide_eq_false hb
   have ih := chkF_ok r w.2 (i + 1) (by omega) h
   refine ⟨⟨fun u hu => ?_,List.pairwise_cons.2 ⟨ih.2,ih.1.2⟩⟩,fun u hu => ?_⟩
   ·rcases List.mem_cons.1 hu with rfl | hu
    ·omega
    ·exact ih.1.1 u hu
   ·rcases List.mem_cons.1 hu with rfl | hu
    ·omega
    ·have := ih.2 u hu;omega
theorem chk_ok {L : List Win} (h : (chk L).2 = 0) : 1 ≤ L.length ∧ L.length ≤ 4 ∧ Lw L := by
 unfold chk at h
 split at h
 ·simp at h
 ·exact ⟨by omega,by omega,(chkF_ok L (-1) 0 (by omega) h).1⟩

def checkE (xs : List Int) (n : Int) : Int := if (xs.length : Int) = n then (if ∀ i,i < xs.length → 0 ≤ xs[i]! ∧ xs[i]! ≤ 1000000 then 0 else 2) else 43
theorem checkE_ne {xs : List Int} {n : Int} (h : ¬ (xs.length : Int) = n) : checkE xs n = 43 := by unfold checkE;rw [if_neg h]
theorem checkE_ok {xs : List Int} {n : Int} (h : (xs.length : Int) = n) (ho : ∀ i,i < xs.length → 0 ≤ xs[i]! ∧ xs[i]! ≤ 1000000) : checkE xs n = 0 := by unfold checkE;rw [if_pos h,if_pos ho]
theorem checkE_no {xs : List Int} {n : Int} {k : Nat} (h : (xs.length : Int) = n) (hk : k < xs.length) (hn : ¬ (0 ≤ xs[k]! ∧ xs[k]! ≤ 1000000)) : checkE xs n = 2 := by unfold checkE;rw [if_pos h,if_neg fun h' => hn (h' k hk)]

structure Mat where
 n : Int
 cells : List Int
structure Brk where
 wins : List Win
 serv : Int
structure Veh where
 start : Int
 stop : Int
 cap : List Int
 skills : Int
 shift : Win
 fixed : Int
 perT : Int
 perD : Int
 maxT : Int
 brks : List Brk
structure Stp where
 place : Int
 serv : Int
 wins : List Win
structure Jb where
 stop : Stp
 drop : List Int
 pick : List Int
 skills : Int
 prio : Int
structure Shp where
 pick : Stp
 deli : Stp
 amt : List Int
 skills : Int
 prio : Int
structure Prb where
 dims : Int
 time : Mat
 dist : Mat
 vs : List Veh
 js : List Jb
 ss : List Shp
def bz : Brk := ⟨[],0⟩
def vz : Veh := ⟨0,0,[],0,(0,0),0,0,0,0,[]⟩
def sz : Stp := ⟨0,0,[]⟩
def jz : Jb := ⟨sz,[],[],0,0⟩
def hz : Shp := ⟨sz,sz,[],0,0⟩
theorem getD_drop {α : Type} (L : List α) (z : α) (k : Nat) (h : k < L.length) : L.drop k = L.getD k z :: L.drop (k + 1) := by
 rw [List.drop_eq_getElem_cons h,List.getD_eq_getElem?_getD,List.getElem?_eq_getElem h];rfl
theorem getD_mem {α : Type} (L : List α) (z : α) (k : Nat) (h : k < L.length) : L.getD k z ∈ L := by
 rw [List.getD_eq_getElem?_getD,List.getElem?_eq_getElem h];exact List.getElem_mem h

def upB (x m : Int) : Bool := decide (0 ≤ x ∧ x ≤ m)
theorem upB_yes {x m : Int} (h : 0 ≤ x) (k : x ≤ m) : upB x m = true := decide_eq_true ⟨h,k⟩
theorem upB_lo {x m : Int} (h : ¬ 0 ≤ x) : upB x m = false := decide_eq_false fun k => h k.1
theorem upB_hi {x m : Int} (h : ¬ x ≤ m) : upB x m = false := decide_eq_false fun k => h k.2
theorem upB_iff {x m : Int} : upB x m = true ↔ 0 ≤ x ∧ x ≤ m := by unfold upB;exact decide_eq_true_iff
def inB (x l m : Int) : Bool := decide (l ≤ x ∧ x ≤ m)
theorem inB_yes {x l m : Int} (h : l ≤ x) (k : x ≤ m) : inB x l m = true := decide_eq_true ⟨h,k⟩
theorem inB_lo {x l m : Int} (h : ¬ l ≤ x) : inB x l m = false := decide_eq_false fun k => h k.1
theorem inB_hi {x l m : Int} (h : ¬ x ≤ m) : inB x l m = false := decide_eq_false fun k => h k.2
def winB (L : List Win) : Bool := decide ((chk L).2 = 0)
def amtB (L : List Int) (d : Int) : Bool := decide (checkE L d = 0)
def sklB (x : Int) : Bool := decide (x < 4611686018427387904)
def stpB (n : Int) (s : Stp) : Bool := upB s.place (n - 1) && upB s.serv 1000000 && winB s.wins
def brkB (b : Brk) : Bool := winB b.wins && upB b.serv 1000000
def twoB (L : List Brk) : Bool := decide (L.length ≤ 2)
def vehB (d n : Int) (v : Veh) : Bool :=
 upB v.start (n - 1) && upB v.stop (n - 1) && amtB v.cap d && sklB v.skills && winB [v.shift] && upB v.fixed 1000000 && upB v.perT 1000000 && upB v.perD 1000000 && upB v.maxT 12 && twoB v.brks && v.brks.all brkB
def jobB (d n : Int) (j : Jb) : Bool := stpB n j.stop && amtB j.drop d && amtB j.pick d && sklB j.skills && upB j.prio 100
def shpB (d n : Int) (s : Shp) : Bool := stpB n s.pick && stpB n s.deli && amtB s.amt d && sklB s.skills && upB s.prio 100
def celB (n : Int) (i : Nat) (c : Int) : Bool := inB c (-1) 32000000 && !(decide ((i : Int) / n = (i : Int) % n) && decide (c ≠ 0))
def matB (n : Int) (m : Mat) : Bool := decide (m.n = n) && decide ((m.cells.length : Int) = n * n) && (List.range m.cells.length).all (fun i => celB n i m.cells[i]!)
def dimB (p : Prb) : Bool := upB p.dims 3 && inB p.time.n 1 32
def fewB (p : Prb) : Bool := decide (p.vs.length ≤ 4 ∧ p.js.length + p.ss.length ≤ 12)
def allB (p : Prb) : Bool := p.vs.all (vehB p.dims p.time.n) && p.js.all (jobB p.dims p.time.n) && p.ss.all (shpB p.dims p.time.n)
def checkM (p : Prb) : Int := if (dimB p && matB p.time.n p.time && matB p.time.n p.dist) = false then 2 else if fewB p = false then 27 else if allB p = false then 2 else 0
def lawM (p : Prb) : Bool := decide (checkM p = 0)
theorem lawM_ok {p : Prb} (h : lawM p = true) : dimB p = true ∧ matB p.time.n p.time = true ∧ matB p.time.n p.dist = true ∧ fewB p = true ∧ allB p = true := by
 have h := of_decide_eq_true h
 unfold checkM at h
 split at h
 ·simp at h
 ·split at h
  ·simp at h
  ·split at h
   ·simp at h
   ·rename_i h1 h2 h3
    simp only [Bool.not_eq_false,Bool.and_eq_true] at h1 h2 h3
    exact ⟨h1.1.1,h1.1.2,h1.2,h2,h3⟩
theorem all_step {α : Type} (f : α → Bool) (z : α) (L : List α) (k : Nat) (h : k < L.length) : (L.drop k).all f = (f (L.getD k z) && (L.drop (k + 1)).all f) := by
 rw [getD_drop L z k h];rfl
theorem all_end {α : Type} (f : α → Bool) (L : List α) (k : Nat) (h : ¬ k < L.length) : (L.drop k).all f = true := by
 rw [List.drop_eq_nil_of_le (by omega)];rfl
end Go.Proofs.Ytndbikoccdjafaa
