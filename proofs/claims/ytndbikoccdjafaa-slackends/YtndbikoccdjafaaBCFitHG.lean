/-
  Several texts in one: CFitH CFitD.
-/
import Derived.Deep.RegionHeld3
import Derived.Deep.CutRange
import Derived.Test.YtndbikoccdjafaaBCHCallG
import Derived.Test.YtndbikoccdjafaaBCFitQ
import Derived.Test.YtndbikoccdjafaaBCPlBG
import Derived.Test.YtndbikoccdjafaaBCVrwG
import Derived.Test.YtndbikoccdjafaaBCRSetG
namespace Go.Proofs.Ytndbikoccdjafaa
open Go.RowKit
def fitE (p : Prb) (vi : Int) (V : List Vst) : Int := bif !manB p vi then 160 else bif hasB V then 162 else bif decide (ofE p vi (headV p vi V) = 167) then (match seekP p (p.vs.getD vi.toNat vz) V with | none => 167 | some ps => ofE p vi (setM V (ps.map fun n : Nat => (n : Int)))) else ofE p vi (headV p vi V)
def fitP (p : Prb) (vi : Int) (V : List Vst) : PlanT := bif !manB p vi then planZ else bif hasB V then planZ else bif decide (ofE p vi (headV p vi V) = 167) then (match seekP p (p.vs.getD vi.toNat vz) V with | none => planZ | some ps => ofP p vi (setM V (ps.map fun n : Nat => (n : Int)))) else ofP p vi (headV p vi V)
theorem hasB_no {V : List Vst} (h : hasB V = false) : ∀ u ∈ V,u.1 ≠ 4 := fun u hu e => by
 unfold hasB at h
 have := List.any_eq_false.1 h u hu
 simp [e] at this
theorem rep_zero (n : Nat) : List.replicate n (0 : Int) = (List.replicate n (0 : Nat)).map fun n : Nat => (n : Int) := by rw [List.map_replicate];rfl
theorem head_ins {p : Prb} {vi : Int} {V : List Vst} {v : Veh} (hv : p.vs.getD vi.toNat vz = v) : headV p vi V = insB 0 0 (List.replicate v.brks.length 0) V := by
 unfold headV
 rw [hv,rep_zero,setM_ins (vld_zero _ _)]
end Go.Proofs.Ytndbikoccdjafaa
namespace Go.Proofs.Ytndbikoccdjafaa
open Go.RowKit
def tryV (V : List Vst) (n i k : Nat) : List Vst := setM V ((([i,k] : List Nat).take n).map fun z : Nat => (z : Int))
theorem vld_try {m i k n : Nat} (hik : i ≤ k) (hk : k ≤ m) (hn : n = 1 ∨ n = 2) : Vld m 0 (([i,k] : List Nat).take n) ∧ (([i,k] : List Nat).take n).length = n := by
 rcases hn with rfl | rfl
 ·exact ⟨⟨Nat.zero_le _,by omega,trivial⟩,rfl⟩
 ·exact ⟨⟨Nat.zero_le _,by omega,hik,hk,trivial⟩,rfl⟩
theorem try_ins {V : List Vst} {n i k : Nat} (hik : i ≤ k) (hk : k ≤ V.length) (hn : n = 1 ∨ n = 2) : tryV V n i k = insB 0 0 (([i,k] : List Nat).take n) V := by
 unfold tryV
 exact setM_ins (vld_try hik hk hn).1
theorem try_one (V : List Vst) (i k k' : Nat) : tryV V 1 i k = tryV V 1 i k' := rfl
theorem head_try {p : Prb} {vi : Int} {V : List Vst} {n : Nat} (h : (p.vs.getD vi.toNat vz).brks.length = n) (hn : n = 1 ∨ n = 2) : headV p vi V = tryV V n 0 0 := by
 unfold headV tryV
 rw [h]
 rcases hn with rfl | rfl <;> rfl
theorem ofE_man {p : Prb} {vi : Int} (h : manB p vi = true) (V : List Vst) : ofE p vi V = errV p (p.vs.getD vi.toNat vz) V := by
 unfold ofE
 rw [up_man]
 unfold manB at h
 rw [h]
 rfl
section
variable {p : Prb} {vi : Int} {V : List Vst} {n : Nat}
theorem fit_first (hl : lawM p = true) (hm : manB p vi = true) (hb : hasB V = false) (hn : (p.vs.getD vi.toNat vz).brks.length = n) (h2 : n = 1 ∨ n = 2) (he : ofE p vi (tryV V n 0 0) = 167) : First p (p.vs.getD vi.toNat vz) V (seekP p (p.vs.getD vi.toNat vz) V) := by
 obtain ⟨k,hk,hkl⟩ := man_nat (show (decide (0 ≤ vi) && decide (vi < (p.vs.length : Int))) = true from hm)
 have hvo : VehOk p.dims p.time.n (p.vs.getD vi.toNat vz) := veh_ok (law_veh hl (by rw [hk];simpa using hkl))
 have hV := hasB_no hb
 rw [ofE_man hm,try_ins (Nat.le_refl _) (Nat.zero_le _) h2] at he
 exact first_is hl hvo hV (by rw [(vld_try (Nat.le_refl 0) (Nat.zero_le V.length) h2).2,hn]) he
theorem fit_found {i k : Nat} (hl : lawM p = true) (hm : manB p vi = true) (hb : hasB V = false) (hn : (p.vs.getD vi.toNat vz).brks.length = n) (h2 : n = 1 ∨ n = 2) (hik : i ≤ k) (hk : k ≤ V.length) (h0 : ∀ a b,a < i → a ≤ b → b ≤ V.length → ofE p vi (tryV V n a b) = 167) (h1 : ∀ b,i ≤ b → b < k → ofE p vi (tryV V n i b) = 167) (he : ofE p vi (tryV V n i k) ≠ 167) : fitE p vi V = ofE p vi (tryV V n i k) ∧ fitP p vi V = ofP p vi (tryV V n i k) := by
 have hH := head_try (V := V) hn h2
 by_cases hz : ofE p vi (tryV V n 0 0) = 167
 ·have hF := fit_first hl hm hb hn h2 hz
  have hEP : fitE p vi V = (match seekP p (p.vs.getD vi.toNat vz) V with | none => 167 | some ps => ofE p vi (setM V (ps.map fun n : Nat => (n : Int)))) ∧ fitP p vi V = (match seekP p (p.vs.getD vi.toNat vz) V with | none => planZ | some ps => ofP p vi (setM V (ps.map fun n : Nat => (n : Int)))) := by
   unfold fitE fitP
   rw [hm,hb,hH,hz]
   exact ⟨rfl,rfl⟩
  have hlen : ∀ ps : List Nat,ps.length = n → Vld V.length 0 ps → ∃ a b,ps = ([a,b] : List Nat).take n ∧ a ≤ b ∧ b ≤ V.length := fun ps hps hv => by
   rcases h2 with rfl | rfl
   ·obtain ⟨a,rfl⟩ : ∃ a,ps = [a] := by
     rcases ps with _ | ⟨a,_ | ⟨c,r⟩⟩
     ·simp at hps
     ·exact ⟨a,rfl⟩
     ·simp at hps
    exact ⟨a,a,rfl,Nat.le_refl _,hv.2.1⟩
   ·obtain ⟨a,b,rfl⟩ : ∃ a b,ps = [a,b] := by
     rcases ps with _ | ⟨a,_ | ⟨c,_ | ⟨d,r⟩⟩⟩
     ·simp at hps
     ·simp at hps
     ·exact ⟨a,c,rfl⟩
     ·simp at hps
    exact ⟨a,b,rfl,hv.2.2.1,hv.2.2.2.1⟩
  have herr : ∀ a b,a ≤ b → b ≤ V.length → ofE p vi (tryV V n a b) = errV p (p.vs.getD vi.toNat vz) (insB 0 0 (([a,b] : List Nat).take n) V) := fun a b hab hbl => by rw [ofE_man hm,try_ins hab hbl h2]
  cases hs : seekP p (p.vs.getD vi.toNat vz) V with
  | none =>
   exfalso
   rw [hs] at hF
   have hv := vld_try hik hk h2
   refine he ?_
   rw [herr i k hik hk]
   exact hF.no rfl _ (by rw [hv.2,hn]) hv.1
  | some ps =>
   rw [hs] at hF hEP
   obtain ⟨y1,y2,y3,y4⟩ := hF.yes ps rfl
   obtain ⟨a,b,rfl,hab,hbl⟩ := hlen ps (by rw [y1,hn]) y2
   have hv := vld_try hik hk h2
   have e0 : ofE p vi (tryV V n a b) = 0 := by rw [herr a b hab hbl];exact y3
   have hnl : ¬ lexL (([i,k] : List Nat).take n) (([a,b] : List Nat).take n) := fun hx => he (by rw [herr i k hik hk];exact y4 _ (by rw [hv.2,hn]) hv.1 hx)
   have hia : ¬ a < i := fun h => by rw [h0 a b h hab hbl] at e0;cases e0
   have heq : (([a,b] : List Nat).take n) = (([i,k] : List Nat).take n) := by
    rcases h2 with rfl | rfl
    ·have hx : ¬ lexL [i] [a] := hnl
     simp only [lexL] at hx
     have : i = a := by omega
     rw [this];rfl
    ·have hx : ¬ lexL [i,k] [a,b] := hnl
     simp only [lexL] at hx
     have e1 : i = a := by omega
     subst e1
     have hkb : ¬ b < k := fun h => by rw [h1 b hab h] at e0;cases e0
     have e2 : k = b := by omega
     rw [e2]
   rw [hEP.1,hEP.2]
   show ofE p vi (setM V (List.map _ _)) = _ ∧ ofP p vi (setM V (List.map _ _)) = _
   unfold tryV
   rw [heq]
   exact ⟨rfl,rfl⟩
 ·have hi : i = 0 := by
   by_cases h : i = 0
   ·exact h
   ·exact absurd (h0 0 0 (by omega) (Nat.le_refl _) (Nat.zero_le _)) hz
  subst hi
  have hk0 : k = 0 := by
   by_cases h : k = 0
   ·exact h
   ·exact absurd (h1 0 (Nat.le_refl _) (by omega)) hz
  subst hk0
  unfold fitE fitP
  rw [hm,hb,hH,decide_eq_false hz]
  exact ⟨rfl,rfl⟩
theorem fit_never (hl : lawM p = true) (hm : manB p vi = true) (hb : hasB V = false) (hn : (p.vs.getD vi.toNat vz).brks.length = n) (h2 : n = 1 ∨ n = 2) (h0 : ∀ a b,a ≤ b → b ≤ V.length → ofE p vi (tryV V n a b) = 167) : fitE p vi V = 167 ∧ fitP p vi V = planZ := by
 have hz := h0 0 0 (Nat.le_refl _) (Nat.zero_le _)
 have hF := fit_first hl hm hb hn h2 hz
 have hH := head_try (V := V) hn h2
 have hs : seekP p (p.vs.getD vi.toNat vz) V = none := by
  cases hs : seekP p (p.vs.getD vi.toNat vz) V with
  | none => rfl
  | some ps =>
   exfalso
   rw [hs] at hF
   obtain ⟨y1,y2,y3,y4⟩ := hF.yes ps rfl
   rw [hn] at y1
   have key : ∃ a b,ps = ([a,b] : List Nat).take n ∧ a ≤ b ∧ b ≤ V.length := by
    rcases h2 with rfl | rfl
    ·rcases ps with _ | ⟨a,_ | ⟨c,r⟩⟩
     ·simp at y1
     ·exact ⟨a,a,rfl,Nat.le_refl _,y2.2.1⟩
     ·simp at y1
    ·rcases ps with _ | ⟨a,_ | ⟨c,_ | ⟨d,r⟩⟩⟩
     ·simp at y1
     ·simp at y1
     ·exact ⟨a,c,rfl,y2.2.2.1,y2.2.2.2.1⟩
     ·simp at y1
   obtain ⟨a,b,rfl,hab,hbl⟩ := key
   have := h0 a b hab hbl
   rw [ofE_man hm,try_ins hab hbl h2,y3] at this
   cases this
 unfold fitE fitP
 rw [hm,hb,hH,hz,hs]
 exact ⟨rfl,rfl⟩
theorem fit_none (hm : manB p vi = true) (hb : hasB V = false) (hl : lawM p = true) (hn : (p.vs.getD vi.toNat vz).brks.length = 0) : fitE p vi V = ofE p vi V ∧ fitP p vi V = ofP p vi V := by
 have hH : headV p vi V = V := by
  unfold headV
  rw [hn]
  exact setM_ins (V := V) (ps := []) trivial
 by_cases hz : ofE p vi V = 167
 ·obtain ⟨k,hk,hkl⟩ := man_nat (show (decide (0 ≤ vi) && decide (vi < (p.vs.length : Int))) = true from hm)
  have hvo : VehOk p.dims p.time.n (p.vs.getD vi.toNat vz) := veh_ok (law_veh hl (by rw [hk];simpa using hkl))
  have hF : First p (p.vs.getD vi.toNat vz) V (seekP p (p.vs.getD vi.toNat vz) V) := first_is (ps0 := []) hl hvo (hasB_no hb) (by rw [hn];rfl) (by rw [← ofE_man hm];exact hz)
  have hs : seekP p (p.vs.getD vi.toNat vz) V = none := by
   cases hs : seekP p (p.vs.getD vi.toNat vz) V with
   | none => rfl
   | some ps =>
    exfalso
    rw [hs] at hF
    obtain ⟨y1,y2,y3,y4⟩ := hF.yes ps rfl
    rw [hn] at y1
    have : ps = [] := List.eq_nil_of_length_eq_zero y1
    subst this
    rw [ofE_man hm] at hz
    rw [show insB 0 0 [] V = V from rfl,hz] at y3
    cases y3
  unfold fitE fitP
  rw [hm,hb,hH,hz,hs]
  exact ⟨rfl,(ofP_bad (by rw [hz];decide)).symm⟩
 ·unfold fitE fitP
  rw [hm,hb,hH,decide_eq_false hz]
  exact ⟨rfl,rfl⟩
end
end Go.Proofs.Ytndbikoccdjafaa
