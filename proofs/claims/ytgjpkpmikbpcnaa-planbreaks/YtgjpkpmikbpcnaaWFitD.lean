/-
  Plain: the places of breaks tried one behind the other, by the document's words.
-/
import Derived.Test.YtgjpkpmikbpcnaaWFitH
import Derived.Test.YtgjpkpmikbpcnaaWSet0
namespace Go.Proofs.Ytgjpkpmikbpcnaa
open Go.RowKit
theorem ofE_man {p : Prb} {vi : Int} (h : manB p vi = true) (V : List Vst) : ofE p vi V = errV p (p.vs.getD vi.toNat vz) V := by
 unfold ofE
 rw [up_man]
 unfold manB at h
 rw [h]
 rfl
section
variable {p : Prb} {vi : Int} {V : List Vst} {n : Nat}
theorem fit_none (hm : manB p vi = true) (hb : hasB V = false) (hl : lawM p = true) (hn : (p.vs.getD vi.toNat vz).brks.length = 0) : fitE p vi V = ofE p vi V ∧ fitP p vi V = ofP p vi V := by
 have hH : headV p vi V = V := by
  unfold headV
  rw [hn]
  exact setM_ins (V := V) (ps := []) trivial
 by_cases hz : ofE p vi V = 167
 ·obtain ⟨k,hk,hkl⟩ := man_nat (show (decide (0 ≤ vi) && decide (vi < (p.vs.length : Int))) = true from hm)
  have hvo : VehOk p.dims p.time.n (p.vs.getD vi.toNat vz) := veh_ok (law_veh hl (by rw [hk];simpa using hkl))
  have hF : First p (p.vs.getD vi.toNat vz) V (seekP p (p.vs.getD vi.toNat vz) V) := first_is (ps0 := []) hl hvo (hasB_no hb) (by rw [hn];rfl) (by rw [← ofE_man hm];exact hz)
  have hs : seekP p (p.vs.getD vi.toNat vz) V = none := by
   cases hs : seekP p (p.vs.getD vi.toNat vz) V with
   | none => rfl
   | some ps =>
    exfalso
    rw [hs] at hF
    obtain ⟨y1,y2,y3,y4⟩ := hF.yes ps rfl
    rw [hn] at y1
    have : ps = [] := List.eq_nil_of_length_eq_zero y1
    subst this
    rw [ofE_man hm] at hz
    rw [show insB 0 0 [] V = V from rfl,hz] at y3
    cases y3
  unfold fitE fitP
  rw [hm,hb,hH,hz,hs]
  exact ⟨rfl,(ofP_bad (by rw [hz];decide)).symm⟩
 ·unfold fitE fitP
  rw [hm,hb,hH,decide_eq_false hz]
  exact ⟨rfl,rfl⟩
end
end Go.Proofs.Ytgjpkpmikbpcnaa
