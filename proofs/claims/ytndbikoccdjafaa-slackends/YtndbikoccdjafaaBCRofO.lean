/-
  What the call of the document's Of does, whatever the vehicle.
-/
import Derived.Test.YtndbikoccdjafaaBCRof
import Derived.Test.YtndbikoccdjafaaBCHCallG
namespace Go.Proofs.Ytndbikoccdjafaa
open Go.RowKit
set_option maxRecDepth 100000 in
set_option maxHeartbeats 6400000 in
theorem rof_out {w : World} {x : PrbS} {p : Prb} {vi : Int} {m vc : Nat} {va : Option Addr} (h : PrbV w x p) (ho : manB p vi = false) : Calls Try.prog 56 #[.agg (prbE p x),.int .i64 vi,.slice va m vc] w (OfQ w 160 planZ) := by
 have hbd := SlV.bound h.v
 obtain ⟨ta,tc,da,dc,va',vc',ja,jc,sa,sc,rfl⟩ := h.open
 clear h
 obtain ⟨nv,hnv⟩ : ∃ z,p.vs.length = z := ⟨_,rfl⟩
 have HPE : Hid (prbE p ⟨.slice ta p.time.cells.length tc,.slice da p.dist.cells.length dc,.slice va' p.vs.length vc',.slice ja p.js.length jc,.slice sa p.ss.length sc⟩ = #[.int .i64 p.dims,.int .i64 p.time.n,.slice ta p.time.cells.length tc,.int .i64 p.dist.n,.slice da p.dist.cells.length dc,.slice va' nv vc',.slice ja p.js.length jc,.slice sa p.ss.length sc]) := by show _ = _;rw [← hnv];rfl
 unfold manB at ho
 rw [hnv] at ho
 rw [HPE.out]
 clear hnv hbd
 have HB0 : Hid (∀ A B,Below w.heap.size w ((w.alloc A).alloc B)) := fun A B => ((Below.refl _ _).alloc (Nat.le_refl _) A).alloc (by simp) B
 by_cases h0 : vi < 0
 ·clear ho
  go_enter Try.func56,Try.ntmps56
  go_wp2_with fail
  refine bodyPost_ret (v := .tuple #[.agg #[.int .i64 0,.slice none 0 0,.int .i64 0,.int .i64 0,.int .i64 0,.int .i64 0,.int .i64 0],.int .i64 160]) ?_ rfl (OfQ.bad ⟨rfl,rfl⟩ ?_)
  ·simp [results,Try.results56,go_sem, *]
  ·repeat (first | (with_reducible exact HB0.out _ _) | (with_reducible refine Below.setCell ?_ (by simp) _) | (with_reducible refine Below.drew ?_))
 ·have h1 : (nv : Int) ≤ vi := by
   have e : decide (0 ≤ vi) = true := decide_eq_true (by omega)
   rw [e,Bool.true_and] at ho
   have := of_decide_eq_false ho
   omega
  have h2 : ¬ vi < (nv : Int) := by omega
  clear ho
  go_enter Try.func56,Try.ntmps56
  go_wp2_with fail
  refine bodyPost_ret (v := .tuple #[.agg #[.int .i64 0,.slice none 0 0,.int .i64 0,.int .i64 0,.int .i64 0,.int .i64 0,.int .i64 0],.int .i64 160]) ?_ rfl (OfQ.bad ⟨rfl,rfl⟩ ?_)
  ·simp [results,Try.results56,go_sem, *]
  ·repeat (first | (with_reducible exact HB0.out _ _) | (with_reducible refine Below.setCell ?_ (by simp) _) | (with_reducible refine Below.drew ?_))
theorem rof_any' {w : World} {x : PrbS} {p : Prb} {vi : Int} {m vc : Nat} {va : Option Addr} {V : List Vst} (h : PrbV w x p) (hl : lawM p = true) (hV : VsV w (.slice va m vc) V) (hm : V.length = m) (hm2 : m ≤ 100) : Calls Try.prog 56 #[.agg (prbE p x),.int .i64 vi,.slice va m vc] w (OfQ w (ofE p vi V) (ofP p vi V)) := by
 cases ho : manB p vi with
 | false =>
  have e : ofE p vi V = 160 := by unfold ofE;rw [up_man];unfold manB at ho;rw [ho];rfl
  rw [ofP_bad (by rw [e];decide),e]
  exact rof_out h ho
 | true =>
  obtain ⟨k,rfl,hk⟩ := man_nat (show (decide (0 ≤ vi) && decide (vi < (p.vs.length : Int))) = true from ho)
  have e : ofE p (k : Int) V = errV p (p.vs.getD k vz) V := by unfold ofE;rw [up_man];unfold manB at ho;rw [ho];rfl
  have h9 := rof_in h hl hk hV hm hm2
  have e2 : ofP p (k : Int) V = (bif decide (errV p (p.vs.getD k vz) V = 0) then planM p k (p.vs.getD k vz) V else planZ) := by unfold ofP;rw [e];rfl
  rw [e2,e]
  exact h9
end Go.Proofs.Ytndbikoccdjafaa
