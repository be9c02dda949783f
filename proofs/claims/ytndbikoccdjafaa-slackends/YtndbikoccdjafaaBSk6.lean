/-
  slack.last 36: the last time at or ahead of a time at which a step may begin; the start may at any time.
-/
import Derived.BigRegion
import Derived.Test.YtndbikoccdjafaaBSk4
import Derived.Test.YtndbikoccdjafaaBSk3
import Derived.Test.YtndbikoccdjafaaBCHCallG
import Derived.Test.YtndbikoccdjafaaBCFst0G
namespace Go.Proofs.Ytndbikoccdjafaa
open Go.RowKit
set_option maxRecDepth 100000 in
set_option maxHeartbeats 6400000 in
theorem last_any {w : World} {x : PrbS} {p : Prb} {k n i : Nat} {a : Option Addr} {L : List StepT} {G : List Stg} (h : SlkV w x p k a n L G) (hi : i < G.length) (c : Nat) (tm ds wt sv co t : Int) : ∃ st,G[i]? = some st ∧ Calls Try.prog 36 #[.agg (prbE p x),.agg (planC k (.slice a n c) tm ds wt sv co),.int .i64 i,.int .i64 t] w fun e w' => e = .returned (.tuple #[.int .i64 (lstG st.1 t).1,.bool (lstG st.1 t).2]) ∧ Below w.heap.size w w' := by
 have HV := hide h
 obtain ⟨ta,tc,da,dc,va,vc,ja,jc,sa,sc,rfl⟩ := h.prb.open
 by_cases h0 : i = 0
 ·subst h0
  obtain ⟨s,t9,_,_,hG,_⟩ := h.rt.step 0 hi
  rw [if_pos rfl] at hG
  refine ⟨_,hG,?_⟩
  show Calls Try.prog 36 _ _ fun e w' => e = .returned (.tuple #[.int .i64 t,.bool true]) ∧ _
  clear h HV hG
  unfold prbE planC
  have HA : Hid (∀ A B,Below w.heap.size w ((w.alloc A).alloc B)) := fun A B => ((Below.refl _ _).alloc (Nat.le_refl _) A).alloc (by simp) B
  go_enter Try.func36,Try.ntmps36
  go_wp2
  go_ret2
  exact ⟨rfl,HA.out _ _⟩
 ·obtain ⟨s,t9,hs,ht,hG,hc⟩ := windows_any h h0 hi c tm ds wt sv co
  refine ⟨_,hG,?_⟩
  obtain ⟨LW,hLW⟩ : ∃ z,winS p (p.vs.getD k vz) s.kind s.item = z := ⟨_,rfl⟩
  show Calls Try.prog 36 _ _ fun e w' => e = .returned (.tuple #[.int .i64 (Hr.lastM t (winS p (p.vs.getD k vz) s.kind s.item)).1,.bool (Hr.lastM t (winS p (p.vs.getD k vz) s.kind s.item)).2]) ∧ _
  rw [hLW]
  have H59 : Hid (∀ W2,Below w.heap.size w W2 → Calls Try.prog 59 #[.agg #[.int .i64 p.dims,.int .i64 p.time.n,.slice ta p.time.cells.length tc,.int .i64 p.dist.n,.slice da p.dist.cells.length dc,.slice va p.vs.length vc,.slice ja p.js.length jc,.slice sa p.ss.length sc],.agg #[.int .i64 (k : Int),.slice a n c,.int .i64 tm,.int .i64 ds,.int .i64 wt,.int .i64 sv,.int .i64 co],.int .i64 (i : Int)] W2 fun e w' => ∃ ya yc,e = .returned (.slice ya LW.length yc) ∧ Hr.WinsAt w' ya LW.length LW ∧ Below W2.heap.size W2 w') := fun W2 hf => by
   obtain ⟨s1,t1,hs1,_,_,hc1⟩ := windows_any (HV.out.on hf) h0 hi c tm ds wt sv co
   rw [hs] at hs1
   injection hs1 with hs1
   subst hs1
   rw [hLW] at hc1
   refine hc1.mono ?_
   rintro e w' ⟨y,rfl,⟨ya,yc,rfl,_,hA⟩,k9⟩
   exact ⟨ya,yc,rfl,hr_wins hA,k9⟩
  have HST : Hid (∀ W2 ya yc,Hr.WinsAt W2 ya LW.length LW → Calls Try.prog 58 #[.slice ya LW.length yc,.int .i64 t] W2 fun e w' => e = .returned (.tuple #[.int .i64 (Hr.lastM t LW).1,.bool (Hr.lastM t LW).2]) ∧ Below W2.heap.size W2 w') := fun W2 ya yc hw => Hr.last_any t hw
  obtain ⟨r1,hr1⟩ : ∃ z,(Hr.lastM t LW).1 = z := ⟨_,rfl⟩
  obtain ⟨r2,hr2⟩ : ∃ z,(Hr.lastM t LW).2 = z := ⟨_,rfl⟩
  rw [hr1,hr2] at HST ⊢
  obtain ⟨lw,hlw⟩ : ∃ z,LW.length = z := ⟨_,rfl⟩
  rw [hlw] at HST H59
  clear h hc hs ht hG HV hr1 hr2
  unfold prbE planC
  have i1 : ((i : Int) == 0) = false := by simp;omega
  have i2 : ¬ (i : Int) = 0 := by omega
  have HA : Hid (∀ A B,Below w.heap.size w ((w.alloc A).alloc B)) := fun A B => ((Below.refl _ _).alloc (Nat.le_refl _) A).alloc (by simp) B
  go_enter Try.func36,Try.ntmps36
  go_wp2_with (first | (go_at_call 58;refine (HST.out _ _ _ HWY.out).mono ?_;rintro e w3 ⟨rfl,kk⟩;have E3 := hide (below_on E2.out kk);clear kk) | (go_at_call 59;refine (H59.out _ (HA.out _ _)).mono ?_;rintro e w2 ⟨ya,yc,rfl,hwy,kk⟩;have E2 := hide (below_on (HA.out _ _) kk);have HWY := hide hwy;clear kk hwy) | fail)
  go_ret2
  exact ⟨rfl,E3.out⟩
end Go.Proofs.Ytndbikoccdjafaa
