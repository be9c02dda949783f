/-
  Several texts in one: CHCall COfA COfW CSetW.
-/
import Derived.Deep.RegionHeld3
import Derived.DeepKeys4
import Derived.Maps.OwnSet
import Derived.Maps.RangeWalk
import Derived.WideKeyEntry
import Derived.Deep.CutRange
import Derived.Test.YtndbikoccdjafaaACMem
import Derived.Test.YtndbikoccdjafaaACCarAG
import Derived.Test.YtndbikoccdjafaaACArg
import Derived.Test.YtndbikoccdjafaaACAsk
import Derived.Test.YtndbikoccdjafaaACPlnAG
import Derived.Test.YtndbikoccdjafaaACLdsG
import Derived.Test.YtndbikoccdjafaaACPln0
import Derived.Test.YtndbikoccdjafaaACVrwG
namespace Go.Proofs.Ytndbikoccdjafaa
open Go.RowKit
theorem held_call {P : Program} {ops : Array Oper} {o : Oper} {a : Act} {w : World} {K : Act → World → Prop} {Q : Exit → Act → World → Prop} {E : Prop}
    (hw : Region.wanted o (yielded ops a.tmps) = true) (f : FuncId) (xs : Array Operand) (ts : Array TypeId) (hop : o.op = Op.call { callee := Callee.value (Operand.func f), args := xs, argTypes := ts })
    (hent : ∀ args w, (callFunc f args).run P w = .ok (.enter f args) w) (vs : List Value) (hx : xs.toList.map a.eval = vs)
    (H : Calls P f vs.toArray w fun e w' => ∃ v, e = .returned v ∧ K (a.put o.dst v) w') :
    if Region.wanted o (yielded ops a.tmps) = true then Oper.wp P o a w K Q else E := by
  rw [if_pos hw]
  have he : (execOp a.eval o).run P w = .ok (.enter f vs.toArray) w := by
    have hx' : xs.map a.eval = vs.toArray := by rw [← hx]; apply Array.ext'; simp
    rw [← hx']
    simp [execOp, hop, resolve, invoke, hent, go_sem]
  unfold Oper.wp
  rw [he, Oper.upon_enter]
  refine H.mono ?_
  rintro e w' ⟨v, rfl, hR⟩
  exact hR
end Go.Proofs.Ytndbikoccdjafaa
namespace Go.Proofs.Ytndbikoccdjafaa
open Go.RowKit
theorem up_man (p : Prb) (vi : Int) : upB vi ((p.vs.length : Int) - 1) = (decide (0 ≤ vi) && decide (vi < (p.vs.length : Int))) := by
  unfold upB
  by_cases h1 : 0 ≤ vi
  · by_cases h2 : vi < (p.vs.length : Int)
    · simp [h1, h2]; omega
    · simp [h1, h2]; omega
  · simp [h1]
theorem ofP_bad {p : Prb} {vi : Int} {V : List Vst} (h : ofE p vi V ≠ 0) : ofP p vi V = planZ := by unfold ofP; rw [decide_eq_false h]; rfl
theorem brkF_in : ∀ (V : List Vst) (n q : Nat), brkF n V = some q → n ≤ q ∧ ∀ u ∈ V, u.1 = 4 → ∃ j : Nat, u.2 = j ∧ j < q
  | [], n, q, h => by simp [brkF] at h; exact ⟨by omega, fun u hu => by simp at hu⟩
  | v :: V, n, q, h => by
    unfold brkF at h
    split at h
    · split at h
      · obtain ⟨h1, h2⟩ := brkF_in V (n + 1) q h
        refine ⟨by omega, fun u hu h4 => ?_⟩
        rcases List.mem_cons.1 hu with rfl | hu
        · exact ⟨n, by assumption, by omega⟩
        · exact h2 u hu h4
      · cases h
    · obtain ⟨h1, h2⟩ := brkF_in V n q h
      refine ⟨h1, fun u hu h4 => ?_⟩
      rcases List.mem_cons.1 hu with rfl | hu
      · exact absurd h4 (by assumption)
      · exact h2 u hu h4
theorem man_nat {p : Prb} {vi : Int} (h : (decide (0 ≤ vi) && decide (vi < (p.vs.length : Int))) = true) : ∃ k : Nat, vi = k ∧ k < p.vs.length := by
  simp at h
  exact ⟨vi.toNat, by omega, by omega⟩
end Go.Proofs.Ytndbikoccdjafaa
namespace Go.Proofs.Ytndbikoccdjafaa
open Go.RowKit
theorem frz_row {w : World} {b : Nat} {A : Array Value} {t j : Nat} (h : w.heap[b]? = some (.cells A t)) : w.frozen? ⟨b, j, none⟩ = false := by
  unfold World.frozen?
  simp [h]
end Go.Proofs.Ytndbikoccdjafaa
namespace Go.Proofs.Ytndbikoccdjafaa
open Go.RowKit
/-- The visits from s on, with the breaks i, i + 1, .. set in: each behind so many visits as A says, at least s and no more than there are. -/
def clampM (n : Int) (s l : Nat) : Nat := if n ≤ (s : Int) then s else if n ≤ (l : Int) then n.toNat else l
def setF (V : List Vst) : Nat → Nat → List Int → List Vst
  | _, s, [] => V.drop s
  | i, s, n :: A => (V.drop s).take (clampM n s V.length - s) ++ ((4, (i : Int)) :: setF V (i + 1) (clampM n s V.length) A)
def setM (V : List Vst) (A : List Int) : List Vst := setF V 0 0 A
theorem clamp_ok {n : Int} {s l : Nat} (h : s ≤ l) : s ≤ clampM n s l ∧ clampM n s l ≤ l := by
  unfold clampM
  split
  · omega
  · split <;> omega
theorem setF_len (V : List Vst) : ∀ (A : List Int) (i s : Nat), s ≤ V.length → (setF V i s A).length = V.length - s + A.length
  | [], i, s, h => by simp [setF]
  | n :: A, i, s, h => by
    have hc := clamp_ok (n := n) h
    simp only [setF, List.length_append, List.length_cons, List.length_take, List.length_drop]
    rw [setF_len V A (i + 1) _ hc.2]
    omega
theorem setM_len (V : List Vst) (A : List Int) : (setM V A).length = V.length + A.length := by unfold setM; rw [setF_len V A 0 0 (Nat.zero_le _)]; omega
end Go.Proofs.Ytndbikoccdjafaa
