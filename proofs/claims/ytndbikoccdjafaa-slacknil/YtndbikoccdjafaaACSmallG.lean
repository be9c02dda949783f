/-
  Several texts in one: CSmall CMatW CChkM.
-/
import Derived.Test.YtndbikoccdjafaaACChkA
namespace Go.Proofs.Ytndbikoccdjafaa
open Go.RowKit
set_option maxHeartbeats 800000 in
theorem below_any (x m : Int) (w : World) : Calls Try.prog 90 #[.int .i64 x, .int .i64 m] w fun e w' => e = .returned (.bool (upB x (m - 1))) ∧ w' = w := by
  by_cases h1 : 0 ≤ x
  · by_cases h2 : x < m
    · rw [upB_yes h1 (by omega)]
      go_enter Try.func90, Try.ntmps90
      go_wp2
      go_ret
      exact ⟨rfl, rfl⟩
    · rw [upB_hi (by omega)]
      go_enter Try.func90, Try.ntmps90
      go_wp2
      go_ret
      exact ⟨rfl, rfl⟩
  · rw [upB_lo h1]
    go_enter Try.func90, Try.ntmps90
    go_wp2
    go_ret
    exact ⟨rfl, rfl⟩
set_option maxHeartbeats 800000 in
theorem up_any (x m : Int) (w : World) : Calls Try.prog 63 #[.int .i64 x, .int .i64 m] w fun e w' => e = .returned (.bool (upB x m)) ∧ w' = w := by
  by_cases h1 : 0 ≤ x
  · by_cases h2 : x ≤ m
    · rw [upB_yes h1 h2]
      go_enter Try.func63, Try.ntmps63
      go_wp2
      go_ret
      exact ⟨rfl, rfl⟩
    · rw [upB_hi h2]
      go_enter Try.func63, Try.ntmps63
      go_wp2
      go_ret
      exact ⟨rfl, rfl⟩
  · rw [upB_lo h1]
    go_enter Try.func63, Try.ntmps63
    go_wp2
    go_ret
    exact ⟨rfl, rfl⟩
set_option maxHeartbeats 800000 in
theorem rwins_any {w : World} {v : Value} {L : List Win} (h : WinsV w v L) : Calls Try.prog 91 #[v] w fun e w' => e = .returned (.bool (winB L)) ∧ Below w.heap.size w w' := by
  obtain ⟨a, c, rfl, _, hA⟩ := h
  obtain ⟨y, hy⟩ : ∃ y, (chk L).1 = y := ⟨_, rfl⟩
  obtain ⟨z, hz⟩ : ∃ z, (chk L).2 = z := ⟨_, rfl⟩
  have HC := hide (rwindows_any (c := c) hA)
  rw [hy, hz] at HC
  unfold winB
  rw [hz]
  have hd : (z == 0) = decide (z = 0) := by by_cases e : z = 0 <;> simp [e]
  clear hA hy hz
  go_enter Try.func91, Try.ntmps91
  go_wp2_with (go_at_call 115; refine HC.out.mono ?_; rintro e w' ⟨rfl, q, hb⟩; have HB := hide hb; clear hb)
  go_ret
  exact ⟨rfl, by rw [HB.out]; exact below_drewN (Below.refl _ _) q⟩
end Go.Proofs.Ytndbikoccdjafaa
namespace Go.Proofs.Ytndbikoccdjafaa
open Go.RowKit
/-- From cell k on. -/
def celF (n : Int) (L : List Int) (k : Nat) : Bool := (List.range' k (L.length - k)).all (fun i => celB n i L[i]!)
theorem celF_all (n : Int) (L : List Int) : (List.range L.length).all (fun i => celB n i L[i]!) = celF n L 0 := by unfold celF; rw [List.range_eq_range', Nat.sub_zero]
theorem celF_step (n : Int) (L : List Int) (k : Nat) (h : k < L.length) : celF n L k = (celB n k L[k]! && celF n L (k + 1)) := by
  unfold celF
  rw [show L.length - k = (L.length - (k + 1)) + 1 by omega, List.range'_succ]
  rfl
theorem celF_end (n : Int) (L : List Int) (k : Nat) (h : ¬ k < L.length) : celF n L k = true := by
  unfold celF
  rw [show L.length - k = 0 by omega]
  rfl
theorem matB_n {n : Int} {m : Mat} (h : ¬ m.n = n) : matB n m = false := by unfold matB; rw [dec_no h]; rfl
theorem matB_l {n : Int} {m : Mat} (h : ¬ (m.cells.length : Int) = n * n) : matB n m = false := by unfold matB; rw [dec_no h]; simp
theorem matB_c {n : Int} {m : Mat} (h : m.n = n) (k : (m.cells.length : Int) = n * n) : matB n m = celF n m.cells 0 := by unfold matB; rw [dec_yes h, dec_yes k, celF_all]; rfl
end Go.Proofs.Ytndbikoccdjafaa
namespace Go.Proofs.Ytndbikoccdjafaa
open Go.RowKit
theorem checkM_eq {p : Prb} {b1 b2 b3 bf b4 b5 b6 : Bool} (h1 : dimB p = b1) (h2 : matB p.time.n p.time = b2) (h3 : matB p.time.n p.dist = b3) (hf : fewB p = bf) (h4 : p.vs.all (vehB p.dims p.time.n) = b4) (h5 : p.js.all (jobB p.dims p.time.n) = b5) (h6 : p.ss.all (shpB p.dims p.time.n) = b6) :
    checkM p = if (b1 && b2 && b3) = false then 2 else if bf = false then 27 else if (b4 && b5 && b6) = false then 2 else 0 := by
  unfold checkM allB
  rw [h1, h2, h3, hf, h4, h5, h6]
theorem dimB_in {p : Prb} (h : dimB p = true) : 1 ≤ p.time.n ∧ p.time.n ≤ 32 ∧ 0 ≤ p.dims ∧ p.dims ≤ 3 := by
  unfold dimB at h
  rw [Bool.and_eq_true] at h
  have h1 := upB_iff.1 h.1
  have h2 := of_decide_eq_true h.2
  omega
theorem few_yes {p : Prb} (h : fewB p = true) : p.vs.length ≤ 4 ∧ p.js.length + p.ss.length ≤ 12 := of_decide_eq_true h
theorem few_no {p : Prb} (h : fewB p = false) : ¬ (p.vs.length ≤ 4 ∧ p.js.length + p.ss.length ≤ 12) := of_decide_eq_false h
/-- The slices of a problem, written out. -/
theorem PrbV.open {w : World} {x : PrbS} {p : Prb} (h : PrbV w x p) : ∃ ta tc da dc va vc ja jc sa sc, x = ⟨.slice ta p.time.cells.length tc, .slice da p.dist.cells.length dc, .slice va p.vs.length vc, .slice ja p.js.length jc, .slice sa p.ss.length sc⟩ := by
  obtain ⟨ta, tc, h1⟩ := h.t.shape
  obtain ⟨da, dc, h2⟩ := h.d.shape
  obtain ⟨va, vc, h3⟩ := SlV.shape h.v
  obtain ⟨ja, jc, h4⟩ := SlV.shape h.j
  obtain ⟨sa, sc, h5⟩ := SlV.shape h.s
  obtain ⟨x1, x2, x3, x4, x5⟩ := x
  simp only at h1 h2 h3 h4 h5
  exact ⟨ta, tc, da, dc, va, vc, ja, jc, sa, sc, by rw [h1, h2, h3, h4, h5]⟩
theorem SlV.bound {α : Type} {z y : Nat} {zero : α} {V : World → List Value → α → Prop} {w : World} {v : Value} {L : List α} (h : SlV z y zero V w v L) : L.length * y ≤ 140737488351232 := by
  obtain ⟨_, _, _, _, h, _⟩ := h
  exact h
theorem IntsV.bound {w : World} {v : Value} {L : List Int} (h : IntsV w v L) : L.length * 8 ≤ 140737488351232 := by
  obtain ⟨_, _, _, _, h, _⟩ := h
  exact h
end Go.Proofs.Ytndbikoccdjafaa
