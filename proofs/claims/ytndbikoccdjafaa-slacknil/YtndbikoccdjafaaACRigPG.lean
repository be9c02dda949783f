/-
  Several texts in one: CRigP CSamW SkT SkR.
-/
import Derived.BigRegion
import Derived.Test.YtndbikoccdjafaaACFst0G
import Derived.Test.YtndbikoccdjafaaACFitHG
import Derived.Test.YtndbikoccdjafaaACFitQ
import Derived.Test.YtndbikoccdjafaaACLoaLG
import Derived.Test.YtndbikoccdjafaaASkQG
import Derived.Test.YtndbikoccdjafaaACLinB
namespace Go.Proofs.Ytndbikoccdjafaa
open Go.RowKit
theorem errV_zero {p : Prb} {v : Veh} {U : List Vst} (h : errV p v U = 0) : wholeM p U = true ∧ restM U v.brks.length = true ∧ lightM p p.dims.toNat v U = true ∧ linkedM p (stopsM p v U) = true ∧ timelyM p.time (stopsM p v U) v.shift.1 = true := by
  unfold errV at h
  cases h1 : wholeM p U <;> cases h2 : restM U v.brks.length <;> cases h3 : ableM p v U <;> cases h4 : smallM v U <;> cases h5 : lightM p p.dims.toNat v U <;> cases h6 : linkedM p (stopsM p v U) <;> cases h7 : timelyM p.time (stopsM p v U) v.shift.1 <;> rw [h1, h2, h3, h4, h5, h6, h7] at h <;> first | exact ⟨rfl, rfl, rfl, rfl, rfl⟩ | (exfalso; revert h; decide)
end Go.Proofs.Ytndbikoccdjafaa
namespace Go.Proofs.Ytndbikoccdjafaa
open Go.RowKit
/-- A plan in memory: steps, each load a row of its own or another step's. -/
def PlanW (w : World) (base : Nat) (v : Value) (pl : PlanT) : Prop := ∃ a n c ys, v = .agg (planC pl.veh (.slice a n c) pl.time pl.dist pl.wait pl.serv pl.cost) ∧ StpR w base base (.slice a n c) pl.steps ys ∧ pl.steps.length = n
theorem PlanW.on {w w' : World} {base : Nat} {v : Value} {pl : PlanT} (h : PlanW w base v pl) (f : Below w.heap.size w w') : PlanW w' base v pl := by
  obtain ⟨a, n, c, ys, e, hr, hn⟩ := h
  exact ⟨a, n, c, ys, e, RowS.on hr (loc_steps base) f, hn⟩
theorem planZ_w (w : World) (base : Nat) : PlanW w base (.agg (planC 0 (.slice none 0 0) 0 0 0 0 0)) planZ := ⟨none, 0, 0, [], rfl, RowS.nil (World.ownsRow_nil w base 45 9), rfl⟩
end Go.Proofs.Ytndbikoccdjafaa
namespace Go.Proofs.Ytndbikoccdjafaa
open Go.RowKit
theorem stpR_read {w : World} {base b2 n c : Nat} {a : Option Addr} {L : List StepT} {ys : List Value} (h : StpR w base b2 (.slice a n c) L ys) (hn : L.length = n) : StpC w a n L := ⟨hn, fun i s hs => by
  obtain ⟨g, y1, yc, e, hg, hc, _⟩ := stp_get h hs
  exact ⟨g, _, e, hg, hc⟩⟩
section
variable {p : Prb} {v : Veh} {U : List Vst}
theorem stg_len : (stgM p v U).length = U.length + 1 := by unfold stgM; rw [List.length_map, List.length_range]
theorem stg_at {i : Nat} (h : i < U.length + 1) : (stgM p v U)[i]? = some (optW (stopsM p v U) i, ((stopsM p v U).getD i sz).serv + travelM p.time (stopsM p v U) (i + 1)) := by
  unfold stgM
  rw [List.getElem?_map, List.getElem?_range h]
  rfl
theorem stg_ok (hl : lawM p = true) (hv : VehOk p.dims p.time.n v) : okG (stgM p v U) := fun s hs L e => by
  unfold stgM at hs
  obtain ⟨i, hi, rfl⟩ := List.mem_map.1 hs
  unfold optW at e
  by_cases h0 : i = 0
  · simp only [if_pos h0] at e; cases e
  · simp only [if_neg h0] at e
    injection e with e
    subst e
    exact (stops_ok hl hv U i).1
theorem plan_len {vi : Int} : (planM p vi v U).steps.length = U.length + 2 := by
  show ((List.range (stopsM p v U).length).map _).length = _
  rw [List.length_map, List.length_range, stopsM_len]
theorem plan_step {vi : Int} {i : Nat} (hi : i < U.length + 2) : (planM p vi v U).steps[i]? = some (stepM p p.dims.toNat v.shift.1 U (stopsM p v U) i) := by
  show ((List.range (stopsM p v U).length).map _)[i]? = _
  rw [stopsM_len, List.getElem?_map, List.getElem?_range hi]
  rfl
theorem rout_plan {k : Nat} {vi : Int} (hl : lawM p = true) (hk : k < p.vs.length) (he : errV p (p.vs.getD k vz) U = 0) (hU : U.length ≤ 38) : Rout p k (planM p vi (p.vs.getD k vz) U).steps (stgM p (p.vs.getD k vz) U) := by
  have hv := veh_ok (law_veh hl hk)
  obtain ⟨v, hvv⟩ : ∃ v, p.vs.getD k vz = v := ⟨_, rfl⟩
  rw [hvv] at he hv ⊢
  obtain ⟨h1, h2, _, h4, _⟩ := errV_zero he
  refine ⟨by rw [plan_len, stg_len], by rw [stg_len]; omega, by rw [stg_len]; omega, stg_ok hl hv, fun i hi => ?_⟩
  rw [hvv]
  rw [stg_len] at hi
  refine ⟨stepM p p.dims.toNat v.shift.1 U (stopsM p v U) i, stepM p p.dims.toNat v.shift.1 U (stopsM p v U) (i + 1), plan_step (by omega), plan_step (by omega), ?_, (stops_ok hl hv U i).2, ?_, ?_, ?_⟩
  · rw [stg_at hi, travelM_succ]
    unfold optW
    by_cases h0 : i = 0
    · rw [if_pos h0, if_pos h0]; rfl
    · obtain ⟨j, rfl⟩ : ∃ j, i = j + 1 := ⟨i - 1, by omega⟩
      obtain ⟨u, hu⟩ : ∃ u, U[j]? = some u := ⟨_, List.getElem?_eq_getElem (by omega)⟩
      rw [if_neg h0, if_neg h0]
      show some (some ((stopsM p v U).getD (j + 1) sz).wins, _) = some (some (winS p v ((pointsM U).getD (j + 1) (0, 0)).1 ((pointsM U).getD (j + 1) (0, 0)).2), _)
      rw [points_at hu]
      have e : ((stopsM p v U).getD (j + 1) sz).wins = winS p v u.1 u.2 := by
        rw [stop_at hu]
        unfold stopW winS
        split <;> rfl
      rw [e]
      rfl
  · show 0 ≤ cellM p.time ((stopsM p v U).getD i sz).place ((stopsM p v U).getD (i + 1) sz).place ∧ cellM p.time ((stopsM p v U).getD i sz).place ((stopsM p v U).getD (i + 1) sz).place ≤ 32000000
    have := (linked_get h4 (j := i + 1) (by omega)).1
    rw [travelM_succ] at this
    exact ⟨this, ((ways_ok hl).mt _ _).2⟩
  · rintro rfl
    refine ⟨rfl, rfl, ?_⟩
    show ((stopsM p v U).getD 0 sz).serv = 0
    rw [stop_zero]
    rfl
  · intro h0
    obtain ⟨j, rfl⟩ : ∃ j, i = j + 1 := ⟨i - 1, by omega⟩
    obtain ⟨u, hu⟩ : ∃ u, U[j]? = some u := ⟨_, List.getElem?_eq_getElem (by omega)⟩
    show (((pointsM U).getD (j + 1) (0, 0)).1 = 4 ∧ ∃ q : Nat, ((pointsM U).getD (j + 1) (0, 0)).2 = q ∧ q < v.brks.length ∧ ((stopsM p v U).getD (j + 1) sz).serv = (v.brks.getD q bz).serv) ∨ (((pointsM U).getD (j + 1) (0, 0)).1 ≠ 4 ∧ thereV p ((pointsM U).getD (j + 1) (0, 0)).1 ((pointsM U).getD (j + 1) (0, 0)).2 = true ∧ ((stopsM p v U).getD (j + 1) sz).serv = (stpM p ((pointsM U).getD (j + 1) (0, 0)).1 ((pointsM U).getD (j + 1) (0, 0)).2).serv)
    rw [points_at hu, stop_at hu]
    unfold stopW
    by_cases h4 : u.1 = 4
    · obtain ⟨q, hq, hq2⟩ := (brkF_in U 0 _ (of_decide_eq_true h2)).2 u (List.mem_of_getElem? hu) h4
      rw [if_pos h4, hq]
      exact .inl ⟨h4, q, rfl, hq2, rfl⟩
    · rw [if_neg h4]
      exact .inr ⟨h4, (((wholeM_iff p U).1 h1).1 j u hu h4).1, rfl⟩
end
end Go.Proofs.Ytndbikoccdjafaa
namespace Go.Proofs.Ytndbikoccdjafaa
open Go.RowKit
def lineR : Prb := ⟨0, lineM, lineM, [⟨0, 0, [], 0, (0, 100), 0, 1, 0, 12, []⟩], [⟨⟨1, 5, [(30, 40)]⟩, [], [], 0, 1⟩, ⟨⟨1, 0, lineW⟩, [], [], 0, 5⟩], []⟩
theorem ints_nil (w : World) : IntsV w (.slice none 0 0) [] := ⟨none, 0, rfl, fun _ => rfl, by decide, fun k hk => absurd hk (Nat.not_lt_zero k)⟩
theorem brks_nil (w : World) : BrksV w (.slice none 0 0) [] := ⟨none, 0, rfl, fun _ => rfl, by decide, fun k hk => by simp at hk⟩
theorem shps_nil (w : World) : ShpsV w (.slice none 0 0) [] := ⟨none, 0, rfl, fun _ => rfl, by decide, fun k hk => by simp at hk⟩
theorem lineR_prb {w : World} {b1 b3 b4 bv bj : Nat} (h4 : w.heap[b4]? = some (.cells #[.int .i64 30, .int .i64 40] 54 (0, 0))) (h1 : w.heap[b1]? = some (.cells #[.int .i64 0, .int .i64 10, .int .i64 10, .int .i64 0] 3 (0, 0))) (h3 : w.heap[b3]? = some (.cells #[.int .i64 0, .int .i64 1000000] 54 (0, 0)))
    (hv : w.heap[bv]? = some (.cells #[.int .i64 0, .int .i64 0, .slice none 0 0, .int .u64 0, .int .i64 0, .int .i64 100, .int .i64 0, .int .i64 1, .int .i64 0, .int .i64 12, .slice none 0 0] 58 (0, 0))) (hj : w.heap[bj]? = some (.cells #[.int .i64 1, .int .i64 5, .slice (some ⟨b4, 0, none⟩) 1 1, .slice none 0 0, .slice none 0 0, .int .u64 0, .int .i64 1, .int .i64 1, .int .i64 0, .slice (some ⟨b3, 0, none⟩) 1 1, .slice none 0 0, .slice none 0 0, .int .u64 0, .int .i64 5] 88 (0, 0))) :
    PrbV w ⟨.slice (some ⟨b1, 0, none⟩) 4 4, .slice (some ⟨b1, 0, none⟩) 4 4, .slice (some ⟨bv, 0, none⟩) 1 1, .slice (some ⟨bj, 0, none⟩) 2 2, .slice none 0 0⟩ lineR := by
  have hI : IntsV w (.slice (some ⟨b1, 0, none⟩) 4 4) [0, 10, 10, 0] := by
    refine ⟨_, 4, rfl, (fun e => by cases e), by decide, fun k hk => ⟨b1, 0, rfl, ?_⟩⟩
    rw [cell_of_row _ _ _ _ _ _ h1]
    have : k = 0 ∨ k = 1 ∨ k = 2 ∨ k = 3 := by simp at hk; omega
    rcases this with rfl | rfl | rfl | rfl <;> rfl
  have hW : WinsV w (.slice (some ⟨b3, 0, none⟩) 1 1) lineW := by
    refine ⟨_, 1, rfl, (fun e => by cases e), rfl, by decide, fun k hk => ⟨b3, 0, rfl, ?_⟩⟩
    have : k = 0 := by simp [lineW] at hk; omega
    subst this
    exact ⟨by rw [cell_of_row _ _ _ _ _ _ h3]; rfl, by rw [cell_of_row _ _ _ _ _ _ h3]; rfl⟩
  have hW4 : WinsV w (.slice (some ⟨b4, 0, none⟩) 1 1) [(30, 40)] := by
    refine ⟨_, 1, rfl, (fun e => by cases e), rfl, by decide, fun k hk => ⟨b4, 0, rfl, ?_⟩⟩
    have : k = 0 := by simp at hk; omega
    subst this
    exact ⟨by rw [cell_of_row _ _ _ _ _ _ h4]; rfl, by rw [cell_of_row _ _ _ _ _ _ h4]; rfl⟩
  have wd0 : Wd 0 := ⟨by decide, by decide⟩
  refine ⟨hI, hI, ?_, ?_, shps_nil w⟩
  · refine ⟨_, 1, rfl, (fun e => by cases e), by decide, fun k hk => ?_⟩
    have : k = 0 := by simp [lineR] at hk; omega
    subst this
    refine ⟨bv, 0, vehE ⟨0, 0, [], 0, (0, 100), 0, 1, 0, 12, []⟩ (.slice none 0 0) (.slice none 0 0), rfl, rfl, fun j hj => ?_, ⟨_, _, rfl, ints_nil w, brks_nil w, wd0⟩⟩
    rw [cell_of_row _ _ _ _ _ _ hv]
    simp [vehE]
  · refine ⟨_, 2, rfl, (fun e => by cases e), by decide, fun k hk => ?_⟩
    have : k = 0 ∨ k = 1 := by simp [lineR] at hk; omega
    rcases this with rfl | rfl
    · refine ⟨bj, 0, jobE ⟨⟨1, 5, [(30, 40)]⟩, [], [], 0, 1⟩ (.slice (some ⟨b4, 0, none⟩) 1 1) (.slice none 0 0) (.slice none 0 0), rfl, rfl, fun j hj2 => ?_, ⟨_, _, _, rfl, hW4, ints_nil w, ints_nil w, wd0⟩⟩
      rw [cell_of_row _ _ _ _ _ _ hj]
      have : j = 0 ∨ j = 1 ∨ j = 2 ∨ j = 3 ∨ j = 4 ∨ j = 5 ∨ j = 6 := by omega
      rcases this with rfl | rfl | rfl | rfl | rfl | rfl | rfl <;> rfl
    · refine ⟨bj, 0, jobE ⟨⟨1, 0, lineW⟩, [], [], 0, 5⟩ (.slice (some ⟨b3, 0, none⟩) 1 1) (.slice none 0 0) (.slice none 0 0), rfl, rfl, fun j hj2 => ?_, ⟨_, _, _, rfl, hW, ints_nil w, ints_nil w, wd0⟩⟩
      rw [cell_of_row _ _ _ _ _ _ hj]
      have : j = 0 ∨ j = 1 ∨ j = 2 ∨ j = 3 ∨ j = 4 ∨ j = 5 ∨ j = 6 := by omega
      rcases this with rfl | rfl | rfl | rfl | rfl | rfl | rfl <;> rfl
theorem lineR_law : lawM lineR = true := by kernel_rfl
theorem lineR_e : fitE lineR 0 [(1, 0)] = 0 := by kernel_rfl
theorem lineR_err : errV lineR (lineR.vs.getD 0 vz) [(1, 0)] = 0 := by kernel_rfl
theorem lineR_p : fitP lineR 0 [(1, 0)] = planM lineR 0 (lineR.vs.getD 0 vz) [(1, 0)] := by kernel_rfl
theorem lineR_late : latG (lineR.vs.getD 0 vz).shift.2 (stgM lineR (lineR.vs.getD 0 vz) [(1, 0)]) = some [30, 40, 100] := by kernel_rfl
theorem lineR_end : endG (lineR.vs.getD 0 vz).shift.2 ((stgM lineR (lineR.vs.getD 0 vz) [(1, 0)]).drop 1) 40 = some 55 := by kernel_rfl
theorem lineR_len : (planM lineR 0 (lineR.vs.getD 0 vz) [(1, 0)]).steps.length = 3 := by kernel_rfl
end Go.Proofs.Ytndbikoccdjafaa
