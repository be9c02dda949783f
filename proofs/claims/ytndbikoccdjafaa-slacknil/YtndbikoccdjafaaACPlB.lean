/-
  Plain bounds: times, ways and sums of plans of lawful problems.
-/
import Derived.Test.YtndbikoccdjafaaACPlP
import Derived.Test.YtndbikoccdjafaaACPlnAG
namespace Go.Proofs.Ytndbikoccdjafaa
theorem winB_ok {L : List Win} (h : winB L = true) : 1 ≤ L.length ∧ L.length ≤ 4 ∧ Lw L := chk_ok (of_decide_eq_true h)
theorem upB_ok {x m : Int} (h : upB x m = true) : 0 ≤ x ∧ x ≤ m := of_decide_eq_true h
theorem law_veh {p : Prb} (h : lawM p = true) {k : Nat} (hk : k < p.vs.length) : vehB p.dims p.time.n (p.vs.getD k vz) = true := by
  obtain ⟨_, _, _, _, h5⟩ := lawM_ok h
  unfold allB at h5
  simp only [Bool.and_eq_true] at h5
  exact List.all_eq_true.1 h5.1.1 _ (getD_mem _ _ _ hk)
/-- What a lawful vehicle keeps. -/
structure VehOk (d n : Int) (v : Veh) : Prop where
  start : 0 ≤ v.start ∧ v.start ≤ n - 1
  stop : 0 ≤ v.stop ∧ v.stop ≤ n - 1
  cap : amtB v.cap d = true
  skills : v.skills < 4611686018427387904
  shift : 0 ≤ v.shift.1 ∧ v.shift.1 ≤ v.shift.2 ∧ v.shift.2 ≤ 1000000
  fixed : 0 ≤ v.fixed ∧ v.fixed ≤ 1000000
  perT : 0 ≤ v.perT ∧ v.perT ≤ 1000000
  perD : 0 ≤ v.perD ∧ v.perD ≤ 1000000
  maxT : 0 ≤ v.maxT ∧ v.maxT ≤ 12
  two : v.brks.length ≤ 2
  brks : ∀ b ∈ v.brks, 1 ≤ b.wins.length ∧ b.wins.length ≤ 4 ∧ Lw b.wins ∧ 0 ≤ b.serv ∧ b.serv ≤ 1000000
theorem veh_ok {d n : Int} {v : Veh} (h : vehB d n v = true) : VehOk d n v := by
  unfold vehB at h
  simp only [Bool.and_eq_true] at h
  obtain ⟨⟨⟨⟨⟨⟨⟨⟨⟨⟨h1, h2⟩, h3⟩, h4⟩, h5⟩, h6⟩, h7⟩, h8⟩, h9⟩, h10⟩, h11⟩ := h
  have hs := (winB_ok h5).2.2.1 v.shift (by simp)
  refine ⟨upB_ok h1, upB_ok h2, h3, of_decide_eq_true h4, ⟨hs.2.1, hs.1, hs.2.2⟩, upB_ok h6, upB_ok h7, upB_ok h8, upB_ok h9, of_decide_eq_true h10, fun b hb => ?_⟩
  have := List.all_eq_true.1 h11 b hb
  unfold brkB at this
  simp only [Bool.and_eq_true] at this
  have h1 := winB_ok this.1
  have h2 := upB_ok this.2
  exact ⟨h1.1, h1.2.1, h1.2.2, h2.1, h2.2⟩
def StpOk (s : Stp) : Prop := Lw s.wins ∧ 0 ≤ s.serv ∧ s.serv ≤ 1000000
theorem lw_nil : Lw [] := ⟨fun _ h => by simp at h, List.Pairwise.nil⟩
theorem stpOk_z : StpOk sz := ⟨lw_nil, by decide, by decide⟩
theorem stpB_ok {n : Int} {s : Stp} (h : stpB n s = true) : StpOk s ∧ 1 ≤ s.wins.length ∧ 0 ≤ s.place ∧ s.place ≤ n - 1 := by
  unfold stpB at h
  simp only [Bool.and_eq_true] at h
  have h1 := upB_ok h.1.1
  have h2 := upB_ok h.1.2
  have h3 := winB_ok h.2
  exact ⟨⟨h3.2.2, h2⟩, h3.1, h1⟩
theorem stpM_ok {p : Prb} (h : lawM p = true) (k i : Int) : StpOk (stpM p k i) := by
  cases ht : thereV p k i with
  | false => rw [stpM_no ht]; exact stpOk_z
  | true =>
    rcases thereV_cases ht with ⟨_, j, _, hj, e⟩ | ⟨_, j, _, hj, e⟩ | ⟨_, j, _, hj, e⟩ <;> rw [e]
    · have := law_job h hj
      unfold jobB at this
      simp only [Bool.and_eq_true] at this
      exact (stpB_ok this.1.1.1.1).1
    · have := law_shp h hj
      unfold shpB at this
      simp only [Bool.and_eq_true] at this
      exact (stpB_ok this.1.1.1.1).1
    · have := law_shp h hj
      unfold shpB at this
      simp only [Bool.and_eq_true] at this
      exact (stpB_ok this.1.1.1.2).1
section
variable {p : Prb} {v : Veh} {d n : Int}
theorem brk_ok (hv : VehOk d n v) (i : Nat) : Lw (v.brks.getD i bz).wins ∧ 0 ≤ (v.brks.getD i bz).serv ∧ (v.brks.getD i bz).serv ≤ 1000000 := by
  by_cases hi : i < v.brks.length
  · have := hv.brks _ (getD_mem v.brks bz i hi)
    exact ⟨this.2.2.1, this.2.2.2⟩
  · rw [List.getD_eq_getElem?_getD, List.getElem?_eq_none (by omega)]
    exact ⟨lw_nil, by decide, by decide⟩
theorem endS_ok (hv : VehOk d n v) (x : Int) : StpOk (endS v x) := by
  refine ⟨⟨fun w hw => ?_, by simp [endS]⟩, by simp [endS], by simp [endS]⟩
  simp [endS] at hw
  subst hw
  have := hv.shift
  omega
theorem stopW_ok (hl : lawM p = true) (hv : VehOk d n v) (was : Int) (u : Vst) : StpOk (stopW p v was u) := by
  unfold stopW
  split
  · exact brk_ok hv _
  · exact stpM_ok hl _ _
theorem stops_ok (hl : lawM p = true) (hv : VehOk d n v) (V : List Vst) (i : Nat) : StpOk ((stopsM p v V).getD i sz) := by
  rcases Nat.lt_trichotomy i (V.length + 1) with h | h | h
  · cases i with
    | zero => rw [stop_zero]; exact endS_ok hv _
    | succ i => rw [stop_at (List.getElem?_eq_getElem (show i < V.length by omega))]; exact stopW_ok hl hv _ _
  · subst h; rw [stop_end]; exact endS_ok hv _
  · rw [List.getD_eq_getElem?_getD, List.getElem?_eq_none (by rw [stopsM_len]; omega)]; exact stpOk_z
end
theorem cell_ok {n : Int} {m : Mat} (h : matB n m = true) (hm : SqM m) (f t : Int) : -1 ≤ cellM m f t ∧ cellM m f t ≤ 32000000 := by
  unfold cellM
  split
  · rename_i hb
    simp only [Bool.and_eq_true] at hb
    have h1 := upB_ok hb.1
    have h2 := upB_ok hb.2
    obtain ⟨k1, k2, k3⟩ := hm
    unfold matB at h
    simp only [Bool.and_eq_true] at h
    have hn : m.n = n := of_decide_eq_true h.1.1
    have e0 : f * m.n + t < m.n * m.n := by
      have : f * m.n ≤ (m.n - 1) * m.n := Int.mul_le_mul_of_nonneg_right h1.2 (by omega)
      rw [Int.sub_mul] at this
      omega
    have e1 : 0 ≤ f * m.n := Int.mul_nonneg h1.1 (by omega)
    have hi : (f * m.n + t).toNat < m.cells.length := by omega
    have := List.all_eq_true.1 h.2 _ (List.mem_range.2 hi)
    unfold celB at this
    simp only [Bool.and_eq_true] at this
    exact of_decide_eq_true this.1
  · omega
theorem start_ok {L : List Win} (h : Lw L) (t : Int) : 0 ≤ (Hr.startM t L).1 ∧ (Hr.startM t L).1 ≤ 1000000 := by
  rcases Hr.startM_is t L h with ⟨_, _, ⟨w, hw, h1, h2⟩, _⟩ | ⟨e, _⟩
  · have := h.1 w hw; omega
  · rw [e]; decide
/-- What a lawful problem's ways keep. -/
structure WaysOk (p : Prb) : Prop where
  st : SqM p.time
  sd : SqM p.dist
  mt : ∀ f t, -1 ≤ cellM p.time f t ∧ cellM p.time f t ≤ 32000000
  md : ∀ f t, -1 ≤ cellM p.dist f t ∧ cellM p.dist f t ≤ 32000000
  dim : 0 ≤ p.dims ∧ p.dims ≤ 3
  vs : p.vs.length ≤ 4
  ts : p.js.length + p.ss.length ≤ 12
theorem ways_ok {p : Prb} (h : lawM p = true) : WaysOk p := by
  obtain ⟨h1, h2, h3, h4, _⟩ := lawM_ok h
  unfold dimB at h1
  simp only [Bool.and_eq_true] at h1
  have hd := upB_ok h1.1
  have hn : 1 ≤ p.time.n ∧ p.time.n ≤ 32 := of_decide_eq_true h1.2
  have s1 := sq_of_mat h2 hn.1 hn.2
  have s2 := sq_of_mat h3 hn.1 hn.2
  have hf := of_decide_eq_true h4
  exact ⟨s1, s2, cell_ok h2 s1, cell_ok h3 s2, hd, hf.1, hf.2⟩
theorem travel_ok {m : Mat} (h : ∀ f t, -1 ≤ cellM m f t ∧ cellM m f t ≤ 32000000) (S : List Stp) (i : Nat) : -1 ≤ travelM m S i ∧ travelM m S i ≤ 32000000 := by
  unfold travelM
  split
  · omega
  · exact h _ _
section
variable {m : Mat} {S : List Stp} {f : Int}
theorem lf_ok (hS : ∀ i, StpOk (S.getD i sz)) (hf : 0 ≤ f ∧ f ≤ 1000000) : ∀ i, 0 ≤ lfM m S f i ∧ lfM m S f i ≤ 2000000
  | 0 => by show 0 ≤ f ∧ f ≤ 2000000; omega
  | i + 1 => by
    rw [lfM_succ]
    have h1 := hS i
    have h2 := start_ok h1.1 (arrM m S f i)
    have h3 := h1.2
    unfold begM
    omega
theorem arr_ok (hm : ∀ f t, -1 ≤ cellM m f t ∧ cellM m f t ≤ 32000000) (hS : ∀ i, StpOk (S.getD i sz)) (hf : 0 ≤ f ∧ f ≤ 1000000) (i : Nat) : -1 ≤ arrM m S f i ∧ arrM m S f i ≤ 34000000 := by
  have h1 := lf_ok (m := m) hS hf i
  have h2 := travel_ok hm S i
  unfold arrM
  omega
theorem beg_ok (hS : ∀ i, StpOk (S.getD i sz)) (i : Nat) : 0 ≤ (begM m S f i).1 ∧ (begM m S f i).1 ≤ 1000000 := start_ok (hS i).1 _
theorem wait_ok (hm : ∀ f t, -1 ≤ cellM m f t ∧ cellM m f t ≤ 32000000) (hS : ∀ i, StpOk (S.getD i sz)) (hf : 0 ≤ f ∧ f ≤ 1000000) (i : Nat) : -34000000 ≤ waitM m S f i ∧ waitM m S f i ≤ 34000000 := by
  have h1 := arr_ok hm hS hf i
  have h2 := beg_ok (m := m) (f := f) hS i
  unfold waitM
  omega
theorem sumT_ok (hm : ∀ f t, -1 ≤ cellM m f t ∧ cellM m f t ≤ 32000000) (k : Nat) (hk : k ≤ 110) : -110 ≤ sumN (travelM m S) k ∧ sumN (travelM m S) k ≤ 3520000000 := by
  have := sumN_le (f := travelM m S) (l := -1) (u := 32000000) k fun i _ => travel_ok hm S i
  omega
theorem sumW_ok (hm : ∀ f t, -1 ≤ cellM m f t ∧ cellM m f t ≤ 32000000) (hS : ∀ i, StpOk (S.getD i sz)) (hf : 0 ≤ f ∧ f ≤ 1000000) (k : Nat) (hk : k ≤ 110) : -3740000000 ≤ sumN (waitM m S f) k ∧ sumN (waitM m S f) k ≤ 3740000000 := by
  have := sumN_le (f := waitM m S f) (l := -34000000) (u := 34000000) k fun i _ => wait_ok hm hS hf i
  omega
theorem sumS_ok (hS : ∀ i, StpOk (S.getD i sz)) (k : Nat) (hk : k ≤ 110) : 0 ≤ sumN (servM S) k ∧ sumN (servM S) k ≤ 110000000 := by
  have := sumN_le (f := servM S) (l := 0) (u := 1000000) k fun i _ => (hS i).2
  omega
end
end Go.Proofs.Ytndbikoccdjafaa
