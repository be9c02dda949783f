/-
  Plain facts about the tasks of a lawful problem: each once, there, by falling priority; their visits are of them.
-/
import Derived.Test.YtgjpkpmikbpcnaaTsk
import Derived.Test.YtgjpkpmikbpcnaaStpA
import Derived.Test.YtgjpkpmikbpcnaaVsts
namespace Go.Proofs.Ytgjpkpmikbpcnaa

section
variable {α : Type} (f : α → Int)
theorem insL_nodup {x : α} : ∀ {S : List α}, S.Nodup → x ∉ S → (insL f x S).Nodup
  | [], _, _ => by simp [insL]
  | y :: S, h, hx => by
    obtain ⟨h1, h2⟩ := List.nodup_cons.1 h
    have hxy : x ≠ y := fun e => hx (e ▸ List.mem_cons_self)
    have hxS : x ∉ S := fun e => hx (List.mem_cons_of_mem _ e)
    unfold insL
    split
    · exact List.nodup_cons.2 ⟨hx, h⟩
    · refine List.nodup_cons.2 ⟨fun e => ?_, insL_nodup h2 hxS⟩
      rcases (insL_mem f).1 e with e | e
      · exact hxy e.symm
      · exact h1 e
theorem isortF_nodup : ∀ (L S : List α), S.Nodup → L.Nodup → (∀ x ∈ L, x ∉ S) → (isortF f S L).Nodup
  | [], _, h, _, _ => h
  | x :: L, S, h, k, d => by
    obtain ⟨k1, k2⟩ := List.nodup_cons.1 k
    refine isortF_nodup L (insL f x S) (insL_nodup f h (d x List.mem_cons_self)) k2 fun y hy e => ?_
    rcases (insL_mem f).1 e with e | e
    · exact k1 (e ▸ hy)
    · exact d y (List.mem_cons_of_mem _ hy) e
theorem isort_nodup {L : List α} (h : L.Nodup) : (isort f L).Nodup := isortF_nodup f L [] List.nodup_nil h fun _ _ e => by simp at e
end
theorem jobsT_mem {n : Nat} {t : Tsk} : t ∈ jobsT n ↔ ∃ i : Nat, i < n ∧ t = (false, (i : Int)) := by
  unfold jobsT
  simp only [List.mem_map, List.mem_range]
  exact ⟨fun ⟨i, h, e⟩ => ⟨i, h, e.symm⟩, fun ⟨i, h, e⟩ => ⟨i, h, e.symm⟩⟩
theorem shpsT_mem {n : Nat} {t : Tsk} : t ∈ shpsT n ↔ ∃ i : Nat, i < n ∧ t = (true, (i : Int)) := by
  unfold shpsT
  simp only [List.mem_map, List.mem_range]
  exact ⟨fun ⟨i, h, e⟩ => ⟨i, h, e.symm⟩, fun ⟨i, h, e⟩ => ⟨i, h, e.symm⟩⟩
theorem jobsT_nodup : ∀ n, (jobsT n).Nodup
  | 0 => by simp [jobsT]
  | n + 1 => by
    rw [jobsT_succ, List.nodup_append]
    refine ⟨jobsT_nodup n, by simp, fun a ha b hb e => ?_⟩
    obtain ⟨i, hi, rfl⟩ := jobsT_mem.1 ha
    rw [List.mem_singleton] at hb
    rw [hb] at e
    injection e with _ e
    omega
theorem shpsT_nodup : ∀ n, (shpsT n).Nodup
  | 0 => by simp [shpsT]
  | n + 1 => by
    rw [shpsT_succ, List.nodup_append]
    refine ⟨shpsT_nodup n, by simp, fun a ha b hb e => ?_⟩
    obtain ⟨i, hi, rfl⟩ := shpsT_mem.1 ha
    rw [List.mem_singleton] at hb
    rw [hb] at e
    injection e with _ e
    omega
theorem tasksM_nodup (p : Prb) : (tasksM p).Nodup := by
  unfold tasksM allT
  refine isort_nodup _ (List.nodup_append.2 ⟨jobsT_nodup _, shpsT_nodup _, fun a ha b hb e => ?_⟩)
  obtain ⟨i, _, rfl⟩ := jobsT_mem.1 ha
  obtain ⟨j, _, rfl⟩ := shpsT_mem.1 hb
  cases e
theorem tasksM_mem {p : Prb} {t : Tsk} : t ∈ tasksM p ↔ (∃ i : Nat, i < p.js.length ∧ t = (false, (i : Int))) ∨ (∃ i : Nat, i < p.ss.length ∧ t = (true, (i : Int))) := by
  unfold tasksM allT
  rw [isort_mem, List.mem_append, jobsT_mem, shpsT_mem]
theorem tasksM_there {p : Prb} {t : Tsk} (h : t ∈ tasksM p) : thereM p t = true := by
  rcases tasksM_mem.1 h with ⟨i, hi, rfl⟩ | ⟨i, hi, rfl⟩
  · exact upB_yes (by omega) (by omega)
  · exact upB_yes (by omega) (by omega)
theorem tasksM_srt (p : Prb) {i j : Nat} (h : i < j) (hj : j < (tasksM p).length) : prioM p ((tasksM p)[j]'hj) ≤ prioM p ((tasksM p)[i]'(by omega)) := List.pairwise_iff_getElem.1 (isort_srt (prioM p) (allT p)) i j (by unfold tasksM at hj; omega) hj h
theorem stpB_place {n : Int} {s : Stp} (h : stpB n s = true) : 0 ≤ s.place ∧ s.place < n := by
  unfold stpB at h
  simp only [Bool.and_eq_true] at h
  have := upB_iff.1 h.1.1
  omega
theorem law_job {p : Prb} (h : lawM p = true) {j : Nat} (hj : j < p.js.length) : jobB p.dims p.time.n (p.js.getD j jz) = true := by
  obtain ⟨_, _, _, _, h5⟩ := lawM_ok h
  unfold allB at h5
  simp only [Bool.and_eq_true] at h5
  exact List.all_eq_true.1 h5.1.2 _ (getD_mem _ _ _ hj)
theorem law_shp {p : Prb} (h : lawM p = true) {j : Nat} (hj : j < p.ss.length) : shpB p.dims p.time.n (p.ss.getD j hz) = true := by
  obtain ⟨_, _, _, _, h5⟩ := lawM_ok h
  unfold allB at h5
  simp only [Bool.and_eq_true] at h5
  exact List.all_eq_true.1 h5.2 _ (getD_mem _ _ _ hj)
theorem prio_le {p : Prb} (h : lawM p = true) {t : Tsk} (ht : t ∈ tasksM p) : prioM p t ≤ 100 := by
  have hth := tasksM_there ht
  rcases tasksM_mem.1 ht with ⟨i, hi, rfl⟩ | ⟨i, hi, rfl⟩
  · rw [prio_job hth]
    have := law_job h hi
    unfold jobB at this
    simp only [Bool.and_eq_true] at this
    exact (upB_iff.1 this.2).2
  · rw [prio_ship hth]
    have := law_shp h hi
    unfold shpB at this
    simp only [Bool.and_eq_true] at this
    exact (upB_iff.1 this.2).2
/-- A stop of a visit that is there lies at a place. -/
theorem stp_place {p : Prb} (h : lawM p = true) {k i : Int} (ht : thereV p k i = true) : 0 ≤ (stpM p k i).place ∧ (stpM p k i).place < p.time.n := by
  rcases thereV_cases ht with ⟨_, j, _, hj, e⟩ | ⟨_, j, _, hj, e⟩ | ⟨_, j, _, hj, e⟩ <;> rw [e]
  · have := law_job h hj
    unfold jobB at this
    simp only [Bool.and_eq_true] at this
    exact stpB_place this.1.1.1.1
  · have := law_shp h hj
    unfold shpB at this
    simp only [Bool.and_eq_true] at this
    exact stpB_place this.1.1.1.1
  · have := law_shp h hj
    unfold shpB at this
    simp only [Bool.and_eq_true] at this
    exact stpB_place this.1.1.1.2
theorem vis_of (s : Bool) (i : Int) {k : Nat} (hk : k < visN s) : ofM (visK s k) i = ((s, i), true) := by
  cases s with
  | false => rfl
  | true =>
    have hk : k < 2 := hk
    have : k = 0 ∨ k = 1 := by omega
    rcases this with rfl | rfl <;> rfl
theorem vis_there {p : Prb} {s : Bool} {i : Int} {k : Nat} (hk : k < visN s) (h : thereM p (s, i) = true) : thereV p (visK s k) i = true := by
  unfold thereV
  rw [vis_of s i hk]
  simpa using h
end Go.Proofs.Ytgjpkpmikbpcnaa
