/-
  Plain facts about a problem with a job more; and what it is in memory behind the append.
-/
import Derived.Test.YtgjpkpmikbpcnaaTskP
import Derived.Test.YtgjpkpmikbpcnaaCpF
import Derived.Deep.AppendLies
namespace Go.Proofs.Ytgjpkpmikbpcnaa
open Go.RowKit

/-- The job that comes to it; the problem with it. -/
def newJ (dd : Nat) (pr : Int) : Jb := ⟨⟨0, 0, [(0, 9)]⟩, List.replicate dd 0, List.replicate dd 0, 0, pr⟩
def moreP (p : Prb) (dd : Nat) (pr : Int) : Prb := ⟨p.dims, p.time, p.dist, p.vs, p.js ++ [newJ dd pr], p.ss⟩
def freshT (p : Prb) : Tsk := (false, (p.js.length : Int))
section
variable {p : Prb} {dd : Nat} {pr : Int}
theorem newJ_ok {n : Int} (hn : 1 ≤ n) (h0 : 0 ≤ pr) (h1 : pr ≤ 100) : jobB (dd : Int) n (newJ dd pr) = true := by
  have a1 : amtB (List.replicate dd 0) (dd : Int) = true := by
    unfold amtB
    rw [checkE_ok (by simp) (fun i hi => by
      have hi' : i < dd := by simpa using hi
      rw [getElem!_pos _ i hi, List.getElem_replicate]; omega)]
    rfl
  have a2 : winB [((0 : Int), (9 : Int))] = true := by decide
  have a3 : sklB 0 = true := by decide
  unfold jobB stpB newJ
  simp only [Bool.and_eq_true]
  exact ⟨⟨⟨⟨⟨⟨upB_yes (by omega) (by omega), upB_yes (by omega) (by omega)⟩, a2⟩, a1⟩, a1⟩, a3⟩, upB_yes h0 h1⟩
theorem more_law (h : lawM p = true) (hf : p.js.length + p.ss.length ≤ 11) (hd : p.dims = dd) (h0 : 0 ≤ pr) (h1 : pr ≤ 100) : checkM (moreP p dd pr) = 0 := by
  obtain ⟨a1, a2, a3, a4, a5⟩ := lawM_ok h
  have hn : 1 ≤ p.time.n := by
    unfold dimB at a1
    simp only [Bool.and_eq_true] at a1
    have := of_decide_eq_true a1.2
    exact this.1
  have b4 : fewB (moreP p dd pr) = true := by
    unfold fewB at a4 ⊢
    have := of_decide_eq_true a4
    refine decide_eq_true ⟨this.1, ?_⟩
    simp only [moreP, List.length_append, List.length_singleton]
    omega
  have b5 : allB (moreP p dd pr) = true := by
    unfold allB at a5 ⊢
    simp only [Bool.and_eq_true] at a5
    simp only [moreP, List.all_append, Bool.and_eq_true, List.all_cons, List.all_nil, Bool.and_true]
    exact ⟨⟨a5.1.1, a5.1.2, by rw [hd]; exact newJ_ok hn h0 h1⟩, a5.2⟩
  unfold checkM
  rw [if_neg, if_neg, if_neg]
  · simpa using b5
  · simpa using b4
  · show ¬ (dimB p && matB p.time.n p.time && matB p.time.n p.dist) = false
    rw [a1, a2, a3]; simp
theorem more_there : thereM p (freshT p) = false := by
  unfold freshT thereM
  simp only [Bool.false_eq_true, if_false]
  exact upB_hi (by omega)
theorem more_prio : prioM (moreP p dd pr) (freshT p) = pr := by
  have hth : thereM (moreP p dd pr) (false, (p.js.length : Int)) = true := by
    unfold thereM moreP
    simp only [Bool.false_eq_true, if_false, List.length_append, List.length_singleton]
    exact upB_yes (by omega) (by omega)
  unfold freshT
  rw [prio_job hth]
  simp [moreP, newJ]
theorem more_all : allT (moreP p dd pr) = jobsT p.js.length ++ freshT p :: shpsT p.ss.length := by
  unfold allT moreP freshT
  simp only [List.length_append, List.length_singleton]
  rw [jobsT_succ, List.append_assoc]
  rfl
theorem fresh_out : freshT p ∉ jobsT p.js.length ∧ freshT p ∉ shpsT p.ss.length := by
  constructor
  · intro h
    obtain ⟨i, hi, e⟩ := jobsT_mem.1 h
    injection e with _ e
    omega
  · intro h
    obtain ⟨i, hi, e⟩ := shpsT_mem.1 h
    cases e
theorem more_same {t : Tsk} (h : t ∈ allT p) : prioM (moreP p dd pr) t = prioM p t := by
  unfold allT at h
  rcases List.mem_append.1 h with h | h
  · obtain ⟨i, hi, rfl⟩ := jobsT_mem.1 h
    have h1 : thereM p (false, (i : Int)) = true := upB_yes (by omega) (by omega)
    have h2 : thereM (moreP p dd pr) (false, (i : Int)) = true := by
      unfold thereM moreP
      simp only [Bool.false_eq_true, if_false, List.length_append, List.length_singleton]
      exact upB_yes (by omega) (by omega)
    rw [prio_job h1, prio_job h2]
    simp only [moreP]
    rw [List.getD_eq_getElem?_getD, List.getD_eq_getElem?_getD, List.getElem?_append_left hi]
  · obtain ⟨i, hi, rfl⟩ := shpsT_mem.1 h
    have h1 : thereM p (true, (i : Int)) = true := upB_yes (by omega) (by omega)
    have h2 : thereM (moreP p dd pr) (true, (i : Int)) = true := h1
    rw [prio_ship h1, prio_ship h2]
    rfl
/-- The others stand as before. -/
theorem more_rest : (tasksM (moreP p dd pr)).filter (fun t => decide (t ≠ freshT p)) = tasksM p := by
  unfold tasksM
  rw [more_all, isort_out _ fresh_out.1 fresh_out.2]
  exact isort_congr _ fun t ht => more_same ht
theorem more_len : (tasksM (moreP p dd pr)).length = p.js.length + p.ss.length + 1 := by
  rw [tasksM_len]
  simp [moreP]
  omega
end
theorem news_of {WX : World} {B T : Nat} {l : List Value} (h : WX.heap[B]? = some (.cells l.toArray T (0, 0))) : ∀ (j : Nat) u, l[j]? = some u → WX.cell? ((⟨B, 0, none⟩ : Addr).add j) = some u := by
  intro j u hu
  rw [add0, cell_of_row _ _ _ _ _ _ h]
  simpa using hu
/-- The problem with a job more, in memory: its jobs' row is the elder one with a job behind. -/
theorem more_close {w3 w' : World} {base gv gj gs dd g cap A1 A2 A3 : Nat} {pr : Int} {p : Prb} {x : PrbS} {R : List (List Value)} (hF : CpF w3 base gv gj gs p x)
    (hK : ∀ b, b < w3.heap.size → b ≠ gj → w'.heap[b]? = w3.heap[b]?)
    (h2 : R.length = p.js.length) (h5 : ∀ (k : Nat) a, p.js[k]? = some a → ∃ l, R[k]? = some l ∧ l.length = 7 ∧ (∀ u ∈ l, u.oneCell' = true) ∧ OJob w3 base (G3 gv gj gs) l a)
    (hown : w'.ownsRow base 67 7 (.slice (some ⟨g, 0, none⟩) (p.js.length + 1) cap) (p.js.length + 1) (R.flatten ++ jobE (newJ dd pr) (.slice (some ⟨A1, 0, none⟩) 1 1) (.slice (some ⟨A2, 0, none⟩) dd dd) (.slice (some ⟨A3, 0, none⟩) dd dd)))
    (e1 : w'.heap[A1]? = some (.cells #[.int .i64 0, .int .i64 9] 61 (0, 0))) (e2 : w'.heap[A2]? = some (.cells (Array.replicate dd (.int .i64 0)) 3 (0, 0))) (e3 : w'.heap[A3]? = some (.cells (Array.replicate dd (.int .i64 0)) 3 (0, 0)))
    (hdd : dd ≤ 3) (hl : p.js.length ≤ 12) : PrbV w' ⟨x.t, x.d, x.v, .slice (some ⟨g, 0, none⟩) (p.js.length + 1) cap, x.s⟩ (moreP p dd pr) := by
  have kp : Kp w3 w' base (G3 gv gj gs) (G3 gv gj gs) := fun b hb _ hl => ⟨hK b hl (fun e => hb (.inr (.inl e))), hb⟩
  have kv : Kp w3 w' base (fun b => G3 gv gj gs b ∧ b ≠ gv) (fun b => G3 gv gj gs b ∧ b ≠ gv) := fun b hb _ hl => ⟨hK b hl (fun e => hb ⟨.inr (.inl e), fun e2 => hF.vj (e2.symm.trans e)⟩), hb⟩
  have ks : Kp w3 w' base (fun b => G3 gv gj gs b ∧ b ≠ gs) (fun b => G3 gv gj gs b ∧ b ≠ gs) := fun b hb _ hl => ⟨hK b hl (fun e => hb ⟨.inr (.inl e), fun e2 => hF.js (e.symm.trans e2)⟩), hb⟩
  have ints : ∀ A, w'.heap[A]? = some (.cells (Array.replicate dd (.int .i64 0)) 3 (0, 0)) → IntsV w' (.slice (some ⟨A, 0, none⟩) dd dd) (List.replicate dd 0) := fun A e => by
    refine ⟨some ⟨A, 0, none⟩, dd, by rw [List.length_replicate], fun h => (by cases h), by rw [List.length_replicate]; omega, fun k hk => ⟨A, 0, rfl, ?_⟩⟩
    rw [List.length_replicate] at hk
    rw [Nat.zero_add, cell_of_row _ _ _ _ _ _ e, getElem!_pos _ k (by simpa using hk)]
    simp [hk]
  refine ⟨(hF.t.kp kp).read, (hF.d.kp kp).read, (hF.v.kp kv (PV' := fun _ l v => OVeh w' w' base (G3 gv gj gs) (G3 gv gj gs) v.brks.length l v) fun _ _ _ h => OVeh.free (h.kp kp)).read fun k l a ha hp => VehV.of_o hp, ?_, (hF.s.kp ks (PV' := fun _ l s => OShp w' base (G3 gv gj gs) l s) fun _ _ _ h => h.kp kp).read fun k l a ha hp => ?_⟩
  · have hR' : (R ++ [jobE (newJ dd pr) (.slice (some ⟨A1, 0, none⟩) 1 1) (.slice (some ⟨A2, 0, none⟩) dd dd) (.slice (some ⟨A3, 0, none⟩) dd dd)]).flatten = R.flatten ++ jobE (newJ dd pr) (.slice (some ⟨A1, 0, none⟩) 1 1) (.slice (some ⟨A2, 0, none⟩) dd dd) (.slice (some ⟨A3, 0, none⟩) dd dd) := by simp
    refine ORow.read (w := w') (base := base) (T := 67) (G := fun _ => False) (PV := fun _ l j => JobV w' l j) (zero := jz) (V := JobV) ⟨R ++ [jobE (newJ dd pr) (.slice (some ⟨A1, 0, none⟩) 1 1) (.slice (some ⟨A2, 0, none⟩) dd dd) (.slice (some ⟨A3, 0, none⟩) dd dd)], ?_, ?_, ?_, fun _ _ h => h, fun k a ha => ?_⟩ fun k l a ha hp => hp
    · rw [hR']
      simp only [moreP, List.length_append, List.length_singleton]
      exact hown
    · simp [moreP, h2]
    · simp only [moreP, List.length_append, List.length_singleton]
      omega
    · simp only [moreP] at ha
      rcases Nat.lt_or_ge k p.js.length with hk | hk
      · rw [List.getElem?_append_left hk] at ha
        obtain ⟨l, q1, q2, q3, q4⟩ := h5 k a ha
        refine ⟨l, by rw [List.getElem?_append_left (by omega)]; exact q1, q2, q3, ?_⟩
        obtain ⟨a', b, c, e, r1, r2, r3, r4⟩ := q4.kp kp
        exact ⟨a', b, c, e, r1.read, r2.read, r3.read, r4⟩
      · rw [List.getElem?_append_right hk] at ha
        have hk0 : k - p.js.length = 0 := by
          rcases Nat.eq_zero_or_pos (k - p.js.length) with e | e
          · exact e
          · rw [List.getElem?_eq_none (by simp; omega)] at ha; cases ha
        have hkk : k = p.js.length := by omega
        subst hkk
        rw [Nat.sub_self] at ha
        simp at ha
        subst ha
        refine ⟨_, by rw [List.getElem?_append_right (by omega), h2, Nat.sub_self]; rfl, rfl, fun u hu => ?_, ?_⟩
        · simp [jobE, newJ] at hu
          rcases hu with rfl | rfl | rfl | rfl | rfl | rfl | rfl <;> rfl
        · refine ⟨_, _, _, rfl, ⟨some ⟨A1, 0, none⟩, 1, rfl, (fun h => by cases h), rfl, by simp [newJ], fun k hk => ⟨A1, 0, rfl, ?_⟩⟩, ints A2 e2, ints A3 e3, ⟨by simp [newJ], by simp [newJ]⟩⟩
          have hk : k < 1 := hk
          have : k = 0 := by omega
          subst this
          rw [cell_of_row _ _ _ _ _ _ e1, cell_of_row _ _ _ _ _ _ e1]
          exact ⟨rfl, rfl⟩
  · obtain ⟨a, b, c, e, r1, r2, r3, r4⟩ := hp
    exact ⟨a, b, c, e, r1.read, r2.read, r3.read, r4⟩
end Go.Proofs.Ytgjpkpmikbpcnaa
