/-
  Several texts in one: CLds CRst CTskT.
-/
import Derived.Deep.RegionHeld3
import Derived.Test.YtndbikoccdjafaaACPlnAG
import Derived.Test.YtndbikoccdjafaaACCarG
import Derived.Test.YtndbikoccdjafaaACRowTG
namespace Go.Proofs.Ytndbikoccdjafaa
open Go.RowKit
abbrev Vst := Int × Int
/-- The Drop of a job that is there; else nothing is added. -/
def dropM (p : Prb) (v : Vst) (xs : List Int) : List Int := if v.1 = 1 ∧ thereV p v.1 v.2 = true then addL xs (p.js.getD v.2.toNat jz).drop else xs
def startM (p : Prb) (dd : Nat) (V : List Vst) : List Int := V.foldl (fun xs v => dropM p v xs) (List.replicate dd 0)
def goM (p : Prb) : List Int → List Vst → List (List Int)
  | _, [] => []
  | xs, v :: V => behindM p v.1 v.2 xs :: goM p (behindM p v.1 v.2 xs) V
/-- What is aboard at the start, and behind each visit. -/
def loadsM (p : Prb) (dd : Nat) (V : List Vst) : List (List Int) := startM p dd V :: goM p (startM p dd V) V
def lastL (p : Prb) (xs : List Int) (V : List Vst) : List Int := V.foldl (fun xs v => behindM p v.1 v.2 xs) xs
theorem goM_len (p : Prb) : ∀ (V : List Vst) (xs : List Int), (goM p xs V).length = V.length
  | [], _ => rfl
  | v :: V, xs => by simp [goM, goM_len p V]
theorem lastL_snoc (p : Prb) (V : List Vst) (xs : List Int) (v : Vst) : lastL p xs (V ++ [v]) = behindM p v.1 v.2 (lastL p xs V) := by unfold lastL; rw [List.foldl_append]; rfl
theorem startM_snoc (p : Prb) (dd : Nat) (V : List Vst) (v : Vst) : startM p dd (V ++ [v]) = dropM p v (startM p dd V) := by unfold startM; rw [List.foldl_append]; rfl
section
variable {p : Prb} {dd : Nat}
theorem drop_len {j : Nat} (h : lawM p = true) (hd : p.dims = dd) (hj : j < p.js.length) : (p.js.getD j jz).drop.length = dd ∧ (p.js.getD j jz).pick.length = dd ∧ Smal 1000000 (p.js.getD j jz).drop ∧ Smal 1000000 (p.js.getD j jz).pick := by
  have hJ := law_job h hj
  unfold jobB at hJ
  simp only [Bool.and_eq_true] at hJ
  have h1 := (amt_ok hJ.1.1.1.2).1
  have h2 := (amt_ok hJ.1.1.2).1
  exact ⟨by omega, by omega, amt_smal hJ.1.1.1.2, amt_smal hJ.1.1.2⟩
theorem amt_len {j : Nat} (h : lawM p = true) (hd : p.dims = dd) (hj : j < p.ss.length) : (p.ss.getD j hz).amt.length = dd ∧ Smal 1000000 (p.ss.getD j hz).amt := by
  have hJ := law_shp h hj
  unfold shpB at hJ
  simp only [Bool.and_eq_true] at hJ
  have h1 := (amt_ok hJ.1.1.2).1
  exact ⟨by omega, amt_smal hJ.1.1.2⟩
theorem dropM_ok {v : Vst} {xs : List Int} {M : Int} (h : lawM p = true) (hd : p.dims = dd) (hx : xs.length = dd) (hs : Smal M xs) : (dropM p v xs).length = dd ∧ Smal (M + 1000000) (dropM p v xs) := by
  unfold dropM
  split
  · rename_i hv
    obtain ⟨k, i⟩ := v
    simp only at hv
    obtain ⟨rfl, ht⟩ := hv
    rcases thereV_cases ht with ⟨_, j, rfl, hj, _⟩ | ⟨e, _⟩ | ⟨e, _⟩
    · obtain ⟨h1, _, h3, _⟩ := drop_len h hd hj
      simp only [Int.toNat_natCast]
      exact ⟨by rw [addL_len]; exact hx, hs.add h3 (by omega)⟩
    · cases e
    · cases e
  · exact ⟨hx, hs.mono (by omega)⟩
theorem behindM_ok {k i : Int} {xs : List Int} {M : Int} (h : lawM p = true) (hd : p.dims = dd) (hx : xs.length = dd) (hs : Smal M xs) : (behindM p k i xs).length = dd ∧ Smal (M + 2000000) (behindM p k i xs) := by
  cases ht : thereV p k i with
  | false => rw [behindM_no ht]; exact ⟨hx, hs.mono (by omega)⟩
  | true =>
    rcases thereV_cases ht with ⟨rfl, j, rfl, hj, _⟩ | ⟨rfl, j, rfl, hj, _⟩ | ⟨rfl, j, rfl, hj, _⟩
    · rw [behindM_job ht]
      obtain ⟨h1, h2, h3, h4⟩ := drop_len h hd hj
      refine ⟨by rw [addL_len, subL_len]; exact hx, ?_⟩
      have := (hs.sub h3 (by omega)).add h4 (by rw [subL_len]; omega)
      exact this.mono (by omega)
    · rw [behindM_pick ht]
      obtain ⟨h1, h2⟩ := amt_len h hd hj
      exact ⟨by rw [addL_len]; exact hx, (hs.add h2 (by omega)).mono (by omega)⟩
    · rw [behindM_deli ht]
      obtain ⟨h1, h2⟩ := amt_len h hd hj
      exact ⟨by rw [subL_len]; exact hx, (hs.sub h2 (by omega)).mono (by omega)⟩
theorem zeros_smal (dd : Nat) : Smal 0 (List.replicate dd 0) := fun k hk => by
  rw [getElem!_pos _ k hk, List.getElem_replicate]; omega
theorem foldl_snoc_ind {α : Type} {Q : List α → Prop} (h0 : Q []) (hs : ∀ V v, Q V → Q (V ++ [v])) : ∀ V, Q V := fun V => by
  have : ∀ n, ∀ V : List α, V.length = n → Q V := by
    intro n
    induction n with
    | zero => intro V hV; rw [List.eq_nil_of_length_eq_zero hV]; exact h0
    | succ n ih =>
      intro V hV
      have hne : V ≠ [] := fun e => by rw [e] at hV; cases hV
      rw [← List.dropLast_concat_getLast hne]
      exact hs _ _ (ih _ (by rw [List.length_dropLast]; omega))
  exact this _ V rfl
theorem startM_ok (h : lawM p = true) (hd : p.dims = dd) (V : List Vst) : (startM p dd V).length = dd ∧ Smal (V.length * 1000000) (startM p dd V) := by
  refine foldl_snoc_ind (Q := fun V => (startM p dd V).length = dd ∧ Smal ((V.length : Int) * 1000000) (startM p dd V)) ⟨by simp [startM], by simpa [startM] using zeros_smal dd⟩ (fun V v ⟨h1, h2⟩ => ?_) V
  rw [startM_snoc]
  have := dropM_ok (v := v) h hd h1 h2
  exact ⟨this.1, this.2.mono (by simp; omega)⟩
theorem lastL_ok (h : lawM p = true) (hd : p.dims = dd) {xs : List Int} {M : Int} (hx : xs.length = dd) (hs : Smal M xs) (V : List Vst) : (lastL p xs V).length = dd ∧ Smal (M + V.length * 2000000) (lastL p xs V) := by
  refine foldl_snoc_ind (Q := fun V => (lastL p xs V).length = dd ∧ Smal (M + (V.length : Int) * 2000000) (lastL p xs V)) ⟨hx, by simpa [lastL] using hs⟩ (fun V v ⟨h1, h2⟩ => ?_) V
  rw [lastL_snoc]
  have := behindM_ok (k := v.1) (i := v.2) h hd h1 h2
  exact ⟨this.1, this.2.mono (by simp; omega)⟩
end
end Go.Proofs.Ytndbikoccdjafaa
namespace Go.Proofs.Ytndbikoccdjafaa
open Go.RowKit
/-- Visits in memory. -/
def VsV (w : World) (v : Value) (V : List Vst) : Prop := PrV w v V.length fun k => (.int .i64 (V.getD k (0, 0)).1, .int .i64 (V.getD k (0, 0)).2)
theorem vs_cells {w : World} {a : Option Addr} {m c k : Nat} {V : List Vst} {u : Vst} (h : VsV w (.slice a m c) V) (hu : V[k]? = some u) : ∃ b off, a = some ⟨b, off, none⟩ ∧ b < w.heap.size ∧ w.cell? ⟨b, off + k * 2, none⟩ = some (.int .i64 u.1) ∧ w.cell? ⟨b, off + k * 2 + 1, none⟩ = some (.int .i64 u.2) ∧ V.length = m := by
  obtain ⟨a', c', e, _, hc⟩ := h
  injection e with e1 e2 e3
  subst e1
  have hk := (List.getElem?_eq_some_iff.1 hu).1
  obtain ⟨b, off, e, h1, h2⟩ := hc k hk
  have eg : V.getD k (0, 0) = u := by rw [List.getD_eq_getElem?_getD, hu]; rfl
  simp only [eg] at h1 h2
  exact ⟨b, off, e, cell_lt9 h1, h1, h2, e2.symm⟩
/-- The breaks' numbers, from n on, one by one. -/
def brkF : Nat → List Vst → Option Nat
  | n, [] => some n
  | n, v :: V => if v.1 = 4 then (if v.2 = (n : Int) then brkF (n + 1) V else none) else brkF n V
def restM (V : List Vst) (n : Nat) : Bool := decide (brkF 0 V = some n)
theorem brkF_drop {V : List Vst} {k n : Nat} {v : Vst} (h : V[k]? = some v) : brkF n (V.drop k) = if v.1 = 4 then (if v.2 = (n : Int) then brkF (n + 1) (V.drop (k + 1)) else none) else brkF n (V.drop (k + 1)) := by
  obtain ⟨hk, e⟩ := List.getElem?_eq_some_iff.1 h
  rw [List.drop_eq_getElem_cons hk, e]
  rfl
end Go.Proofs.Ytndbikoccdjafaa
namespace Go.Proofs.Ytndbikoccdjafaa
open Go.RowKit
/-- The tasks of the jobs and the pickups. -/
def taskV (v : Vst) : Option Tsk := if v.1 = 1 then some (false, v.2) else if v.1 = 2 then some (true, v.2) else none
def tasksV (V : List Vst) : List Tsk := V.filterMap taskV
theorem tasksV_some {V : List Vst} {q : Nat} {v : Vst} {t : Tsk} (h : V[q]? = some v) (ht : taskV v = some t) : tasksV (V.take (q + 1)) = tasksV (V.take q) ++ [t] := by
  obtain ⟨hk, e⟩ := List.getElem?_eq_some_iff.1 h
  unfold tasksV
  rw [List.take_succ_eq_append_getElem hk, e, List.filterMap_append]
  simp [ht]
theorem tasksV_none {V : List Vst} {q : Nat} {v : Vst} (h : V[q]? = some v) (ht : taskV v = none) : tasksV (V.take (q + 1)) = tasksV (V.take q) := by
  obtain ⟨hk, e⟩ := List.getElem?_eq_some_iff.1 h
  unfold tasksV
  rw [List.take_succ_eq_append_getElem hk, e, List.filterMap_append]
  simp [ht]
end Go.Proofs.Ytndbikoccdjafaa
