/-
  Several texts in one: CPlnA CSame CTskP CBhd.
-/
import Derived.Deep.RegionHeld3
import Derived.Test.YtndbikoccdjafaaACStpAG
import Derived.Test.YtndbikoccdjafaaACCarG
import Derived.Test.YtndbikoccdjafaaACVisG
import Derived.Test.YtndbikoccdjafaaACRowTG
namespace Go.Proofs.Ytndbikoccdjafaa
open Go.RowKit
/-- Numbers of a list within M. -/
def Smal (M : Int) (xs : List Int) : Prop := ∀ k, k < xs.length → -M ≤ xs[k]! ∧ xs[k]! ≤ M
def addL (xs ys : List Int) : List Int := (List.range xs.length).map fun i => xs[i]! + ys[i]!
def subL (xs ys : List Int) : List Int := (List.range xs.length).map fun i => xs[i]! - ys[i]!
theorem addL_len (xs ys : List Int) : (addL xs ys).length = xs.length := by simp [addL]
theorem subL_len (xs ys : List Int) : (subL xs ys).length = xs.length := by simp [subL]
theorem addL_get (xs ys : List Int) (k : Nat) (h : k < xs.length) : (addL xs ys)[k]! = xs[k]! + ys[k]! := by
  rw [getElem!_pos (addL xs ys) k (by rw [addL_len]; exact h)]
  simp [addL]
theorem subL_get (xs ys : List Int) (k : Nat) (h : k < xs.length) : (subL xs ys)[k]! = xs[k]! - ys[k]! := by
  rw [getElem!_pos (subL xs ys) k (by rw [subL_len]; exact h)]
  simp [subL]
theorem Smal.add {M K : Int} {xs ys : List Int} (h : Smal M xs) (k : Smal K ys) (e : xs.length = ys.length) : Smal (M + K) (addL xs ys) := fun i hi => by
  rw [addL_len] at hi
  rw [addL_get xs ys i hi]
  have := h i hi
  have := k i (by omega)
  omega
theorem Smal.sub {M K : Int} {xs ys : List Int} (h : Smal M xs) (k : Smal K ys) (e : xs.length = ys.length) : Smal (M + K) (subL xs ys) := fun i hi => by
  rw [subL_len] at hi
  rw [subL_get xs ys i hi]
  have := h i hi
  have := k i (by omega)
  omega
theorem Smal.mono {M K : Int} {xs : List Int} (h : Smal M xs) (hk : M ≤ K) : Smal K xs := fun i hi => by
  have := h i hi
  omega
end Go.Proofs.Ytndbikoccdjafaa
namespace Go.Proofs.Ytndbikoccdjafaa
open Go.RowKit
/-- A slice of pairs of cells. -/
def PrV (w : World) (v : Value) (n : Nat) (c : Nat → Value × Value) : Prop := ∃ a cp, v = .slice a n cp ∧ n * 16 ≤ 140737488351232 ∧ ∀ k, k < n → ∃ b off, a = some ⟨b, off, none⟩ ∧ w.cell? ⟨b, off + k * 2, none⟩ = some (c k).1 ∧ w.cell? ⟨b, off + k * 2 + 1, none⟩ = some (c k).2
theorem cell_lt9 {w : World} {b o : Nat} {v : Value} (h : w.cell? ⟨b, o, none⟩ = some v) : b < w.heap.size := by
  unfold World.cell? at h
  cases hh : w.heap[b]? with
  | none => simp only [hh] at h; cases h
  | some x => exact (Array.getElem?_eq_some_iff.1 hh).1
theorem PrV.on {w w' : World} {v : Value} {n : Nat} {c : Nat → Value × Value} (h : PrV w v n c) (f : Below w.heap.size w w') : PrV w' v n c := by
  obtain ⟨a, cp, rfl, hb, hc⟩ := h
  refine ⟨a, cp, rfl, hb, fun k hk => ?_⟩
  obtain ⟨b, off, e, c1, c2⟩ := hc k hk
  have hl : b < w.heap.size := cell_lt9 c1
  exact ⟨b, off, e, by rw [f.cell (p := ⟨b, off + k * 2, none⟩) hl]; exact c1, by rw [f.cell (p := ⟨b, off + k * 2 + 1, none⟩) hl]; exact c2⟩
end Go.Proofs.Ytndbikoccdjafaa
namespace Go.Proofs.Ytndbikoccdjafaa
section
variable {α : Type} (f : α → Int)
end
theorem law_job {p : Prb} (h : lawM p = true) {j : Nat} (hj : j < p.js.length) : jobB p.dims p.time.n (p.js.getD j jz) = true := by
  obtain ⟨_, _, _, _, h5⟩ := lawM_ok h
  unfold allB at h5
  simp only [Bool.and_eq_true] at h5
  exact List.all_eq_true.1 h5.1.2 _ (getD_mem _ _ _ hj)
theorem law_shp {p : Prb} (h : lawM p = true) {j : Nat} (hj : j < p.ss.length) : shpB p.dims p.time.n (p.ss.getD j hz) = true := by
  obtain ⟨_, _, _, _, h5⟩ := lawM_ok h
  unfold allB at h5
  simp only [Bool.and_eq_true] at h5
  exact List.all_eq_true.1 h5.2 _ (getD_mem _ _ _ hj)
end Go.Proofs.Ytndbikoccdjafaa
namespace Go.Proofs.Ytndbikoccdjafaa
open Go.RowKit
theorem amt_ok {L : List Int} {d : Int} (h : amtB L d = true) : (L.length : Int) = d ∧ ∀ i, i < L.length → 0 ≤ L[i]! ∧ L[i]! ≤ 1000000 := by
  have h := of_decide_eq_true h
  unfold checkE at h
  split at h
  · split at h
    · exact ⟨by assumption, by assumption⟩
    · cases h
  · cases h
theorem amt_smal {L : List Int} {d : Int} (h : amtB L d = true) : Smal 1000000 L := fun i hi => by
  have := (amt_ok h).2 i hi
  omega
/-- What is aboard behind a visit, if this was aboard ahead of it. -/
def behindM (p : Prb) (k i : Int) (xs : List Int) : List Int := if thereV p k i = true then (if k = 1 then addL (subL xs (p.js.getD i.toNat jz).drop) (p.js.getD i.toNat jz).pick else if k = 2 then addL xs (p.ss.getD i.toNat hz).amt else subL xs (p.ss.getD i.toNat hz).amt) else xs
theorem behindM_no {p : Prb} {k i : Int} {xs : List Int} (h : thereV p k i = false) : behindM p k i xs = xs := by unfold behindM; rw [h]; rfl
theorem behindM_job {p : Prb} {j : Nat} {xs : List Int} (h : thereV p 1 (j : Int) = true) : behindM p 1 (j : Int) xs = addL (subL xs (p.js.getD j jz).drop) (p.js.getD j jz).pick := by unfold behindM; rw [h]; simp
theorem behindM_pick {p : Prb} {j : Nat} {xs : List Int} (h : thereV p 2 (j : Int) = true) : behindM p 2 (j : Int) xs = addL xs (p.ss.getD j hz).amt := by unfold behindM; rw [h]; simp
theorem behindM_deli {p : Prb} {j : Nat} {xs : List Int} (h : thereV p 3 (j : Int) = true) : behindM p 3 (j : Int) xs = subL xs (p.ss.getD j hz).amt := by unfold behindM; rw [h]; simp
end Go.Proofs.Ytndbikoccdjafaa
