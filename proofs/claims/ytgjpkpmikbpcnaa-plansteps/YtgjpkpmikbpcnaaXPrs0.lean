/-
  What the call of the document's pairs does: it tells wholeM.
-/
import Derived.Test.YtgjpkpmikbpcnaaXCnt
namespace Go.Proofs.Ytgjpkpmikbpcnaa
open Go.RowKit
theorem count_one {V : List Vst} {v : Vst} (hm : v ∈ V) (hu : ∀ (i : Nat),V[i]? = some v → v ∉ V.take i) : V.count v = 1 := by
 revert hm hu
 refine foldl_snoc_ind (Q := fun V : List Vst => v ∈ V → (∀ (i : Nat),V[i]? = some v → v ∉ V.take i) → V.count v = 1) (fun h => by simp at h) (fun V a ih hm hu => ?_) V
 rw [List.count_append,List.count_singleton]
 by_cases e : a = v
 ·subst e
  have := hu V.length (by simp)
  rw [List.take_append_of_le_length (Nat.le_refl _),List.take_length] at this
  rw [List.count_eq_zero_of_not_mem this]
  simp
 ·have hm' : v ∈ V := by
   rcases List.mem_append.1 hm with h | h
   ·exact h
   ·rw [List.mem_singleton] at h;exact absurd h.symm e
  have := ih hm' fun i hi => by
   have hl := (List.getElem?_eq_some_iff.1 hi).1
   have := hu i (by rw [List.getElem?_append_left hl];exact hi)
   rw [List.take_append_of_le_length (by omega)] at this
   exact this
  rw [this]
  simp [e]
def pairB (p : Prb) (V : List Vst) (i : Nat) : Bool := decide ((V.getD i (0,0)).1 = 4) || (thereV p (V.getD i (0,0)).1 (V.getD i (0,0)).2 && decide (V.count (V.getD i (0,0)) = 1) && (decide ((V.getD i (0,0)).1 ≠ 3) || decide ((V.take i).count (2,(V.getD i (0,0)).2) = 1)) && (decide ((V.getD i (0,0)).1 ≠ 2) || decide (V.count (3,(V.getD i (0,0)).2) = 1)))
theorem getD_of {V : List Vst} {i : Nat} {v : Vst} (h : V[i]? = some v) : V.getD i (0,0) = v := by rw [List.getD_eq_getElem?_getD,h];rfl
theorem pairs_whole (p : Prb) (V : List Vst) : (List.range V.length).all (pairB p V) = wholeM p V := by
 have key : (List.range V.length).all (pairB p V) = true ↔ Whole p V := by
  constructor
  ·intro h
   have ho : ∀ (i : Nat) v,V[i]? = some v → v.1 ≠ 4 → thereV p v.1 v.2 = true ∧ V.count v = 1 ∧ (v.1 = 3 → (V.take i).count (2,v.2) = 1) ∧ (v.1 = 2 → V.count (3,v.2) = 1) := fun i v hi h4 => by
    have := all_get h (List.getElem?_eq_some_iff.1 hi).1
    unfold pairB at this
    rw [getD_of hi] at this
    simp only [Bool.or_eq_true,Bool.and_eq_true,decide_eq_true_eq] at this
    rcases this with h9 | ⟨⟨⟨h1,h2⟩,h3⟩,h5⟩
    ·exact absurd h9 h4
    ·exact ⟨h1,h2,fun e => h3.resolve_left (fun h8 => h8 e),fun e => h5.resolve_left (fun h8 => h8 e)⟩
   refine ⟨fun i v hi h4 => ?_,fun j hj => ?_⟩
   ·obtain ⟨h1,h2,h3,_⟩ := ho i v hi h4
    refine ⟨h1,fun hmem => ?_,fun e => ?_⟩
    ·have hl := (List.getElem?_eq_some_iff.1 hi).1
     have hs := count_step (v := v) hi
     rw [if_pos rfl] at hs
     have hp : 0 < (V.take i).count v := List.count_pos_iff.2 hmem
     have hle : (V.take (i + 1)).count v ≤ V.count v := List.Sublist.count_le v (List.take_sublist _ _)
     omega
    ·have := h3 e
     exact List.count_pos_iff.1 (by omega)
   ·obtain ⟨i,hi⟩ := List.getElem?_of_mem hj
    have := (ho i _ hi (by simp)).2.2.2 rfl
    exact List.count_pos_iff.1 (by simp only at this;omega)
  ·rintro ⟨hg,hw⟩
   have hone : ∀ v ∈ V,v.1 ≠ 4 → V.count v = 1 := fun v hv h4 => count_one hv fun i hi => (hg i v hi h4).2.1
   refine all_yes fun i hi => ?_
   have hx : V[i]? = some V[i] := List.getElem?_eq_getElem hi
   unfold pairB
   rw [getD_of hx]
   obtain ⟨v,hv⟩ : ∃ v,V[i] = v := ⟨_,rfl⟩
   rw [hv] at hx ⊢
   simp only [Bool.or_eq_true,Bool.and_eq_true,decide_eq_true_eq]
   by_cases h4 : v.1 = 4
   ·exact .inl h4
   ·obtain ⟨h1,h2,h3⟩ := hg i v hx h4
    refine .inr ⟨⟨⟨h1,hone v (List.mem_of_getElem? hx) h4⟩,?_⟩,?_⟩
    ·by_cases e : v.1 = 3
     ·have hm := h3 e
      have hc : 0 < (V.take i).count (2,v.2) := List.count_pos_iff.2 hm
      have hle : (V.take i).count (2,v.2) ≤ V.count (2,v.2) := List.Sublist.count_le _ (List.take_sublist _ _)
      have := hone (2,v.2) (List.mem_of_mem_take hm) (by simp)
      exact .inr (by omega)
     ·exact .inl e
    ·by_cases e : v.1 = 2
     ·have hm : ((2,v.2) : Vst) ∈ V := by have := List.mem_of_getElem? hx;obtain ⟨a,b⟩ := v;simp only at e;subst e;exact this
      exact .inr (hone (3,v.2) (hw v.2 hm) (by simp))
     ·exact .inl e
 cases e : wholeM p V with
 | true => exact key.2 ((wholeM_iff p V).1 e)
 | false =>
  cases e2 : (List.range V.length).all (pairB p V) with
  | false => rfl
  | true => have := (wholeM_iff p V).2 (key.1 e2);rw [e] at this;cases this
end Go.Proofs.Ytgjpkpmikbpcnaa
