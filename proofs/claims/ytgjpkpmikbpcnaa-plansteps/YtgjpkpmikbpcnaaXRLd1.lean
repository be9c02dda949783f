/-
  Plain: the document's loads, number by number.
-/
import Derived.Test.YtgjpkpmikbpcnaaXRLd0
namespace Go.Proofs.Ytgjpkpmikbpcnaa
def rowPD (p : Prb) (dd : Nat) (V : List Vst) (k i d : Nat) : List Int := (List.range dd).map fun j => sumN (rowC p V k j) (if j < d then i + 1 else i)
section
variable {p : Prb} {dd : Nat} {V : List Vst} {k i d : Nat}
theorem rowPD_len : (rowPD p dd V k i d).length = dd := by simp [rowPD]
theorem rowPD_get {j : Nat} (h : j < dd) : (rowPD p dd V k i d)[j]! = sumN (rowC p V k j) (if j < d then i + 1 else i) := by
 rw [getElem!_pos _ j (by rw [rowPD_len];exact h)]
 simp [rowPD]
theorem rowPD_step (h : d < dd) : (rowPD p dd V k i d).set d ((rowPD p dd V k i d)[d]! + rowC p V k d i) = rowPD p dd V k i (d + 1) := by
 rw [rowPD_get h,if_neg (Nat.lt_irrefl d)]
 refine List.ext_getElem (by simp [rowPD]) fun j h1 h2 => ?_
 rw [List.getElem_set]
 by_cases e : d = j
 ·subst e
  rw [if_pos rfl]
  simp [rowPD,sumN]
 ·rw [if_neg e]
  have hiff : (j < d) ↔ (j < d + 1) := by omega
  simp [rowPD,hiff]
theorem rowPD_skip (h : rowC p V k d i = 0) : rowPD p dd V k i (d + 1) = rowPD p dd V k i d := by
 unfold rowPD
 refine List.map_congr_left fun j _ => ?_
 by_cases e : j = d
 ·subst e
  rw [if_pos (by omega),if_neg (by omega)]
  show sumN (rowC p V k j) i + rowC p V k j i = _
  rw [h];omega
 ·have hiff : (j < d + 1) ↔ (j < d) := by omega
  simp [hiff]
theorem rowPD_end : rowPD p dd V k i dd = rowPD p dd V k (i + 1) 0 := by
 unfold rowPD
 refine List.map_congr_left fun j hj => ?_
 rw [if_pos (List.mem_range.1 hj),if_neg (Nat.not_lt_zero j)]
theorem rowPD_none (h : ∀ d,rowC p V k d i = 0) : rowPD p dd V k (i + 1) 0 = rowPD p dd V k i 0 := by
 unfold rowPD
 refine List.map_congr_left fun j _ => ?_
 rw [if_neg (Nat.not_lt_zero j),if_neg (Nat.not_lt_zero j)]
 show sumN (rowC p V k j) i + rowC p V k j i = _
 rw [h j];omega
theorem rowPD_zero : rowPD p dd V k 0 0 = List.replicate dd 0 := by
 refine List.ext_getElem (by simp [rowPD]) fun j h1 h2 => ?_
 simp [rowPD,sumN]
theorem rowPD_all : rowPD p dd V k V.length 0 = rldM p dd V k := by
 unfold rowPD rldM
 refine List.map_congr_left fun j _ => ?_
 rw [if_neg (Nat.not_lt_zero j)]
theorem rowC_ok (h : lawM p = true) (hd : p.dims = dd) (hdd : d < dd) : -1000000 ≤ rowC p V k d i ∧ rowC p V k d i ≤ 1000000 := by
 unfold rowC
 split
 ·rename_i ht
  obtain ⟨⟨kd,it⟩,hv⟩ : ∃ v,V.getD i (0,0) = v := ⟨_,rfl⟩
  rw [hv] at ht ⊢
  simp only at ht ⊢
  rcases thereV_cases ht with ⟨rfl,j,rfl,hj,_⟩ | ⟨rfl,j,rfl,hj,_⟩ | ⟨rfl,j,rfl,hj,_⟩
  ·obtain ⟨l1,l2,s1,s2⟩ := drop_len h hd hj
   rw [if_pos rfl]
   simp only [Int.toNat_natCast]
   have a1 := s1 d (by rw [l1];exact hdd)
   have a2 := s2 d (by rw [l2];exact hdd)
   split <;> omega
  ·obtain ⟨l1,s1⟩ := amt_len h hd hj
   rw [if_neg (by decide),if_pos rfl]
   simp only [Int.toNat_natCast]
   have a1 := s1 d (by rw [l1];exact hdd)
   split <;> omega
  ·obtain ⟨l1,s1⟩ := amt_len h hd hj
   rw [if_neg (by decide),if_neg (by decide)]
   simp only [Int.toNat_natCast]
   have a1 := s1 d (by rw [l1];exact hdd)
   split <;> omega
 ·omega
theorem rowPD_ok (h : lawM p = true) (hd : p.dims = dd) (hdd : d < dd) (hi : i ≤ 110) : -1000000000 ≤ (rowPD p dd V k i d)[d]! ∧ (rowPD p dd V k i d)[d]! ≤ 1000000000 := by
 rw [rowPD_get hdd]
 have := sumN_le (f := rowC p V k d) (l := -1000000) (u := 1000000) (if d < d then i + 1 else i) fun j _ => rowC_ok h hd hdd
 rw [if_neg (Nat.lt_irrefl d)] at this ⊢
 omega
end
end Go.Proofs.Ytgjpkpmikbpcnaa
