/-
  Several texts in one: CRLd0 CRLd1.
-/
import Derived.Test.YtndbikoccdjafaaBCPlBG
namespace Go.Proofs.Ytndbikoccdjafaa
def rowC (p : Prb) (V : List Vst) (k d i : Nat) : Int :=
 if thereV p (V.getD i (0,0)).1 (V.getD i (0,0)).2 = true then
  (if (V.getD i (0,0)).1 = 1 then (if k ≤ i then (p.js.getD (V.getD i (0,0)).2.toNat jz).drop[d]! else (p.js.getD (V.getD i (0,0)).2.toNat jz).pick[d]!)
   else if (V.getD i (0,0)).1 = 2 then (if i < k then (p.ss.getD (V.getD i (0,0)).2.toNat hz).amt[d]! else 0)
   else (if i < k then - (p.ss.getD (V.getD i (0,0)).2.toNat hz).amt[d]! else 0))
 else 0
def rldM (p : Prb) (dd : Nat) (V : List Vst) (k : Nat) : List Int := (List.range dd).map fun d => sumN (rowC p V k d) V.length
theorem sumN_congr {f g : Nat → Int} : ∀ n : Nat,(∀ i,i < n → f i = g i) → sumN f n = sumN g n
 | 0,_ => rfl
 | n + 1,h => by unfold sumN;rw [sumN_congr n fun i hi => h i (by omega),h n (by omega)]
theorem sumN_change {f g : Nat → Int} {k : Nat} : ∀ n : Nat,k < n → (∀ i,i < n → i ≠ k → f i = g i) → sumN f n = sumN g n + (f k - g k)
 | 0,hk,_ => by omega
 | n + 1,hk,h => by
  unfold sumN
  by_cases e : k = n
  · subst e
    rw [sumN_congr k fun i hi => h i (by omega) (by omega)]
    omega
  · rw [sumN_change n (by omega) fun i hi hn => h i (by omega) hn,h n (by omega) (fun e' => e e'.symm)]
    omega
theorem getD_left (V W : List Vst) (i : Nat) (h : i < V.length) : (V ++ W).getD i (0,0) = V.getD i (0,0) := by
 rw [List.getD_eq_getElem?_getD,List.getD_eq_getElem?_getD,List.getElem?_append_left h]
theorem getD_last (V : List Vst) (v : Vst) : (V ++ [v]).getD V.length (0,0) = v := by
 rw [List.getD_eq_getElem?_getD,List.getElem?_append_right (Nat.le_refl _),Nat.sub_self];rfl
theorem start_sum {p : Prb} {dd : Nat} (h : lawM p = true) (hd : p.dims = dd) (V : List Vst) (d : Nat) (hdd : d < dd) : (startM p dd V)[d]! = sumN (rowC p V 0 d) V.length := by
 refine foldl_snoc_ind (Q := fun V => (startM p dd V)[d]! = sumN (rowC p V 0 d) V.length) ?_ (fun V v ih => ?_) V
 ·show (List.replicate dd (0 : Int))[d]! = 0
  rw [getElem!_pos _ d (by simpa using hdd),List.getElem_replicate]
 ·rw [startM_snoc,List.length_append]
  show _ = sumN (rowC p (V ++ [v]) 0 d) V.length + rowC p (V ++ [v]) 0 d V.length
  have e1 : sumN (rowC p (V ++ [v]) 0 d) V.length = sumN (rowC p V 0 d) V.length := sumN_congr _ fun i hi => by unfold rowC;rw [getD_left V [v] i hi]
  rw [e1,← ih]
  have hl := (startM_ok h hd V).1
  unfold rowC dropM
  rw [getD_last]
  obtain ⟨k,i⟩ := v
  simp only
  by_cases ht : thereV p k i = true
  · rw [if_pos ht]
    by_cases hk : k = 1
    ·subst hk
     rw [if_pos ⟨rfl,ht⟩,if_pos rfl,if_pos (Nat.zero_le _),addL_get _ _ d (by omega)]
    ·rw [if_neg (fun e => hk e.1),if_neg hk]
     split <;> simp
  · rw [if_neg ht,if_neg (fun e => ht e.2)]
    omega
theorem last_sum {p : Prb} {dd : Nat} (h : lawM p = true) (hd : p.dims = dd) (V : List Vst) (d : Nat) (hdd : d < dd) : ∀ k,k ≤ V.length → (lastL p (startM p dd V) (V.take k))[d]! = sumN (rowC p V k d) V.length
 | 0,_ => by rw [List.take_zero];exact start_sum h hd V d hdd
 | k + 1,hk => by
  have ih := last_sum h hd V d hdd k (by omega)
  have hu : V[k]? = some V[k] := List.getElem?_eq_getElem (by omega)
  rw [last_step hu]
  obtain ⟨v,hv⟩ : ∃ v,V[k] = v := ⟨_,rfl⟩
  rw [hv] at hu ⊢
  have hg : V.getD k (0,0) = v := by rw [List.getD_eq_getElem?_getD,hu];rfl
  have hc := sumN_change (f := rowC p V (k + 1) d) (g := rowC p V k d) (k := k) V.length (by omega) fun i hi hn => by
    unfold rowC
    have a1 : (k + 1 ≤ i) = (k ≤ i) := by apply propext;omega
    have a2 : (i < k + 1) = (i < k) := by apply propext;omega
    simp only [a1,a2]
  rw [hc,← ih]
  obtain ⟨h1,h2⟩ := startM_ok h hd V
  have hl := (lastL_ok h hd h1 h2 (V.take k)).1
  obtain ⟨kd,it⟩ := v
  cases ht : thereV p kd it with
  | false =>
    rw [behindM_no ht]
    unfold rowC
    rw [hg]
    simp [ht]
  | true =>
    rcases thereV_cases ht with ⟨rfl,j,rfl,hj,_⟩ | ⟨rfl,j,rfl,hj,_⟩ | ⟨rfl,j,rfl,hj,_⟩
    ·rw [behindM_job ht,addL_get _ _ d (by rw [subL_len];omega),subL_get _ _ d (by omega)]
     unfold rowC
     rw [hg]
     simp [ht]
     omega
    ·rw [behindM_pick ht,addL_get _ _ d (by omega)]
     unfold rowC
     rw [hg]
     simp [ht]
    ·rw [behindM_deli ht,subL_get _ _ d (by omega)]
     unfold rowC
     rw [hg]
     simp [ht]
     omega
theorem loads_rld {p : Prb} {dd : Nat} (h : lawM p = true) (hd : p.dims = dd) (V : List Vst) (k : Nat) (hk : k ≤ V.length) : (loadsM p dd V)[k]? = some (rldM p dd V k) := by
 have e : loadsM p dd V = ldQ p dd V V.length := by unfold ldQ loadsM;rw [List.take_length]
 have hq : (loadsM p dd V)[k]? = some (lastL p (startM p dd V) (V.take k)) := by
  unfold loadsM
  cases k with
  | zero => rfl
  | succ k => rw [List.getElem?_cons_succ,goM_get _ _ k (by omega)]
 rw [hq]
 congr 1
 obtain ⟨h1,h2⟩ := startM_ok h hd V
 have hl := (lastL_ok h hd h1 h2 (V.take k)).1
 refine Ld.list_ext (by rw [hl];simp [rldM]) fun d hdl => ?_
 rw [hl] at hdl
 rw [last_sum h hd V d hdl k hk]
 unfold rldM
 rw [getElem!_pos _ d (by simpa using hdl)]
 simp
end Go.Proofs.Ytndbikoccdjafaa
namespace Go.Proofs.Ytndbikoccdjafaa
def rowPD (p : Prb) (dd : Nat) (V : List Vst) (k i d : Nat) : List Int := (List.range dd).map fun j => sumN (rowC p V k j) (if j < d then i + 1 else i)
section
variable {p : Prb} {dd : Nat} {V : List Vst} {k i d : Nat}
theorem rowPD_len : (rowPD p dd V k i d).length = dd := by simp [rowPD]
theorem rowPD_get {j : Nat} (h : j < dd) : (rowPD p dd V k i d)[j]! = sumN (rowC p V k j) (if j < d then i + 1 else i) := by
 rw [getElem!_pos _ j (by rw [rowPD_len];exact h)]
 simp [rowPD]
theorem rowPD_step (h : d < dd) : (rowPD p dd V k i d).set d ((rowPD p dd V k i d)[d]! + rowC p V k d i) = rowPD p dd V k i (d + 1) := by
 rw [rowPD_get h,if_neg (Nat.lt_irrefl d)]
 refine List.ext_getElem (by simp [rowPD]) fun j h1 h2 => ?_
 rw [List.getElem_set]
 by_cases e : d = j
 ·subst e
  rw [if_pos rfl]
  simp [rowPD,sumN]
 ·rw [if_neg e]
  have hiff : (j < d) ↔ (j < d + 1) := by omega
  simp [rowPD,hiff]
theorem rowPD_skip (h : rowC p V k d i = 0) : rowPD p dd V k i (d + 1) = rowPD p dd V k i d := by
 unfold rowPD
 refine List.map_congr_left fun j _ => ?_
 by_cases e : j = d
 ·subst e
  rw [if_pos (by omega),if_neg (by omega)]
  show sumN (rowC p V k j) i + rowC p V k j i = _
  rw [h];omega
 ·have hiff : (j < d + 1) ↔ (j < d) := by omega
  simp [hiff]
theorem rowPD_end : rowPD p dd V k i dd = rowPD p dd V k (i + 1) 0 := by
 unfold rowPD
 refine List.map_congr_left fun j hj => ?_
 rw [if_pos (List.mem_range.1 hj),if_neg (Nat.not_lt_zero j)]
theorem rowPD_none (h : ∀ d,rowC p V k d i = 0) : rowPD p dd V k (i + 1) 0 = rowPD p dd V k i 0 := by
 unfold rowPD
 refine List.map_congr_left fun j _ => ?_
 rw [if_neg (Nat.not_lt_zero j),if_neg (Nat.not_lt_zero j)]
 show sumN (rowC p V k j) i + rowC p V k j i = _
 rw [h j];omega
theorem rowPD_zero : rowPD p dd V k 0 0 = List.replicate dd 0 := by
 refine List.ext_getElem (by simp [rowPD]) fun j h1 h2 => ?_
 simp [rowPD,sumN]
theorem rowPD_all : rowPD p dd V k V.length 0 = rldM p dd V k := by
 unfold rowPD rldM
 refine List.map_congr_left fun j _ => ?_
 rw [if_neg (Nat.not_lt_zero j)]
theorem rowC_ok (h : lawM p = true) (hd : p.dims = dd) (hdd : d < dd) : -1000000 ≤ rowC p V k d i ∧ rowC p V k d i ≤ 1000000 := by
 unfold rowC
 split
 ·rename_i ht
  obtain ⟨⟨kd,it⟩,hv⟩ : ∃ v,V.getD i (0,0) = v := ⟨_,rfl⟩
  rw [hv] at ht ⊢
  simp only at ht ⊢
  rcases thereV_cases ht with ⟨rfl,j,rfl,hj,_⟩ | ⟨rfl,j,rfl,hj,_⟩ | ⟨rfl,j,rfl,hj,_⟩
  ·obtain ⟨l1,l2,s1,s2⟩ := drop_len h hd hj
   rw [if_pos rfl]
   simp only [Int.toNat_natCast]
   have a1 := s1 d (by rw [l1];exact hdd)
   have a2 := s2 d (by rw [l2];exact hdd)
   split <;> omega
  ·obtain ⟨l1,s1⟩ := amt_len h hd hj
   rw [if_neg (by decide),if_pos rfl]
   simp only [Int.toNat_natCast]
   have a1 := s1 d (by rw [l1];exact hdd)
   split <;> omega
  ·obtain ⟨l1,s1⟩ := amt_len h hd hj
   rw [if_neg (by decide),if_neg (by decide)]
   simp only [Int.toNat_natCast]
   have a1 := s1 d (by rw [l1];exact hdd)
   split <;> omega
 ·omega
theorem rowPD_ok (h : lawM p = true) (hd : p.dims = dd) (hdd : d < dd) (hi : i ≤ 110) : -1000000000 ≤ (rowPD p dd V k i d)[d]! ∧ (rowPD p dd V k i d)[d]! ≤ 1000000000 := by
 rw [rowPD_get hdd]
 have := sumN_le (f := rowC p V k d) (l := -1000000) (u := 1000000) (if d < d then i + 1 else i) fun j _ => rowC_ok h hd hdd
 rw [if_neg (Nat.lt_irrefl d)] at this ⊢
 omega
end
end Go.Proofs.Ytndbikoccdjafaa
