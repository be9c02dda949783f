/-
  Plain: what the document says is aboard, summed over all visits, is what the program carries along.
-/
import Derived.Test.YtgjpkpmikbpcnaaXPlBG
namespace Go.Proofs.Ytgjpkpmikbpcnaa
def rowC (p : Prb) (V : List Vst) (k d i : Nat) : Int :=
 if thereV p (V.getD i (0,0)).1 (V.getD i (0,0)).2 = true then
  (if (V.getD i (0,0)).1 = 1 then (if k ≤ i then (p.js.getD (V.getD i (0,0)).2.toNat jz).drop[d]! else (p.js.getD (V.getD i (0,0)).2.toNat jz).pick[d]!)
   else if (V.getD i (0,0)).1 = 2 then (if i < k then (p.ss.getD (V.getD i (0,0)).2.toNat hz).amt[d]! else 0)
   else (if i < k then - (p.ss.getD (V.getD i (0,0)).2.toNat hz).amt[d]! else 0))
 else 0
def rldM (p : Prb) (dd : Nat) (V : List Vst) (k : Nat) : List Int := (List.range dd).map fun d => sumN (rowC p V k d) V.length
theorem sumN_congr {f g : Nat → Int} : ∀ n : Nat,(∀ i,i < n → f i = g i) → sumN f n = sumN g n
 | 0,_ => rfl
 | n + 1,h => by unfold sumN;rw [sumN_congr n fun i hi => h i (by omega),h n (by omega)]
theorem sumN_change {f g : Nat → Int} {k : Nat} : ∀ n : Nat,k < n → (∀ i,i < n → i ≠ k → f i = g i) → sumN f n = sumN g n + (f k - g k)
 | 0,hk,_ => by omega
 | n + 1,hk,h => by
  unfold sumN
  by_cases e : k = n
  · subst e
    rw [sumN_congr k fun i hi => h i (by omega) (by omega)]
    omega
  · rw [sumN_change n (by omega) fun i hi hn => h i (by omega) hn,h n (by omega) (fun e' => e e'.symm)]
    omega
theorem getD_left (V W : List Vst) (i : Nat) (h : i < V.length) : (V ++ W).getD i (0,0) = V.getD i (0,0) := by
 rw [List.getD_eq_getElem?_getD,List.getD_eq_getElem?_getD,List.getElem?_append_left h]
theorem getD_last (V : List Vst) (v : Vst) : (V ++ [v]).getD V.length (0,0) = v := by
 rw [List.getD_eq_getElem?_getD,List.getElem?_append_right (Nat.le_refl _),Nat.sub_self];rfl
theorem start_sum {p : Prb} {dd : Nat} (h : lawM p = true) (hd : p.dims = dd) (V : List Vst) (d : Nat) (hdd : d < dd) : (startM p dd V)[d]! = sumN (rowC p V 0 d) V.length := by
 refine foldl_snoc_ind (Q := fun V => (startM p dd V)[d]! = sumN (rowC p V 0 d) V.length) ?_ (fun V v ih => ?_) V
 ·show (List.replicate dd (0 : Int))[d]! = 0
  rw [getElem!_pos _ d (by simpa using hdd),List.getElem_replicate]
 ·rw [startM_snoc,List.length_append]
  show _ = sumN (rowC p (V ++ [v]) 0 d) V.length + rowC p (V ++ [v]) 0 d V.length
  have e1 : sumN (rowC p (V ++ [v]) 0 d) V.length = sumN (rowC p V 0 d) V.length := sumN_congr _ fun i hi => by unfold rowC;rw [getD_left V [v] i hi]
  rw [e1,← ih]
  have hl := (startM_ok h hd V).1
  unfold rowC dropM
  rw [getD_last]
  obtain ⟨k,i⟩ := v
  simp only
  by_cases ht : thereV p k i = true
  · rw [if_pos ht]
    by_cases hk : k = 1
    ·subst hk
     rw [if_pos ⟨rfl,ht⟩,if_pos rfl,if_pos (Nat.zero_le _),addL_get _ _ d (by omega)]
    ·rw [if_neg (fun e => hk e.1),if_neg hk]
     split <;> simp
  · rw [if_neg ht,if_neg (fun e => ht e.2)]
    omega
theorem last_sum {p : Prb} {dd : Nat} (h : lawM p = true) (hd : p.dims = dd) (V : List Vst) (d : Nat) (hdd : d < dd) : ∀ k,k ≤ V.length → (lastL p (startM p dd V) (V.take k))[d]! = sumN (rowC p V k d) V.length
 | 0,_ => by rw [List.take_zero];exact start_sum h hd V d hdd
 | k + 1,hk => by
  have ih := last_sum h hd V d hdd k (by omega)
  have hu : V[k]? = some V[k] := List.getElem?_eq_getElem (by omega)
  rw [last_step hu]
  obtain ⟨v,hv⟩ : ∃ v,V[k] = v := ⟨_,rfl⟩
  rw [hv] at hu ⊢
  have hg : V.getD k (0,0) = v := by rw [List.getD_eq_getElem?_getD,hu];rfl
  have hc := sumN_change (f := rowC p V (k + 1) d) (g := rowC p V k d) (k := k) V.length (by omega) fun i hi hn => by
    unfold rowC
    have a1 : (k + 1 ≤ i) = (k ≤ i) := by apply propext;omega
    have a2 : (i < k + 1) = (i < k) := by apply propext;omega
    simp only [a1,a2]
  rw [hc,← ih]
  obtain ⟨h1,h2⟩ := startM_ok h hd V
  have hl := (lastL_ok h hd h1 h2 (V.take k)).1
  obtain ⟨kd,it⟩ := v
  cases ht : thereV p kd it with
  | false =>
    rw [behindM_no ht]
    unfold rowC
    rw [hg]
    simp [ht]
  | true =>
    rcases thereV_cases ht with ⟨rfl,j,rfl,hj,_⟩ | ⟨rfl,j,rfl,hj,_⟩ | ⟨rfl,j,rfl,hj,_⟩
    ·rw [behindM_job ht,addL_get _ _ d (by rw [subL_len];omega),subL_get _ _ d (by omega)]
     unfold rowC
     rw [hg]
     simp [ht]
     omega
    ·rw [behindM_pick ht,addL_get _ _ d (by omega)]
     unfold rowC
     rw [hg]
     simp [ht]
    ·rw [behindM_deli ht,subL_get _ _ d (by omega)]
     unfold rowC
     rw [hg]
     simp [ht]
     omega
theorem loads_rld {p : Prb} {dd : Nat} (h : lawM p = true) (hd : p.dims = dd) (V : List Vst) (k : Nat) (hk : k ≤ V.length) : (loadsM p dd V)[k]? = some (rldM p dd V k) := by
 have e : loadsM p dd V = ldQ p dd V V.length := by unfold ldQ loadsM;rw [List.take_length]
 have hq : (loadsM p dd V)[k]? = some (lastL p (startM p dd V) (V.take k)) := by
  unfold loadsM
  cases k with
  | zero => rfl
  | succ k => rw [List.getElem?_cons_succ,goM_get _ _ k (by omega)]
 rw [hq]
 congr 1
 obtain ⟨h1,h2⟩ := startM_ok h hd V
 have hl := (lastL_ok h hd h1 h2 (V.take k)).1
 refine Ld.list_ext (by rw [hl];simp [rldM]) fun d hdl => ?_
 rw [hl] at hdl
 rw [last_sum h hd V d hdl k hk]
 unfold rldM
 rw [getElem!_pos _ d (by simpa using hdl)]
 simp
end Go.Proofs.Ytgjpkpmikbpcnaa
