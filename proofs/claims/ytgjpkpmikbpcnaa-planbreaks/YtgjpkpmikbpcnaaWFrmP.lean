/-
  The search for breaks' places, step by step as the program goes; how many visits a right list has. Plain.
-/
import Derived.Test.YtgjpkpmikbpcnaaWFitQ
namespace Go.Proofs.Ytgjpkpmikbpcnaa
open Go.RowKit
def frmM (p : Prb) (v : Veh) (V : List Vst) (i k : Nat) (left : Int) : Option (List Nat) := if i = V.length + 2 then (if k = v.brks.length then some [] else none) else seekM p v (v.brks.drop k) ((stopsM p v V).getD (i - 1) sz).place left (i - 1) (V.drop (i - 1))
theorem frm_end {p : Prb} {v : Veh} {V : List Vst} (k : Nat) (left : Int) : frmM p v V (V.length + 2) k left = if k = v.brks.length then some [] else none := by unfold frmM;rw [if_pos rfl]
theorem frm_at {p : Prb} {v : Veh} {V : List Vst} {j : Nat} (h : j ≤ V.length) (k : Nat) (left : Int) : frmM p v V (j + 1) k left = seekM p v (v.brks.drop k) ((stopsM p v V).getD j sz).place left j (V.drop j) := by unfold frmM;rw [if_neg (by omega)];rfl
theorem drop_at {V : List Vst} {j : Nat} {u : Vst} (h : V[j]? = some u) : V.drop j = u :: V.drop (j + 1) := by
 obtain ⟨hj,e⟩ := List.getElem?_eq_some_iff.1 h
 rw [List.drop_eq_getElem_cons hj,e]
theorem frm_full {p : Prb} {v : Veh} {V : List Vst} {j : Nat} (h : j ≤ V.length) (left : Int) : frmM p v V (j + 1) v.brks.length left = bif (Hr.startM (left + travelM p.time (stopsM p v V) (j + 1)) ((stopsM p v V).getD (j + 1) sz).wins).2 then frmM p v V (j + 2) v.brks.length ((Hr.startM (left + travelM p.time (stopsM p v V) (j + 1)) ((stopsM p v V).getD (j + 1) sz).wins).1 + ((stopsM p v V).getD (j + 1) sz).serv) else none := by
 rw [frm_at h,List.drop_length,travelM_succ]
 show (bif goT p v _ _ _ then some [] else none) = _
 by_cases hj : j < V.length
 ·obtain ⟨u,hu⟩ : ∃ u,V[j]? = some u := ⟨_,List.getElem?_eq_getElem hj⟩
  rw [drop_at hu,stop_at hu,frm_at (by omega),List.drop_length,stop_at hu]
  show (bif (_ && goT p v _ _ _) then some [] else none) = bif _ then (bif goT p v _ _ _ then some [] else none) else none
  cases (Hr.startM (left + cellM p.time ((stopsM p v V).getD j sz).place (stopW p v ((stopsM p v V).getD j sz).place u).place) (stopW p v ((stopsM p v V).getD j sz).place u).wins).2 <;> rfl
 ·have e : j = V.length := by omega
  subst e
  rw [List.drop_length,frm_end,if_pos rfl,stop_end]
  rfl
theorem frm_brk {p : Prb} {v : Veh} {V : List Vst} {j k : Nat} (h : j ≤ V.length) (hk : k < v.brks.length) (left : Int) : frmM p v V (j + 1) k left =
  match (bif (Hr.startM left (v.brks.getD k bz).wins).2 then frmM p v V (j + 1) (k + 1) ((Hr.startM left (v.brks.getD k bz).wins).1 + (v.brks.getD k bz).serv) else none) with
  | some ps => some (j :: ps)
  | none => bif (Hr.startM (left + travelM p.time (stopsM p v V) (j + 1)) ((stopsM p v V).getD (j + 1) sz).wins).2 then frmM p v V (j + 2) k ((Hr.startM (left + travelM p.time (stopsM p v V) (j + 1)) ((stopsM p v V).getD (j + 1) sz).wins).1 + ((stopsM p v V).getD (j + 1) sz).serv) else none := by
 have hd : v.brks.drop k = v.brks.getD k bz :: v.brks.drop (k + 1) := getD_drop _ _ _ hk
 rw [frm_at h,frm_at h,hd,travelM_succ]
 by_cases hj : j < V.length
 ·obtain ⟨u,hu⟩ : ∃ u,V[j]? = some u := ⟨_,List.getElem?_eq_getElem hj⟩
  rw [drop_at hu,stop_at hu,frm_at (by omega),stop_at hu,hd]
  rfl
 ·have e : j = V.length := by omega
  subst e
  rw [List.drop_length,frm_end,if_neg (by omega)]
  show (bif _ then Option.map _ _ else none) = _
  cases (Hr.startM left (v.brks.getD k bz).wins).2 with
  | false => simp
  | true =>
   rw [cond_true,cond_true]
   cases seekM p v (v.brks.drop (k + 1)) ((stopsM p v V).getD V.length sz).place ((Hr.startM left (v.brks.getD k bz).wins).1 + (v.brks.getD k bz).serv) V.length [] with
   | none => simp
   | some ps => rfl
theorem frm_first {p : Prb} {v : Veh} {V : List Vst} : frmM p v V 1 0 v.shift.1 = seekP p v V := by
 rw [frm_at (Nat.zero_le _),stop_zero]
 rfl
theorem nodup_le {α : Type} [BEq α] [LawfulBEq α] : ∀ (L M : List α),L.Nodup → (∀ x ∈ L,x ∈ M) → L.length ≤ M.length
 | [],_,_,_ => Nat.zero_le _
 | x :: L,M,hn,hs => by
  rw [List.nodup_cons] at hn
  have hx : x ∈ M := hs x (by simp)
  have := nodup_le L (M.erase x) hn.2 fun y hy => (List.mem_erase_of_ne fun e => hn.1 (by rw [← e];exact hy)).2 (hs y (by simp [hy]))
  rw [List.length_erase_of_mem hx] at this
  have h1 : 0 < M.length := List.length_pos_of_mem hx
  simp only [List.length_cons]
  omega
theorem nodup_of {V : List Vst} (h : ∀ (i : Nat) (u : Vst),V[i]? = some u → u ∉ V.take i) : V.Nodup := by
 rw [List.nodup_iff_pairwise_ne,List.pairwise_iff_getElem]
 intro i j hi hj hij e
 refine h j V[j] (List.getElem?_eq_getElem hj) ?_
 rw [← e]
 exact List.mem_iff_getElem?.2 ⟨i,by rw [List.getElem?_take_of_lt hij,List.getElem?_eq_getElem hi]⟩
theorem whole_few {p : Prb} {V : List Vst} (hl : lawM p = true) (hV : ∀ u ∈ V,u.1 ≠ 4) (h : wholeM p V = true) : V.length ≤ 24 := by
 have hw := (wholeM_iff p V).1 h
 have hn : V.Nodup := nodup_of fun i u hu => (hw.1 i u hu (hV u (List.mem_of_getElem? hu))).2.1
 have hs : ∀ x ∈ V,x ∈ (List.range p.js.length).map (fun i : Nat => ((1,(i : Int)) : Vst)) ++ ((List.range p.ss.length).map (fun i : Nat => ((2,(i : Int)) : Vst)) ++ (List.range p.ss.length).map (fun i : Nat => ((3,(i : Int)) : Vst))) := fun x hx => by
  obtain ⟨i,hi⟩ := List.getElem?_of_mem hx
  have ht := (hw.1 i x hi (hV x hx)).1
  obtain ⟨k,it⟩ := x
  rcases thereV_cases ht with ⟨e1,j,e2,hj,_⟩ | ⟨e1,j,e2,hj,_⟩ | ⟨e1,j,e2,hj,_⟩ <;> (simp only at e1 e2;subst e1 e2)
  ·exact List.mem_append_left _ (List.mem_map.2 ⟨j,List.mem_range.2 hj,rfl⟩)
  ·exact List.mem_append_right _ (List.mem_append_left _ (List.mem_map.2 ⟨j,List.mem_range.2 hj,rfl⟩))
  ·exact List.mem_append_right _ (List.mem_append_right _ (List.mem_map.2 ⟨j,List.mem_range.2 hj,rfl⟩))
 have := nodup_le V _ hn hs
 have ht := (ways_ok hl).ts
 simp only [List.length_append,List.length_map,List.length_range] at this
 omega
end Go.Proofs.Ytgjpkpmikbpcnaa
