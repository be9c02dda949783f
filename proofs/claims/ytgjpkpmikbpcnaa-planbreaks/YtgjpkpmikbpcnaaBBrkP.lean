/-
  Plain: how far it is, and how long one stays, wherever breaks are set in.
-/
import Derived.Test.YtgjpkpmikbpcnaaWFitQ
namespace Go.Proofs.Ytgjpkpmikbpcnaa
open Go.RowKit
def tourT (p : Prb) (v : Veh) (m : Mat) : Int → List Vst → Int
 | was,[] => cellM m was v.stop
 | was,u :: L => cellM m was (stopW p v was u).place + tourT p v m (stopW p v was u).place L
def servL (p : Prb) (v : Veh) : List Vst → Int
 | [] => 0
 | u :: L => (stopW p v 0 u).serv + servL p v L
theorem stopW_serv (p : Prb) (v : Veh) (a b : Int) (u : Vst) : (stopW p v a u).serv = (stopW p v b u).serv := by
 unfold stopW
 by_cases h : u.1 = 4
 ·rw [if_pos h,if_pos h]
 ·rw [if_neg h,if_neg h]
theorem drop_get {V : List Vst} {i : Nat} {u : Vst} (hu : V[i]? = some u) : V.drop i = u :: V.drop (i + 1) := by
 have hi := (List.getElem?_eq_some_iff.1 hu).1
 rw [List.drop_eq_getElem_cons hi]
 rw [List.getElem?_eq_getElem hi] at hu
 injection hu with hu
 rw [hu]
theorem sum_tour (p : Prb) (v : Veh) (m : Mat) (V : List Vst) : ∀ n i,V.length - i = n → i ≤ V.length → sumN (travelM m (stopsM p v V)) (i + 1) + tourT p v m ((stopsM p v V).getD i sz).place (V.drop i) = sumN (travelM m (stopsM p v V)) (V.length + 2)
 | 0,i,hn,hi => by
  have e : i = V.length := by omega
  rw [List.drop_eq_nil_of_le (by omega),e]
  show _ + cellM m _ v.stop = sumN (travelM m (stopsM p v V)) (V.length + 1) + travelM m (stopsM p v V) (V.length + 1)
  rw [travelM_succ,stop_end]
  rfl
 | n + 1,i,hn,hi => by
  obtain ⟨u,hu⟩ : ∃ u,V[i]? = some u := ⟨_,List.getElem?_eq_getElem (by omega)⟩
  rw [drop_get hu,← sum_tour p v m V n (i + 1) (by omega) (by omega)]
  show _ + (cellM m _ (stopW p v _ u).place + tourT p v m (stopW p v _ u).place (V.drop (i + 1))) = (sumN (travelM m (stopsM p v V)) (i + 1) + travelM m (stopsM p v V) (i + 1)) + _
  rw [travelM_succ,stop_at hu]
  omega
theorem sum_tour0 (p : Prb) (v : Veh) (m : Mat) (V : List Vst) : sumN (travelM m (stopsM p v V)) (V.length + 2) = tourT p v m v.start V := by
 rw [← sum_tour p v m V V.length 0 rfl (Nat.zero_le _),stop_zero,List.drop_zero]
 show 0 + 0 + tourT p v m v.start V = _
 omega
theorem sum_serv (p : Prb) (v : Veh) (V : List Vst) : ∀ n i,V.length - i = n → i ≤ V.length → sumN (servM (stopsM p v V)) (i + 1) + servL p v (V.drop i) = sumN (servM (stopsM p v V)) (V.length + 2)
 | 0,i,hn,hi => by
  have e : i = V.length := by omega
  rw [List.drop_eq_nil_of_le (by omega),e]
  show _ + 0 = sumN (servM (stopsM p v V)) (V.length + 1) + ((stopsM p v V).getD (V.length + 1) sz).serv
  rw [stop_end]
  rfl
 | n + 1,i,hn,hi => by
  obtain ⟨u,hu⟩ : ∃ u,V[i]? = some u := ⟨_,List.getElem?_eq_getElem (by omega)⟩
  rw [drop_get hu,← sum_serv p v V n (i + 1) (by omega) (by omega)]
  show _ + ((stopW p v 0 u).serv + servL p v (V.drop (i + 1))) = (sumN (servM (stopsM p v V)) (i + 1) + ((stopsM p v V).getD (i + 1) sz).serv) + _
  rw [stop_at hu]
  have := stopW_serv p v ((stopsM p v V).getD i sz).place 0 u
  omega
theorem sum_serv0 (p : Prb) (v : Veh) (V : List Vst) : sumN (servM (stopsM p v V)) (V.length + 2) = servL p v V := by
 rw [← sum_serv p v V V.length 0 rfl (Nat.zero_le _),List.drop_zero]
 show 0 + ((stopsM p v V).getD 0 sz).serv + servL p v V = _
 rw [stop_zero]
 show 0 + 0 + _ = _
 omega
theorem tour_nob (p : Prb) (v : Veh) (m : Mat) (hm : ∀ x,Dg2 p x → cellM m x x = 0) (hdw : ∀ was (u : Vst),u.1 ≠ 4 → Dg2 p (stopW p v was u).place) : ∀ (V : List Vst) (was : Int),Dg2 p was → tourT p v m was V = tourT p v m was (nob V)
 | [],_,_ => rfl
 | u :: V,was,h => by
  by_cases h4 : u.1 = 4
  ·rw [nob_brk h4]
   show cellM m was (stopW p v was u).place + tourT p v m (stopW p v was u).place V = _
   have e : (stopW p v was u).place = was := by unfold stopW;rw [if_pos h4]
   rw [e,hm was h,tour_nob p v m hm hdw V was h]
   omega
  ·rw [nob_vis h4]
   show cellM m was (stopW p v was u).place + tourT p v m (stopW p v was u).place V = cellM m was (stopW p v was u).place + tourT p v m (stopW p v was u).place (nob V)
   rw [tour_nob p v m hm hdw V _ (hdw was u h4)]
def brkS (v : Veh) : Nat → Nat → Int
 | _,0 => 0
 | k,n + 1 => (v.brks.getD k bz).serv + brkS v (k + 1) n
theorem servL_app (p : Prb) (v : Veh) : ∀ A B : List Vst,servL p v (A ++ B) = servL p v A + servL p v B
 | [],B => by show servL p v B = 0 + servL p v B;omega
 | u :: A,B => by
  show (stopW p v 0 u).serv + servL p v (A ++ B) = (stopW p v 0 u).serv + servL p v A + servL p v B
  rw [servL_app p v A B]
  omega
theorem servL_ins (p : Prb) (v : Veh) : ∀ (ps : List Nat) (k q : Nat) (L : List Vst),servL p v (insB k q ps L) = servL p v L + brkS v k ps.length
 | [],k,q,L => by show servL p v L = servL p v L + 0;omega
 | a :: ps,k,q,L => by
  show servL p v (L.take (a - q) ++ ((4,(k : Int)) :: insB (k + 1) a ps (L.drop (a - q)))) = servL p v L + ((v.brks.getD k bz).serv + brkS v (k + 1) ps.length)
  rw [servL_app]
  show _ + ((stopW p v 0 (4,(k : Int))).serv + servL p v (insB (k + 1) a ps (L.drop (a - q)))) = _
  rw [servL_ins p v ps (k + 1) a]
  have e : (stopW p v 0 (4,(k : Int))).serv = (v.brks.getD k bz).serv := by unfold stopW;rw [if_pos rfl];rfl
  have e2 : servL p v L = servL p v (L.take (a - q)) + servL p v (L.drop (a - q)) := by rw [← servL_app,List.take_append_drop]
  rw [e,e2]
  omega
section
variable {p : Prb} {v : Veh} {V : List Vst} {ps : List Nat}
theorem plan_time (vi : Int) (V : List Vst) : (planM p vi v V).time = tourT p v p.time v.start V := by
 show sumN _ (stopsM p v V).length = _
 rw [stopsM_len,sum_tour0]
theorem plan_dist (vi : Int) (V : List Vst) : (planM p vi v V).dist = tourT p v p.dist v.start V := by
 show sumN _ (stopsM p v V).length = _
 rw [stopsM_len,sum_tour0]
theorem plan_serv (vi : Int) (V : List Vst) : (planM p vi v V).serv = servL p v V := by
 show sumN _ (stopsM p v V).length = _
 rw [stopsM_len,sum_serv0]
theorem plan_cost (vi : Int) (V : List Vst) : (planM p vi v V).cost = v.fixed + (planM p vi v V).time * v.perT + (planM p vi v V).dist * v.perD := rfl
theorem brk_plan (hl : lawM p = true) (hv : VehOk p.dims p.time.n v) (hV : ∀ u ∈ V,u.1 ≠ 4) (vi : Int) : (planM p vi v (insB 0 0 ps V)).time = tourT p v p.time v.start V ∧ (planM p vi v (insB 0 0 ps V)).dist = tourT p v p.dist v.start V ∧ (planM p vi v (insB 0 0 ps V)).serv = servL p v V + brkS v 0 ps.length := by
 have hdw := dg_stop hl v
 have hd : Dg2 p v.start := by have := hv.start;exact dg_at hl this.1 this.2
 refine ⟨?_,?_,?_⟩
 ·rw [plan_time,tour_nob p v p.time (fun x h => h.1) hdw _ _ hd,nob_ins _ _ _ _ hV]
 ·rw [plan_dist,tour_nob p v p.dist (fun x h => h.2) hdw _ _ hd,nob_ins _ _ _ _ hV]
 ·rw [plan_serv,servL_ins]
end
end Go.Proofs.Ytgjpkpmikbpcnaa
