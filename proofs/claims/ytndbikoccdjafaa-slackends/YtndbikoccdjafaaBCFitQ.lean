/-
  What is wrong with a list of visits into which breaks are set, plain: all but the times is so wherever the breaks stand.
-/
import Derived.Test.YtndbikoccdjafaaBCFitP
namespace Go.Proofs.Ytndbikoccdjafaa
open Go.RowKit
def nob (V : List Vst) : List Vst := V.filter fun u => decide (u.1 ≠ 4)
theorem nob_brk {u : Vst} {V : List Vst} (h : u.1 = 4) : nob (u :: V) = nob V := by unfold nob;rw [List.filter_cons_of_neg (by simpa using h)]
theorem nob_vis {u : Vst} {V : List Vst} (h : u.1 ≠ 4) : nob (u :: V) = u :: nob V := by unfold nob;rw [List.filter_cons_of_pos (by simpa using h)]
theorem nob_id {V : List Vst} (h : ∀ u ∈ V,u.1 ≠ 4) : nob V = V := List.filter_eq_self.2 fun u hu => by simpa using h u hu
theorem nob_app (A B : List Vst) : nob (A ++ B) = nob A ++ nob B := List.filter_append ..
theorem nob_ins : ∀ (ps : List Nat) (k q : Nat) (L : List Vst),(∀ u ∈ L,u.1 ≠ 4) → nob (insB k q ps L) = L
 | [],_,_,L,h => nob_id h
 | a :: ps,k,q,L,h => by
  show nob (L.take (a - q) ++ ((4,(k : Int)) :: insB (k + 1) a ps (L.drop (a - q)))) = L
  rw [nob_app,nob_brk rfl,nob_ins ps (k + 1) a _ fun u hu => h u (List.mem_of_mem_drop hu),nob_id fun u hu => h u (List.mem_of_mem_take hu),List.take_append_drop]
theorem tasks_nob : ∀ V : List Vst,tasksV V = tasksV (nob V)
 | [] => rfl
 | u :: V => by
  have ih := tasks_nob V
  unfold tasksV at ih ⊢
  by_cases h : u.1 = 4
  ·rw [nob_brk h,← ih]
   have : taskV u = none := by unfold taskV;rw [if_neg (by omega),if_neg (by omega)]
   rw [List.filterMap_cons_none this]
  ·rw [nob_vis h]
   cases ht : taskV u with
   | none => rw [List.filterMap_cons_none ht,List.filterMap_cons_none ht,ih]
   | some t => rw [List.filterMap_cons_some ht,List.filterMap_cons_some ht,ih]
theorem gd_nob (p : Prb) : ∀ (V P P' : List Vst),(∀ u : Vst,u.1 ≠ 4 → (u ∈ P ↔ u ∈ P')) → gdF p P V = gdF p P' (nob V)
 | [],_,_,_ => rfl
 | u :: V,P,P',h => by
  by_cases h4 : u.1 = 4
  ·rw [nob_brk h4]
   show ((decide (u.1 = 4) || _) && gdF p (P ++ [u]) V) = _
   rw [decide_eq_true h4,Bool.true_or,Bool.true_and]
   refine gd_nob p V _ P' fun x hx => ?_
   rw [List.mem_append,h x hx,List.mem_singleton]
   exact ⟨fun e => e.elim id fun e => by rw [e] at hx;exact absurd h4 hx,.inl⟩
  ·rw [nob_vis h4]
   unfold gdF
   rw [gd_nob p V (P ++ [u]) (P' ++ [u]) fun x hx => by rw [List.mem_append,List.mem_append,h x hx]]
   rw [decide_eq_decide.2 (not_congr (h u h4)),decide_eq_decide.2 (h (2,u.2) (show (2 : Int) ≠ 4 by decide))]
theorem mem_nob {u : Vst} {V : List Vst} (h : u.1 ≠ 4) : u ∈ nob V ↔ u ∈ V := by unfold nob;rw [List.mem_filter];simp [h]
theorem whole_nob (p : Prb) (V : List Vst) : wholeM p V = wholeM p (nob V) := by
 unfold wholeM
 rw [gd_nob p V [] [] fun _ _ => Iff.rfl]
 congr 1
 rw [Bool.eq_iff_iff,List.all_eq_true,List.all_eq_true]
 constructor
 ·intro h u hu
  have h1 := h u (List.mem_filter.1 hu).1
  rw [decide_eq_decide.2 (mem_nob (u := (3,u.2)) (show (3 : Int) ≠ 4 by decide))]
  exact h1
 ·intro h u hu
  by_cases h2 : u.1 = 2
  ·have h1 := h u ((mem_nob (by omega)).2 hu)
   rw [decide_eq_decide.2 (mem_nob (u := (3,u.2)) (show (3 : Int) ≠ 4 by decide))] at h1
   exact h1
  ·rw [decide_eq_true h2];rfl
theorem there_brk (p : Prb) (i : Int) : thereV p 4 i = false := by
 cases h : thereV p 4 i with
 | false => rfl
 | true => rcases thereV_cases h with ⟨e,_⟩ | ⟨e,_⟩ | ⟨e,_⟩ <;> simp at e
theorem drop_brk (p : Prb) {u : Vst} (h : u.1 = 4) (xs : List Int) : dropM p u xs = xs := by
 unfold dropM
 first | rw [if_neg (by rw [h];simp)] | (rw [h];simp) | simp [h,there_brk]
theorem behind_brk (p : Prb) {u : Vst} (h : u.1 = 4) (xs : List Int) : behindM p u.1 u.2 xs = xs := behindM_no (by rw [h];exact there_brk p _)
theorem start_nob (p : Prb) (dd : Nat) (V : List Vst) : Go.Proofs.Ytndbikoccdjafaa.startM p dd V = Go.Proofs.Ytndbikoccdjafaa.startM p dd (nob V) := by
 unfold Go.Proofs.Ytndbikoccdjafaa.startM
 generalize List.replicate dd (0 : Int) = xs
 induction V generalizing xs with
 | nil => rfl
 | cons u V ih =>
  by_cases h4 : u.1 = 4
  ·rw [nob_brk h4,List.foldl_cons,drop_brk p h4,ih]
  ·rw [nob_vis h4,List.foldl_cons,List.foldl_cons,ih]
theorem go_nob (p : Prb) (f : List Int → Bool) : ∀ (V : List Vst) (xs : List Int),(xs :: goM p xs V).all f = (xs :: goM p xs (nob V)).all f
 | [],_ => rfl
 | u :: V,xs => by
  by_cases h4 : u.1 = 4
  ·rw [nob_brk h4,← go_nob p f V xs]
   show (xs :: behindM p u.1 u.2 xs :: goM p (behindM p u.1 u.2 xs) V).all f = _
   rw [behind_brk p h4]
   simp only [List.all_cons]
   cases f xs <;> rfl
  ·rw [nob_vis h4]
   show (xs :: behindM p u.1 u.2 xs :: goM p (behindM p u.1 u.2 xs) V).all f = (xs :: behindM p u.1 u.2 xs :: goM p (behindM p u.1 u.2 xs) (nob V)).all f
   rw [List.all_cons,go_nob p f V,List.all_cons (l := _ :: _)]
theorem light_nob (p : Prb) (dd : Nat) (v : Veh) (V : List Vst) : lightM p dd v V = lightM p dd v (nob V) := by
 unfold lightM loadsM
 rw [go_nob,start_nob]
def goL (p : Prb) (v : Veh) : Int → List Vst → Bool
 | was,[] => decide (0 ≤ cellM p.time was v.stop) && decide (0 ≤ cellM p.dist was v.stop)
 | was,u :: L => (decide (0 ≤ cellM p.time was (stopW p v was u).place) && decide (0 ≤ cellM p.dist was (stopW p v was u).place)) && goL p v (stopW p v was u).place L
theorem goL_drop (p : Prb) (v : Veh) (V : List Vst) : ∀ n i,V.length - i = n → i ≤ V.length → goL p v ((stopsM p v V).getD i sz).place (V.drop i) = (List.range (n + 1)).all fun j => decide (0 ≤ travelM p.time (stopsM p v V) (i + 1 + j)) && decide (0 ≤ travelM p.dist (stopsM p v V) (i + 1 + j))
 | 0,i,hn,hi => by
  have e : i = V.length := by omega
  rw [List.drop_eq_nil_of_le (by omega)]
  have h1 : (List.range 1).all (fun j => decide (0 ≤ travelM p.time (stopsM p v V) (i + 1 + j)) && decide (0 ≤ travelM p.dist (stopsM p v V) (i + 1 + j))) = (decide (0 ≤ travelM p.time (stopsM p v V) (i + 1)) && decide (0 ≤ travelM p.dist (stopsM p v V) (i + 1))) := by simp [List.range,List.range.loop]
  rw [h1,travelM_succ,travelM_succ,e,stop_end]
  rfl
 | n + 1,i,hn,hi => by
  have hi2 : i < V.length := by omega
  obtain ⟨u,hu⟩ : ∃ u,V[i]? = some u := ⟨_,List.getElem?_eq_getElem hi2⟩
  have hd : V.drop i = u :: V.drop (i + 1) := by
   rw [List.drop_eq_getElem_cons hi2]
   rw [List.getElem?_eq_getElem hi2] at hu
   injection hu with hu
   rw [hu]
  rw [hd]
  have hs := stop_at (p := p) (v := v) hu
  show ((decide (0 ≤ cellM p.time _ (stopW p v _ u).place) && decide (0 ≤ cellM p.dist _ (stopW p v _ u).place)) && goL p v (stopW p v _ u).place _) = _
  rw [← hs,goL_drop p v V n (i + 1) (by omega) hi2]
  rw [show List.range (n + 1 + 1) = 0 :: (List.range (n + 1)).map Nat.succ from List.range_succ_eq_map,List.all_cons,List.all_map]
  have e0 : i + 1 + 0 = i + 1 := rfl
  rw [e0,travelM_succ,travelM_succ]
  congr 1
  refine List.all_congr rfl fun j => ?_
  show _ = (decide (0 ≤ travelM p.time (stopsM p v V) (i + 1 + Nat.succ j)) && decide (0 ≤ travelM p.dist (stopsM p v V) (i + 1 + Nat.succ j)))
  rw [show i + 1 + Nat.succ j = i + 1 + 1 + j by omega]
theorem linked_go (p : Prb) (v : Veh) (V : List Vst) : linkedM p (stopsM p v V) = goL p v v.start V := by
 have h := goL_drop p v V V.length 0 rfl (Nat.zero_le _)
 rw [stop_zero,List.drop_zero] at h
 have h2 : (endS v v.start).place = v.start := rfl
 rw [h2] at h
 rw [h]
 unfold linkedM
 rw [stopsM_len,show V.length + 2 = (V.length + 1) + 1 by omega,List.range_succ_eq_map,List.all_cons,List.all_map]
 have h0 : (decide (0 ≤ travelM p.time (stopsM p v V) 0) && decide (0 ≤ travelM p.dist (stopsM p v V) 0)) = true := rfl
 rw [h0,Bool.true_and]
 refine List.all_congr rfl fun j => ?_
 show (decide (0 ≤ travelM p.time (stopsM p v V) (Nat.succ j)) && decide (0 ≤ travelM p.dist (stopsM p v V) (Nat.succ j))) = _
 rw [show 0 + 1 + j = Nat.succ j by omega]
def Dg2 (p : Prb) (x : Int) : Prop := cellM p.time x x = 0 ∧ cellM p.dist x x = 0
theorem goL_nob (p : Prb) (v : Veh) (hdw : ∀ was (u : Vst),u.1 ≠ 4 → Dg2 p (stopW p v was u).place) : ∀ (V : List Vst) (was : Int),Dg2 p was → goL p v was V = goL p v was (nob V)
 | [],_,_ => rfl
 | u :: V,was,hd => by
  by_cases h4 : u.1 = 4
  ·rw [nob_brk h4,← goL_nob p v hdw V was hd]
   have hs : (stopW p v was u).place = was := by unfold stopW;rw [if_pos h4]
   show ((decide (0 ≤ cellM p.time was (stopW p v was u).place) && decide (0 ≤ cellM p.dist was (stopW p v was u).place)) && goL p v (stopW p v was u).place V) = _
   rw [hs,hd.1,hd.2]
   rfl
  ·rw [nob_vis h4]
   show ((decide (0 ≤ cellM p.time was (stopW p v was u).place) && decide (0 ≤ cellM p.dist was (stopW p v was u).place)) && goL p v (stopW p v was u).place V) = ((decide (0 ≤ cellM p.time was (stopW p v was u).place) && decide (0 ≤ cellM p.dist was (stopW p v was u).place)) && goL p v (stopW p v was u).place (nob V))
   rw [goL_nob p v hdw V _ (hdw was u h4)]
theorem brkF_vis : ∀ (A B : List Vst) (n : Nat),(∀ u ∈ A,u.1 ≠ 4) → brkF n (A ++ B) = brkF n B
 | [],_,_,_ => rfl
 | u :: A,B,n,h => by
  have h1 := brkF_drop (V := (u :: A) ++ B) (k := 0) (n := n) (v := u) rfl
  rw [List.drop_zero,if_neg (h u (by simp))] at h1
  rw [h1]
  exact brkF_vis A B n fun x hx => h x (by simp [hx])
theorem brkF_ins : ∀ (ps : List Nat) (k q : Nat) (L : List Vst),(∀ u ∈ L,u.1 ≠ 4) → brkF k (insB k q ps L) = some (k + ps.length)
 | [],k,q,L,h => by
  have := brkF_vis L [] k h
  rw [List.append_nil] at this
  show brkF k L = _
  rw [this]
  rfl
 | a :: ps,k,q,L,h => by
  show brkF k (L.take (a - q) ++ ((4,(k : Int)) :: insB (k + 1) a ps (L.drop (a - q)))) = _
  rw [brkF_vis _ _ _ fun u hu => h u (List.mem_of_mem_take hu)]
  have h1 := brkF_drop (V := (4,(k : Int)) :: insB (k + 1) a ps (L.drop (a - q))) (k := 0) (n := k) (v := (4,(k : Int))) rfl
  rw [List.drop_zero,if_pos rfl,if_pos rfl] at h1
  rw [h1]
  show brkF (k + 1) (insB (k + 1) a ps (L.drop (a - q))) = _
  rw [brkF_ins ps (k + 1) a _ fun u hu => h u (List.mem_of_mem_drop hu),List.length_cons]
  congr 1
  omega
def errN (p : Prb) (v : Veh) (V : List Vst) : Int :=
 bif !wholeM p V then 161 else bif !ableM p v V then 163 else bif !smallM v V then 164 else bif !lightM p p.dims.toNat v V then 165 else bif !goL p v v.start V then 166 else 0
theorem errN_ne (p : Prb) (v : Veh) (V : List Vst) : errN p v V ≠ 167 := by
 unfold errN
 cases wholeM p V <;> cases ableM p v V <;> cases smallM v V <;> cases lightM p p.dims.toNat v V <;> cases goL p v v.start V <;> decide
theorem errV_ins {p : Prb} {v : Veh} {V : List Vst} {ps : List Nat} (hs : v.shift.1 ≤ v.shift.2) (hdw : ∀ was (u : Vst),u.1 ≠ 4 → Dg2 p (stopW p v was u).place) (hd : Dg2 p v.start) (hV : ∀ u ∈ V,u.1 ≠ 4) (hps : ps.length = v.brks.length) : errV p v (insB 0 0 ps V) = bif decide (errN p v V = 0) then (bif goT p v v.start v.shift.1 (insB 0 0 ps V) then 0 else 167) else errN p v V := by
 have hn := nob_ins ps 0 0 V hV
 have h1 : wholeM p (insB 0 0 ps V) = wholeM p V := by rw [whole_nob,hn]
 have h2 : restM (insB 0 0 ps V) v.brks.length = true := by unfold restM;rw [brkF_ins ps 0 0 V hV,hps];simp
 have h3 : ableM p v (insB 0 0 ps V) = ableM p v V := by unfold ableM;rw [tasks_nob,hn]
 have h4 : smallM v (insB 0 0 ps V) = smallM v V := by unfold smallM;rw [tasks_nob,hn]
 have h5 : lightM p p.dims.toNat v (insB 0 0 ps V) = lightM p p.dims.toNat v V := by rw [light_nob,hn]
 have h6 : linkedM p (stopsM p v (insB 0 0 ps V)) = goL p v v.start V := by rw [linked_go,goL_nob p v hdw _ _ hd,hn]
 unfold errV errN
 rw [h1,h2,h3,h4,h5,h6,timely_go hs]
 cases wholeM p V <;> cases ableM p v V <;> cases smallM v V <;> cases lightM p p.dims.toNat v V <;> cases goL p v v.start V <;> cases goT p v v.start v.shift.1 (insB 0 0 ps V) <;> rfl
theorem cell_diag {n : Int} {m : Mat} (h : matB n m = true) (hm : SqM m) {x : Int} (h1 : 0 ≤ x) (h2 : x ≤ n - 1) : cellM m x x = 0 := by
 obtain ⟨k1,k2,k3⟩ := hm
 unfold matB at h
 simp only [Bool.and_eq_true] at h
 have hn : m.n = n := of_decide_eq_true h.1.1
 unfold cellM
 rw [if_pos (by rw [Bool.and_eq_true];exact ⟨upB_yes h1 (by omega),upB_yes h1 (by omega)⟩)]
 have e1 : 0 ≤ x * m.n := Int.mul_nonneg h1 (by omega)
 have e0 : x * m.n + x < m.n * m.n := by
  have : x * m.n ≤ (m.n - 1) * m.n := Int.mul_le_mul_of_nonneg_right (by omega) (by omega)
  rw [Int.sub_mul] at this
  omega
 have hi : (x * m.n + x).toNat < m.cells.length := by omega
 have h3 := List.all_eq_true.1 h.2 _ (List.mem_range.2 hi)
 unfold celB at h3
 simp only [Bool.and_eq_true,Bool.not_eq_true',Bool.and_eq_false_iff,decide_eq_false_iff_not] at h3
 rcases h3.2 with h4 | h4
 ·exfalso
  refine h4 ?_
  have e2 : (((x * m.n + x).toNat : Nat) : Int) = x + x * n := by rw [hn];rw [hn] at e1;omega
  rw [e2,Int.add_mul_ediv_right _ _ (by omega),Int.add_mul_emod_self_right,Int.ediv_eq_zero_of_lt h1 (by omega),Int.emod_eq_of_lt h1 (by omega)]
  omega
 ·simpa using h4
theorem stpM_place {p : Prb} (h : lawM p = true) (k i : Int) : 0 ≤ (stpM p k i).place ∧ (stpM p k i).place ≤ p.time.n - 1 := by
 cases ht : thereV p k i with
 | false => rw [stpM_no ht];have := (ways_ok h).st.1;exact ⟨by decide,by show (0 : Int) ≤ _;omega⟩
 | true =>
  rcases thereV_cases ht with ⟨_,j,_,hj,e⟩ | ⟨_,j,_,hj,e⟩ | ⟨_,j,_,hj,e⟩ <;> rw [e]
  ·have := law_job h hj
   unfold jobB at this
   simp only [Bool.and_eq_true] at this
   exact (stpB_ok this.1.1.1.1).2.2
  ·have := law_shp h hj
   unfold shpB at this
   simp only [Bool.and_eq_true] at this
   exact (stpB_ok this.1.1.1.1).2.2
  ·have := law_shp h hj
   unfold shpB at this
   simp only [Bool.and_eq_true] at this
   exact (stpB_ok this.1.1.1.2).2.2
theorem law_mats {p : Prb} (h : lawM p = true) : matB p.time.n p.time = true ∧ matB p.time.n p.dist = true := ⟨(lawM_ok h).2.1,(lawM_ok h).2.2.1⟩
theorem dg_at {p : Prb} (h : lawM p = true) {x : Int} (h1 : 0 ≤ x) (h2 : x ≤ p.time.n - 1) : Dg2 p x := ⟨cell_diag (law_mats h).1 (ways_ok h).st h1 h2,cell_diag (law_mats h).2 (ways_ok h).sd h1 h2⟩
theorem dg_stop {p : Prb} (h : lawM p = true) (v : Veh) (was : Int) (u : Vst) (hu : u.1 ≠ 4) : Dg2 p (stopW p v was u).place := by
 have hp := stpM_place h u.1 u.2
 unfold stopW
 rw [if_neg hu]
 exact dg_at h hp.1 hp.2
def seekP (p : Prb) (v : Veh) (V : List Vst) : Option (List Nat) := seekM p v v.brks v.start v.shift.1 0 V
structure First (p : Prb) (v : Veh) (V : List Vst) (r : Option (List Nat)) : Prop where
 no : r = none → ∀ ps,ps.length = v.brks.length → Vld V.length 0 ps → errV p v (insB 0 0 ps V) = 167
 yes : ∀ ps,r = some ps → ps.length = v.brks.length ∧ Vld V.length 0 ps ∧ errV p v (insB 0 0 ps V) = 0 ∧ ∀ ps',ps'.length = v.brks.length → Vld V.length 0 ps' → lexL ps' ps → errV p v (insB 0 0 ps' V) = 167
theorem vld_zero (m n : Nat) : Vld m 0 (List.replicate n 0) := by
 induction n with
 | zero => trivial
 | succ n ih => exact ⟨Nat.le_refl _,Nat.zero_le _,ih⟩
theorem first_is {p : Prb} {v : Veh} {V : List Vst} {ps0 : List Nat} (hl : lawM p = true) (hv : VehOk p.dims p.time.n v) (hV : ∀ u ∈ V,u.1 ≠ 4) (h0 : ps0.length = v.brks.length) (he : errV p v (insB 0 0 ps0 V) = 167) : First p v V (seekP p v V) := by
 have hs : v.shift.1 ≤ v.shift.2 := by have := hv.shift;omega
 have hdw := dg_stop hl v
 have hd : Dg2 p v.start := by have := hv.start;exact dg_at hl this.1 this.2
 have hn : errN p v V = 0 := by
  rw [errV_ins hs hdw hd hV h0] at he
  cases hz : decide (errN p v V = 0) with
  | true => exact of_decide_eq_true hz
  | false => rw [hz] at he;exact absurd he (errN_ne p v V)
 have hE : ∀ ps,ps.length = v.brks.length → errV p v (insB 0 0 ps V) = bif goT p v v.start v.shift.1 (insB 0 0 ps V) then 0 else 167 := fun ps h => by
  rw [errV_ins hs hdw hd hV h,decide_eq_true hn];rfl
 have hk := seek_is p v (fun was u hu => (hdw was u hu).1) v.brks 0 (fun j _ => by rw [Nat.zero_add]) V v.start v.shift.1 0 hd.1 hV
 refine ⟨fun e ps h1 h2 => ?_,fun ps e => ?_⟩
 ·rw [hE ps h1,hk.no e ps h1 (by rw [Nat.zero_add];exact h2)];rfl
 ·obtain ⟨y1,y2,y3,y4⟩ := hk.yes ps e
  rw [Nat.zero_add] at y2 y4
  exact ⟨y1,y2,by rw [hE ps y1,y3];rfl,fun ps' h1 h2 h3 => by rw [hE ps' h1,y4 ps' h1 h2 h3];rfl⟩
end Go.Proofs.Ytndbikoccdjafaa
