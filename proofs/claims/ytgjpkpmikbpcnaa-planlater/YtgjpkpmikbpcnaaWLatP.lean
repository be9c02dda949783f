/-
  Plain: a shift that begins later; the same plan comes nowhere earlier.
-/
import Derived.Test.YtgjpkpmikbpcnaaWFitD
import Derived.Test.YtgjpkpmikbpcnaaWOfD0
import Derived.Test.YtgjpkpmikbpcnaaWFitQ
namespace Go.Proofs.Ytgjpkpmikbpcnaa
open Go.RowKit
def laterV (v : Veh) (y : Int) : Veh := ⟨v.start,v.stop,v.cap,v.skills,(y,v.shift.2),v.fixed,v.perT,v.perD,v.maxT,v.brks⟩
def laterP (p : Prb) (k : Nat) (y : Int) : Prb := ⟨p.dims,p.time,p.dist,p.vs.set k (laterV (p.vs.getD k vz) y),p.js,p.ss⟩
theorem start_mono {L : List Win} {t t' : Int} (h : Lw L) (ht : t ≤ t') (hs : (Hr.startM t' L).2 = true) : (Hr.startM t L).2 = true ∧ (Hr.startM t L).1 ≤ (Hr.startM t' L).1 := by
 rcases Hr.startM_is t' L h with ⟨_,k2,k3,_⟩ | ⟨k1,_⟩
 ·rcases Hr.startM_is t L h with ⟨h1,h2,h3,h4⟩ | ⟨_,h2⟩
  ·refine ⟨h1,?_⟩
   by_cases e : (Hr.startM t L).1 ≤ (Hr.startM t' L).1
   ·exact e
   ·exact absurd k3 (h4 _ (by omega) (by omega))
  ·exact absurd k3 (h2 _ (by omega))
 ·rw [k1] at hs;cases hs
section
variable {p : Prb} {k : Nat} {y : Int} {v : Veh}
theorem lat_veh (hk : k < p.vs.length) : (laterP p k y).vs.getD k vz = laterV (p.vs.getD k vz) y := by
 unfold laterP
 rw [List.getD_eq_getElem?_getD,List.getElem?_set_self hk]
 rfl
theorem lat_stop (was : Int) (u : Vst) : stopW (laterP p k y) (laterV v y) was u = stopW p v was u := rfl
theorem lat_gd : ∀ (V P : List Vst),gdF (laterP p k y) P V = gdF p P V
 | [],_ => rfl
 | u :: V,P => by
  unfold gdF
  rw [lat_gd V]
  rfl
theorem lat_whole (V : List Vst) : wholeM (laterP p k y) V = wholeM p V := by
 unfold wholeM
 rw [lat_gd]
theorem lat_go : ∀ (V : List Vst) (xs : List Int),goM (laterP p k y) xs V = goM p xs V
 | [],_ => rfl
 | u :: V,xs => by
  show behindM (laterP p k y) u.1 u.2 xs :: goM (laterP p k y) (behindM (laterP p k y) u.1 u.2 xs) V = _
  rw [lat_go V]
  rfl
theorem lat_start (dd : Nat) (V : List Vst) : startM (laterP p k y) dd V = startM p dd V := rfl
theorem lat_loads (dd : Nat) (V : List Vst) : loadsM (laterP p k y) dd V = loadsM p dd V := by
 unfold loadsM
 rw [lat_go,lat_start]
theorem lat_place (V : List Vst) : ∀ i,i ≤ V.length → ((stopsM (laterP p k y) (laterV v y) V).getD i sz).place = ((stopsM p v V).getD i sz).place ∧ ((stopsM (laterP p k y) (laterV v y) V).getD i sz).serv = ((stopsM p v V).getD i sz).serv ∧ (1 ≤ i → ((stopsM (laterP p k y) (laterV v y) V).getD i sz).wins = ((stopsM p v V).getD i sz).wins)
 | 0,_ => by
  rw [stop_zero,stop_zero]
  exact ⟨rfl,rfl,fun h => by omega⟩
 | i + 1,h => by
  obtain ⟨u,hu⟩ : ∃ u,V[i]? = some u := ⟨_,List.getElem?_eq_getElem (by omega)⟩
  have ih := (lat_place V i (by omega)).1
  rw [stop_at hu,stop_at hu,lat_stop,ih]
  exact ⟨rfl,rfl,fun _ => rfl⟩
theorem lat_travel (m : Mat) (V : List Vst) (i : Nat) (hi : i < V.length + 2) : travelM m (stopsM (laterP p k y) (laterV v y) V) i = travelM m (stopsM p v V) i := by
 cases i with
 | zero => rfl
 | succ i =>
  rw [travelM_succ,travelM_succ,(lat_place V i (by omega)).1]
  by_cases h : i + 1 ≤ V.length
  ·rw [(lat_place V (i + 1) h).1]
  ·have e : i + 1 = V.length + 1 := by omega
   rw [e,stop_end,stop_end]
   rfl
theorem lat_sum (m : Mat) (V : List Vst) : ∀ n,n ≤ V.length + 2 → sumN (travelM m (stopsM (laterP p k y) (laterV v y) V)) n = sumN (travelM m (stopsM p v V)) n := fun n hn => sumN_congr n fun i hi => lat_travel m V i (by omega)
theorem lat_lf (hl : lawM p = true) (hv : VehOk p.dims p.time.n v) (hy : v.shift.1 ≤ y) (hy2 : y ≤ v.shift.2) (V : List Vst) (h : ∀ j,j < V.length + 2 → (begM p.time (stopsM (laterP p k y) (laterV v y) V) y j).2 = true) : ∀ i,i ≤ V.length + 1 → lfM p.time (stopsM p v V) v.shift.1 i ≤ lfM p.time (stopsM (laterP p k y) (laterV v y) V) y i ∧ ∀ j,j < i → (begM p.time (stopsM p v V) v.shift.1 j).2 = true
 | 0,_ => ⟨hy,fun j hj => by omega⟩
 | 1,_ => by
  have e1 := lf_one (p := p) (v := v) (V := V) (by omega)
  have e2 := lf_one (p := laterP p k y) (v := laterV v y) (V := V) (show y ≤ v.shift.2 from hy2)
  refine ⟨by rw [e1];exact Int.le_trans hy (Int.le_of_eq e2.symm),fun j hj => ?_⟩
  have : j = 0 := by omega
  subst this
  rw [first_beg (by omega)]
 | i + 2,hi => by
  obtain ⟨ih,ih2⟩ := lat_lf hl hv hy hy2 V h (i + 1) (by omega)
  have hp := lat_place (p := p) (k := k) (y := y) (v := v) V (i + 1) (by omega)
  have ht := lat_travel (p := p) (k := k) (y := y) (v := v) p.time V (i + 1) (by omega)
  have hso := stops_ok hl hv V (i + 1)
  have hs := h (i + 1) (by omega)
  unfold begM arrM at hs
  rw [ht,hp.2.2 (by omega)] at hs
  have hm := start_mono (t := lfM p.time (stopsM p v V) v.shift.1 (i + 1) + travelM p.time (stopsM p v V) (i + 1)) hso.1 (by omega) hs
  refine ⟨?_,fun j hj => ?_⟩
  ·rw [lfM_succ,lfM_succ,hp.2.1]
   unfold begM arrM
   rw [ht,hp.2.2 (by omega)]
   have := hm.2
   omega
  ·by_cases e : j < i + 1
   ·exact ih2 j e
   ·have : j = i + 1 := by omega
    subst this
    exact hm.1
theorem lat_err (hl : lawM p = true) (hk : k < p.vs.length) (hy : (p.vs.getD k vz).shift.1 ≤ y) (hy2 : y ≤ (p.vs.getD k vz).shift.2) (V : List Vst) (h : errV (laterP p k y) (laterV (p.vs.getD k vz) y) V = 0) : errV p (p.vs.getD k vz) V = 0 ∧ (∀ i,i < V.length + 2 → arrM p.time (stopsM p (p.vs.getD k vz) V) (p.vs.getD k vz).shift.1 i ≤ arrM p.time (stopsM (laterP p k y) (laterV (p.vs.getD k vz) y) V) y i) := by
 obtain ⟨v,hv⟩ : ∃ v,p.vs.getD k vz = v := ⟨_,rfl⟩
 have hvo := veh_ok (law_veh hl hk)
 rw [hv] at hy hy2 h hvo ⊢
 rw [errV_first] at h
 have hf : firstM (laterP p k y) (laterV v y) V = 0 := by
  cases hd : decide (firstM (laterP p k y) (laterV v y) V = 0) with
  | true => exact of_decide_eq_true hd
  | false => rw [hd] at h;exact h
 have hf2 : firstM p v V = 0 := by
  rw [← hf]
  unfold firstM
  have e1 := lat_whole (p := p) (k := k) (y := y) V
  have e2 : ableM (laterP p k y) (laterV v y) V = ableM p v V := rfl
  have e3 : lightM (laterP p k y) (laterP p k y).dims.toNat (laterV v y) V = lightM p p.dims.toNat v V := by
   unfold lightM
   rw [lat_loads]
   rfl
  have e4 : linkedM (laterP p k y) (stopsM (laterP p k y) (laterV v y) V) = linkedM p (stopsM p v V) := by
   unfold linkedM
   rw [stopsM_len,stopsM_len]
   have e : ∀ i,i < V.length + 2 → (decide (0 ≤ travelM (laterP p k y).time (stopsM (laterP p k y) (laterV v y) V) i) && decide (0 ≤ travelM (laterP p k y).dist (stopsM (laterP p k y) (laterV v y) V) i)) = (decide (0 ≤ travelM p.time (stopsM p v V) i) && decide (0 ≤ travelM p.dist (stopsM p v V) i)) := fun i hi => by
    rw [show (laterP p k y).time = p.time from rfl,show (laterP p k y).dist = p.dist from rfl,lat_travel p.time V i hi,lat_travel p.dist V i hi]
   rw [Bool.eq_iff_iff,List.all_eq_true,List.all_eq_true]
   exact ⟨fun h i hi => by rw [← e i (List.mem_range.1 hi)];exact h i hi,fun h i hi => by rw [e i (List.mem_range.1 hi)];exact h i hi⟩
  rw [e1,e2,e3,e4]
  rfl
 rw [hf] at h
 have ht : timelyM p.time (stopsM (laterP p k y) (laterV v y) V) y = true := by
  cases ht : timelyM p.time (stopsM (laterP p k y) (laterV v y) V) y with
  | true => rfl
  | false =>
   have h' : (bif !timelyM p.time (stopsM (laterP p k y) (laterV v y) V) y then (167 : Int) else 0) = 0 := h
   rw [ht] at h'
   cases h'
 have hb : ∀ j,j < V.length + 2 → (begM p.time (stopsM (laterP p k y) (laterV v y) V) y j).2 = true := fun j hj => by
  unfold timelyM at ht
  rw [stopsM_len] at ht
  exact all_get ht hj
 obtain ⟨q1,q2⟩ := lat_lf (k := k) hl hvo hy hy2 V hb (V.length + 1) (Nat.le_refl _)
 have hend := hb (V.length + 1) (by omega)
 have hte := lat_travel (p := p) (k := k) (y := y) (v := v) p.time V (V.length + 1) (by omega)
 have hz : (begM p.time (stopsM p v V) v.shift.1 (V.length + 1)).2 = true := by
  unfold begM arrM at hend ⊢
  rw [hte,stop_end] at hend
  rw [stop_end]
  have hend : (Hr.startM (lfM p.time (stopsM (laterP p k y) (laterV v y) V) y (V.length + 1) + travelM p.time (stopsM p v V) (V.length + 1)) [(y,v.shift.2)]).2 = true := hend
  show (Hr.startM _ [v.shift]).2 = true
  have hle : lfM p.time (stopsM (laterP p k y) (laterV v y) V) y (V.length + 1) + travelM p.time (stopsM p v V) (V.length + 1) ≤ v.shift.2 := by
   by_cases e : lfM p.time (stopsM (laterP p k y) (laterV v y) V) y (V.length + 1) + travelM p.time (stopsM p v V) (V.length + 1) ≤ v.shift.2
   ·exact e
   ·rw [start_over (w := (y,v.shift.2)) e] at hend
    cases hend
  unfold Hr.startM
  rw [if_pos (by omega)]
 refine ⟨?_,fun i hi => ?_⟩
 ·rw [errV_first,hf2,timely_yes fun j hj => ?_]
  ·rfl
  ·by_cases e : j < V.length + 1
   ·exact q2 j e
   ·have : j = V.length + 1 := by omega
    rw [this]
    exact hz
 ·unfold arrM
  rw [lat_travel p.time V i hi]
  have := (lat_lf (k := k) hl hvo hy hy2 V hb i (by omega)).1
  omega
end
end Go.Proofs.Ytgjpkpmikbpcnaa
