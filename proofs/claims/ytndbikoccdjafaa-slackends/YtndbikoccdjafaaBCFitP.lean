/-
  Placing breaks, plain: what a search for their places finds; no program in it.
-/
import Derived.Test.YtndbikoccdjafaaBCPlBG
import Derived.Test.YtndbikoccdjafaaBCRSetG
namespace Go.Proofs.Ytndbikoccdjafaa
open Go.RowKit
def goT (p : Prb) (v : Veh) : Int → Int → List Vst → Bool
 | was,left,[] => (Hr.startM (left + cellM p.time was v.stop) [v.shift]).2
 | was,left,u :: L => (Hr.startM (left + cellM p.time was (stopW p v was u).place) (stopW p v was u).wins).2 && goT p v (stopW p v was u).place ((Hr.startM (left + cellM p.time was (stopW p v was u).place) (stopW p v was u).wins).1 + (stopW p v was u).serv) L
theorem goT_drop (p : Prb) (v : Veh) (V : List Vst) (f : Int) : ∀ n i,V.length - i = n → i ≤ V.length → goT p v ((stopsM p v V).getD i sz).place (lfM p.time (stopsM p v V) f (i + 1)) (V.drop i) = (List.range (n + 1)).all fun j => (begM p.time (stopsM p v V) f (i + 1 + j)).2
 | 0,i,hn,hi => by
  have e : i = V.length := by omega
  rw [List.drop_eq_nil_of_le (by omega)]
  show (Hr.startM _ _).2 = _
  have h1 : (List.range 1).all (fun j => (begM p.time (stopsM p v V) f (i + 1 + j)).2) = (begM p.time (stopsM p v V) f (i + 1)).2 := by simp [List.range,List.range.loop]
  rw [h1]
  unfold begM arrM
  rw [travelM_succ,e,stop_end]
  rfl
 | n + 1,i,hn,hi => by
  have hi2 : i < V.length := by omega
  obtain ⟨u,hu⟩ : ∃ u,V[i]? = some u := ⟨_,List.getElem?_eq_getElem hi2⟩
  have hd : V.drop i = u :: V.drop (i + 1) := by
   rw [List.drop_eq_getElem_cons hi2]
   rw [List.getElem?_eq_getElem hi2] at hu
   injection hu with hu
   rw [hu]
  rw [hd]
  have hs := stop_at (p := p) (v := v) hu
  have hb : begM p.time (stopsM p v V) f (i + 1) = Hr.startM (lfM p.time (stopsM p v V) f (i + 1) + cellM p.time ((stopsM p v V).getD i sz).place (stopW p v ((stopsM p v V).getD i sz).place u).place) (stopW p v ((stopsM p v V).getD i sz).place u).wins := by
   unfold begM arrM
   rw [travelM_succ,hs]
  show ((Hr.startM _ _).2 && goT p v _ _ _) = _
  rw [← hb]
  have hl : (begM p.time (stopsM p v V) f (i + 1)).1 + (stopW p v ((stopsM p v V).getD i sz).place u).serv = lfM p.time (stopsM p v V) f (i + 1 + 1) := by rw [lfM_succ p.time _ f (i + 1),hs]
  rw [hl,← hs,goT_drop p v V f n (i + 1) (by omega) hi2]
  rw [show List.range (n + 1 + 1) = 0 :: (List.range (n + 1)).map Nat.succ from List.range_succ_eq_map,List.all_cons,List.all_map]
  congr 1
  refine List.all_congr rfl fun j => ?_
  show _ = (begM p.time (stopsM p v V) f (i + 1 + Nat.succ j)).2
  rw [show i + 1 + Nat.succ j = i + 1 + 1 + j by omega]
theorem timely_go {p : Prb} {v : Veh} (hs : v.shift.1 ≤ v.shift.2) (V : List Vst) : timelyM p.time (stopsM p v V) v.shift.1 = goT p v v.start v.shift.1 V := by
 have h0 : begM p.time (stopsM p v V) v.shift.1 0 = (v.shift.1,true) := by
  unfold begM arrM
  rw [stop_zero]
  show Hr.startM (v.shift.1 + 0) [v.shift] = _
  unfold Hr.startM
  rw [Int.add_zero,if_pos hs,if_neg (by omega)]
 have h := goT_drop p v V v.shift.1 V.length 0 rfl (Nat.zero_le _)
 have h1 : lfM p.time (stopsM p v V) v.shift.1 (0 + 1) = v.shift.1 := by rw [lfM_succ,h0,stop_zero];show v.shift.1 + 0 = _;omega
 rw [h1,stop_zero,List.drop_zero] at h
 have h2 : (endS v v.start).place = v.start := rfl
 rw [h2] at h
 rw [h]
 unfold timelyM
 rw [stopsM_len,show V.length + 2 = (V.length + 1) + 1 by omega,List.range_succ_eq_map,List.all_cons,List.all_map,h0]
 simp only [Bool.true_and]
 refine List.all_congr rfl fun j => ?_
 show (begM _ _ _ (Nat.succ j)).2 = _
 rw [show 0 + 1 + j = Nat.succ j by omega]
def insB : Nat → Nat → List Nat → List Vst → List Vst
 | _,_,[],L => L
 | k,q,a :: ps,L => L.take (a - q) ++ ((4,(k : Int)) :: insB (k + 1) a ps (L.drop (a - q)))
def Vld (m : Nat) : Nat → List Nat → Prop
 | _,[] => True
 | q,a :: ps => q ≤ a ∧ a ≤ m ∧ Vld m a ps
theorem setF_ins (V : List Vst) : ∀ (ps : List Nat) (k q : Nat),Vld V.length q ps → setF V k q (ps.map fun n : Nat => (n : Int)) = insB k q ps (V.drop q)
 | [],k,q,_ => rfl
 | a :: ps,k,q,⟨h1,h2,h3⟩ => by
  show (V.drop q).take (clampM (a : Int) q V.length - q) ++ ((4,(k : Int)) :: setF V (k + 1) (clampM (a : Int) q V.length) (ps.map fun n : Nat => (n : Int))) = (V.drop q).take (a - q) ++ ((4,(k : Int)) :: insB (k + 1) a ps ((V.drop q).drop (a - q)))
  rw [clamp_in h1 h2,setF_ins V ps (k + 1) a h3,List.drop_drop,show q + (a - q) = a by omega]
theorem setM_ins {V : List Vst} {ps : List Nat} (h : Vld V.length 0 ps) : setM V (ps.map fun n : Nat => (n : Int)) = insB 0 0 ps V := by
 unfold setM
 rw [setF_ins V ps 0 0 h,List.drop_zero]
theorem ins_here (k q : Nat) (ps : List Nat) (L : List Vst) : insB k q (q :: ps) L = (4,(k : Int)) :: insB (k + 1) q ps L := by
 show L.take (q - q) ++ ((4,(k : Int)) :: insB (k + 1) q ps (L.drop (q - q))) = _
 rw [Nat.sub_self]
 rfl
theorem ins_next {k q a : Nat} {ps : List Nat} {u : Vst} {L : List Vst} (h : q + 1 ≤ a) : insB k q (a :: ps) (u :: L) = u :: insB k (q + 1) (a :: ps) L := by
 show (u :: L).take (a - q) ++ ((4,(k : Int)) :: insB (k + 1) a ps ((u :: L).drop (a - q))) = u :: (L.take (a - (q + 1)) ++ ((4,(k : Int)) :: insB (k + 1) a ps (L.drop (a - (q + 1)))))
 obtain ⟨d,hd⟩ : ∃ d,a - q = d + 1 := ⟨a - q - 1,by omega⟩
 rw [hd,show a - (q + 1) = d by omega]
 rfl
def seekB (p : Prb) (v : Veh) (b : Brk) (F : Int → Int → Nat → List Vst → Option (List Nat)) : Int → Int → Nat → List Vst → Option (List Nat)
 | was,left,q,[] => bif (Hr.startM left b.wins).2 then (F was ((Hr.startM left b.wins).1 + b.serv) q []).map (q :: ·) else none
 | was,left,q,u :: L =>
  match (bif (Hr.startM left b.wins).2 then F was ((Hr.startM left b.wins).1 + b.serv) q (u :: L) else none) with
  | some ps => some (q :: ps)
  | none => bif (Hr.startM (left + cellM p.time was (stopW p v was u).place) (stopW p v was u).wins).2 then seekB p v b F (stopW p v was u).place ((Hr.startM (left + cellM p.time was (stopW p v was u).place) (stopW p v was u).wins).1 + (stopW p v was u).serv) (q + 1) L else none
def seekM (p : Prb) (v : Veh) : List Brk → Int → Int → Nat → List Vst → Option (List Nat)
 | [] => fun was left _ L => bif goT p v was left L then some [] else none
 | b :: B => seekB p v b (seekM p v B)
def lexL : List Nat → List Nat → Prop
 | a :: xs,b :: ys => a < b ∨ (a = b ∧ lexL xs ys)
 | _,_ => False
def Dg (p : Prb) (x : Int) : Prop := cellM p.time x x = 0
structure Sought (p : Prb) (v : Veh) (k : Nat) (B : List Brk) (was left : Int) (q : Nat) (L : List Vst) (r : Option (List Nat)) : Prop where
 no : r = none → ∀ ps,ps.length = B.length → Vld (q + L.length) q ps → goT p v was left (insB k q ps L) = false
 yes : ∀ ps,r = some ps → ps.length = B.length ∧ Vld (q + L.length) q ps ∧ goT p v was left (insB k q ps L) = true ∧ ∀ ps',ps'.length = B.length → Vld (q + L.length) q ps' → lexL ps' ps → goT p v was left (insB k q ps' L) = false
theorem go_break {p : Prb} {v : Veh} {k : Nat} {b : Brk} {was left : Int} {L : List Vst} (hd : Dg p was) (hb : v.brks.getD k bz = b) : goT p v was left ((4,(k : Int)) :: L) = ((Hr.startM left b.wins).2 && goT p v was ((Hr.startM left b.wins).1 + b.serv) L) := by
 have hs : stopW p v was (4,(k : Int)) = ⟨was,b.serv,b.wins⟩ := by
  unfold stopW
  rw [if_pos rfl]
  show (⟨was,(v.brks.getD k bz).serv,(v.brks.getD k bz).wins⟩ : Stp) = _
  rw [hb]
 show ((Hr.startM (left + cellM p.time was (stopW p v was (4,(k : Int))).place) _).2 && goT p v _ _ L) = _
 rw [hs]
 have hd : cellM p.time was was = 0 := hd
 simp only [hd,Int.add_zero]
theorem seek_is (p : Prb) (v : Veh) (hdw : ∀ was (u : Vst),u.1 ≠ 4 → Dg p (stopW p v was u).place) : ∀ (B : List Brk) (k : Nat),(∀ j,j < B.length → v.brks.getD (k + j) bz = B.getD j bz) → ∀ (L : List Vst) (was left : Int) (q : Nat),Dg p was → (∀ u ∈ L,u.1 ≠ 4) → Sought p v k B was left q L (seekM p v B was left q L)
 | [],k,_,L,was,left,q,_,_ => by
  show Sought p v k [] was left q L (bif goT p v was left L then some [] else none)
  cases hg : goT p v was left L with
  | true =>
   refine ⟨fun e => by simp at e,fun ps e => ?_⟩
   simp at e
   subst e
   exact ⟨rfl,trivial,hg,fun ps' h' _ hx => by cases ps' <;> simp [lexL] at h' hx⟩
  | false =>
   refine ⟨fun _ ps h' _ => ?_,fun ps e => by simp at e⟩
   cases ps with
   | nil => exact hg
   | cons => simp at h'
 | b :: B,k,hB,L,was,left,q,hdg,hL => by
  have hb : v.brks.getD k bz = b := hB 0 (by simp)
  have hB' : ∀ j,j < B.length → v.brks.getD (k + 1 + j) bz = B.getD j bz := fun j hj => by
   have := hB (j + 1) (by simp;omega)
   rw [show k + (j + 1) = k + 1 + j by omega] at this
   exact this
  -- the break here
  have here : ∀ (was left : Int) (q : Nat) (L : List Vst),Dg p was → (∀ u ∈ L,u.1 ≠ 4) → Sought p v (k + 1) B was ((Hr.startM left b.wins).1 + b.serv) q L (seekM p v B was ((Hr.startM left b.wins).1 + b.serv) q L) := fun was left q L h1 h2 => seek_is p v hdw B (k + 1) hB' L was _ q h1 h2
  induction L generalizing was left q with
  | nil =>
   have h1 := here was left q [] hdg hL
   show Sought p v k (b :: B) was left q [] (bif (Hr.startM left b.wins).2 then (seekM p v B was ((Hr.startM left b.wins).1 + b.serv) q []).map (q :: ·) else none)
   have only : ∀ ps,ps.length = (b :: B).length → Vld (q + ([] : List Vst).length) q ps → ∃ ps',ps = q :: ps' ∧ ps'.length = B.length ∧ Vld (q + ([] : List Vst).length) q ps' := fun ps hl hv => by
    cases ps with
    | nil => simp at hl
    | cons a ps =>
     have ha : a = q := by have := hv.1;have h2 := hv.2.1;simp at h2;omega
     subst ha
     exact ⟨ps,rfl,by simpa using hl,hv.2.2⟩
   cases hs : (Hr.startM left b.wins).2 with
   | false =>
    refine ⟨fun _ ps hl hv => ?_,fun ps e => by simp at e⟩
    obtain ⟨ps',rfl,_,_⟩ := only ps hl hv
    rw [ins_here,go_break hdg hb,hs]
    rfl
   | true =>
    rw [cond_true]
    cases hr : seekM p v B was ((Hr.startM left b.wins).1 + b.serv) q [] with
    | none =>
     rw [hr] at h1
     refine ⟨fun _ ps hl hv => ?_,fun ps e => by simp at e⟩
     obtain ⟨ps',rfl,l',v'⟩ := only ps hl hv
     rw [ins_here,go_break hdg hb,h1.no rfl ps' l' v',Bool.and_false]
    | some ps0 =>
     rw [hr] at h1
     obtain ⟨y1,y2,y3,y4⟩ := h1.yes ps0 rfl
     refine ⟨fun e => by simp at e,fun ps e => ?_⟩
     simp at e
     subst e
     refine ⟨by simp [y1],⟨Nat.le_refl _,by simp,y2⟩,by rw [ins_here,go_break hdg hb,hs,y3];rfl,fun ps' hl hv hx => ?_⟩
     obtain ⟨ps2,rfl,l',v'⟩ := only ps' hl hv
     rw [ins_here,go_break hdg hb]
     rcases hx with hx | ⟨_,hx⟩
     ·exact absurd hx (Nat.lt_irrefl _)
     ·rw [y4 ps2 l' v' hx,Bool.and_false]
  | cons u L ih =>
   have h1 := here was left q (u :: L) hdg hL
   have hu : u.1 ≠ 4 := hL u (by simp)
   have hL2 : ∀ x ∈ L,x.1 ≠ 4 := fun x hx => hL x (by simp [hx])
   obtain ⟨s,hs⟩ : ∃ s,stopW p v was u = s := ⟨_,rfl⟩
   have hds : Dg p s.place := by rw [← hs];exact hdw was u hu
   obtain ⟨st,ok,hst⟩ : ∃ st ok,Hr.startM (left + cellM p.time was s.place) s.wins = (st,ok) := ⟨_,_,rfl⟩
   have h2 := ih s.place (st + s.serv) (q + 1) hds hL2
   -- ps either begins here or goes on
   have two : ∀ ps,ps.length = (b :: B).length → Vld (q + (u :: L).length) q ps → (∃ ps',ps = q :: ps' ∧ ps'.length = B.length ∧ Vld (q + (u :: L).length) q ps') ∨ (Vld (q + 1 + L.length) (q + 1) ps ∧ (∃ a ps',ps = a :: ps' ∧ q + 1 ≤ a)) := fun ps hl hv => by
    cases ps with
    | nil => simp at hl
    | cons a ps =>
     by_cases ha : a = q
     ·subst ha
      exact .inl ⟨ps,rfl,by simpa using hl,hv.2.2⟩
     ·have h3 := hv.1
      have h4 := hv.2
      rw [show q + (u :: L).length = q + 1 + L.length by simp;omega] at h4
      exact .inr ⟨⟨by omega,h4⟩,a,ps,rfl,by omega⟩
   have back : ∀ ps,Vld (q + 1 + L.length) (q + 1) ps → Vld (q + (u :: L).length) q ps := fun ps hv => by
    rw [show q + (u :: L).length = q + 1 + L.length by simp;omega]
    cases ps with
    | nil => trivial
    | cons a ps => exact ⟨by have := hv.1;omega,hv.2⟩
   have on : ∀ a ps',q + 1 ≤ a → goT p v was left (insB k q (a :: ps') (u :: L)) = (ok && goT p v s.place (st + s.serv) (insB k (q + 1) (a :: ps') L)) := fun a ps' ha => by
    rw [ins_next ha]
    show ((Hr.startM (left + cellM p.time was (stopW p v was u).place) _).2 && goT p v _ _ _) = _
    rw [hs,hst]
   show Sought p v k (b :: B) was left q (u :: L) (match (bif (Hr.startM left b.wins).2 then seekM p v B was ((Hr.startM left b.wins).1 + b.serv) q (u :: L) else none) with
    | some ps => some (q :: ps)
    | none => bif (Hr.startM (left + cellM p.time was (stopW p v was u).place) (stopW p v was u).wins).2 then seekB p v b (seekM p v B) (stopW p v was u).place ((Hr.startM (left + cellM p.time was (stopW p v was u).place) (stopW p v was u).wins).1 + (stopW p v was u).serv) (q + 1) L else none)
   rw [hs,hst]
   -- what begins here is not in time
   have rest : (∀ ps',ps'.length = B.length → Vld (q + (u :: L).length) q ps' → goT p v was left (insB k q (q :: ps') (u :: L)) = false) → Sought p v k (b :: B) was left q (u :: L) (bif ok then seekB p v b (seekM p v B) s.place (st + s.serv) (q + 1) L else none) := fun hno => by
    have h2 : Sought p v k (b :: B) s.place (st + s.serv) (q + 1) L (seekB p v b (seekM p v B) s.place (st + s.serv) (q + 1) L) := h2
    cases ok with
    | false =>
     refine ⟨fun _ ps hl hv => ?_,fun ps e => by simp at e⟩
     rcases two ps hl hv with ⟨ps',rfl,l',v'⟩ | ⟨v',a,ps',rfl,ha⟩
     ·exact hno ps' l' v'
     ·rw [on a ps' ha];rfl
    | true =>
     rw [cond_true]
     refine ⟨fun e ps hl hv => ?_,fun ps e => ?_⟩
     ·rcases two ps hl hv with ⟨ps',rfl,l',v'⟩ | ⟨v',a,ps',rfl,ha⟩
      ·exact hno ps' l' v'
      ·rw [on a ps' ha,h2.no e _ hl v'];rfl
     ·obtain ⟨y1,y2,y3,y4⟩ := h2.yes ps e
      cases ps with
      | nil => simp at y1
      | cons a ps' =>
       have ha : q + 1 ≤ a := y2.1
       refine ⟨y1,back _ y2,by rw [on a ps' ha,y3];rfl,fun pt hl hv hx => ?_⟩
       rcases two pt hl hv with ⟨pt',rfl,l',v'⟩ | ⟨v',a',pt',rfl,ha'⟩
       ·exact hno pt' l' v'
       ·rw [on a' pt' ha',y4 _ hl v' hx];rfl
   cases hsb : (Hr.startM left b.wins).2 with
   | false =>
    refine rest fun ps' l' v' => ?_
    rw [ins_here,go_break hdg hb,hsb]
    rfl
   | true =>
    rw [cond_true]
    cases hr : seekM p v B was ((Hr.startM left b.wins).1 + b.serv) q (u :: L) with
    | none =>
     rw [hr] at h1
     refine rest fun ps' l' v' => ?_
     rw [ins_here,go_break hdg hb,h1.no rfl ps' l' v',Bool.and_false]
    | some ps0 =>
     rw [hr] at h1
     obtain ⟨y1,y2,y3,y4⟩ := h1.yes ps0 rfl
     refine ⟨fun e => by simp at e,fun ps e => ?_⟩
     simp at e
     subst e
     refine ⟨by simp [y1],⟨Nat.le_refl _,by simp,y2⟩,by rw [ins_here,go_break hdg hb,hsb,y3];rfl,fun pt hl hv hx => ?_⟩
     rcases two pt hl hv with ⟨pt',rfl,l',v'⟩ | ⟨v',a',pt',rfl,ha'⟩
     ·rcases hx with hx | ⟨_,hx⟩
      ·exact absurd hx (Nat.lt_irrefl _)
      ·rw [ins_here,go_break hdg hb,y4 pt' l' v' hx,Bool.and_false]
     ·rcases hx with hx | ⟨hx,_⟩ <;> omega
end Go.Proofs.Ytndbikoccdjafaa
