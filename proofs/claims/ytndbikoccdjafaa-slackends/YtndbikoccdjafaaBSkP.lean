/-
  Plain mathematics for the laws of slack: the last time at or ahead of a time, stages of a way with windows, when one comes to the end, and how late one may come; no program in it.
-/
import Derived.Test.YtndbikoccdjafaaBCStpAG
namespace Go.Proofs.Ytndbikoccdjafaa.Hr
def IsLast (L : List Win) (t : Int) (r : Int × Bool) : Prop :=
 (r.2 = true ∧ r.1 ≤ t ∧ inP L r.1 ∧ ∀ x,x ≤ t → r.1 < x → ¬ inP L x) ∨ (r = (0,false) ∧ ∀ x,x ≤ t → ¬ inP L x)
def lastM (t : Int) (L : List Win) : Int × Bool := lastR t L.reverse
theorem lastR_is (t : Int) : ∀ L : List Win,(∀ w ∈ L,w.1 ≤ w.2) → L.Pairwise (fun u v => v.2 < u.1) → IsLast L t (lastR t L)
 | [],_,_ => .inr ⟨rfl,fun _ _ => inP_nil⟩
 | w :: r,h1,h2 => by
  have hw := h1 w List.mem_cons_self
  have hr := (List.pairwise_cons.1 h2).1
  by_cases ht : w.1 ≤ t
  ·rw [lastR,if_pos ht]
   have hin : ∀ x,w.2 < x → ¬ inP (w :: r) x := fun x hx h => by
    rcases inP_cons.1 h with h | ⟨u,hu,h⟩
    ·omega
    ·have := hr u hu;omega
   by_cases h3 : t < w.2
   ·rw [if_pos h3]
    exact .inl ⟨rfl,Int.le_refl _,inP_cons.2 (.inl ⟨ht,by show t ≤ w.2;omega⟩),fun x h1 h2 => by simp only at h2;omega⟩
   ·rw [if_neg h3]
    exact .inl ⟨rfl,by show w.2 ≤ t;omega,inP_cons.2 (.inl ⟨hw,Int.le_refl _⟩),fun x _ h => hin x h⟩
  ·rw [lastR,if_neg ht]
   have e : ∀ x,x ≤ t → (inP (w :: r) x ↔ inP r x) := fun x hx => by rw [inP_cons];exact ⟨fun h => h.elim (fun h => by omega) id,.inr⟩
   rcases lastR_is t r (fun u hu => h1 u (List.mem_cons_of_mem _ hu)) (List.pairwise_cons.1 h2).2 with ⟨k1,k2,k3,k4⟩ | ⟨k1,k2⟩
   ·exact .inl ⟨k1,k2,(e _ k2).2 k3,fun x hx hl => by rw [e x hx];exact k4 x hx hl⟩
   ·exact .inr ⟨k1,fun x hx => by rw [e x hx];exact k2 x hx⟩
theorem inP_rev {L : List Win} {x : Int} : inP L.reverse x ↔ inP L x := by simp [inP]
theorem lastM_is (t : Int) {L : List Win} (h : Lw L) : IsLast L t (lastM t L) := by
 have := lastR_is t L.reverse (fun w hw => (h.1 w (List.mem_reverse.1 hw)).1) (List.pairwise_reverse.2 h.2)
 unfold IsLast at this ⊢
 simp only [inP_rev] at this
 exact this
theorem start_last {L : List Win} (h : Lw L) (t u : Int) : ((startM t L).2 = true ∧ (startM t L).1 ≤ u) ↔ ((lastM u L).2 = true ∧ t ≤ (lastM u L).1) := by
 rcases startM_is t L h with ⟨h1,h2,h3,h4⟩ | ⟨h1,h2⟩ <;> rcases lastM_is u h with ⟨k1,k2,k3,k4⟩ | ⟨k1,k2⟩
 ·refine ⟨fun e => ⟨k1,?_⟩,fun e => ⟨h1,?_⟩⟩
  ·refine Int.not_lt.1 fun hc => k4 _ e.2 (by omega) h3
  ·refine Int.not_lt.1 fun hc => h4 _ e.2 (by omega) k3
 ·exact ⟨fun e => absurd h3 (k2 _ e.2),fun e => by rw [k1] at e;exact absurd e.1 (by simp)⟩
 ·exact ⟨fun e => by rw [h1] at e;exact absurd e.1 (by simp),fun e => absurd k3 (h2 _ e.2)⟩
 ·exact ⟨fun e => by rw [h1] at e;exact absurd e.1 (by simp),fun e => by rw [k1] at e;exact absurd e.1 (by simp)⟩
theorem last_le {L : List Win} (h : Lw L) (t : Int) (ht : (lastM t L).2 = true) : (lastM t L).1 ≤ t ∧ 0 ≤ (lastM t L).1 := by
 rcases lastM_is t h with ⟨_,k2,⟨w,hw,h3,_⟩,_⟩ | ⟨k1,_⟩
 ·have := h.1 w hw
  exact ⟨k2,by omega⟩
 ·rw [k1] at ht;cases ht
theorem start_ge {L : List Win} (h : Lw L) (t : Int) (ht : (startM t L).2 = true) : t ≤ (startM t L).1 ∧ 0 ≤ (startM t L).1 ∧ (startM t L).1 ≤ 1000000 := by
 rcases startM_is t L h with ⟨_,k2,⟨w,hw,h3,h4⟩,_⟩ | ⟨k1,_⟩
 ·have := h.1 w hw
  exact ⟨k2,by omega,by omega⟩
 ·rw [k1] at ht;cases ht
end Go.Proofs.Ytndbikoccdjafaa.Hr
namespace Go.Proofs.Ytndbikoccdjafaa
abbrev Stg := Option (List Hr.Win) × Int
def fstG : Option (List Hr.Win) → Int → Int × Bool
 | none,t => (t,true)
 | some L,t => Hr.startM t L
def lstG : Option (List Hr.Win) → Int → Int × Bool
 | none,t => (t,true)
 | some L,t => Hr.lastM t L
def endG (to : Int) : List Stg → Int → Option Int
 | [],t => if t ≤ to then some t else none
 | s :: r,t => if (fstG s.1 t).2 = true then endG to r ((fstG s.1 t).1 + s.2) else none
def latG (to : Int) : List Stg → Option (List Int)
 | [] => some [to]
 | s :: r => (latG to r).bind fun l => if (lstG s.1 (l.headD 0 - s.2)).2 = true then some ((lstG s.1 (l.headD 0 - s.2)).1 :: l) else none
def okG (S : List Stg) : Prop := ∀ s ∈ S,∀ L,s.1 = some L → Hr.Lw L
section
variable {to to' : Int} {s : Stg} {S r : List Stg} {l : List Int} {t u : Int}
theorem okG.tail (h : okG (s :: S)) : okG S := fun x hx => h x (List.mem_cons_of_mem _ hx)
theorem okG.drop (h : okG S) (i : Nat) : okG (S.drop i) := fun x hx => h x (List.mem_of_mem_drop hx)
theorem galG (h : okG (s :: S)) (t u : Int) : ((fstG s.1 t).2 = true ∧ (fstG s.1 t).1 ≤ u) ↔ ((lstG s.1 u).2 = true ∧ t ≤ (lstG s.1 u).1) := by
 have hs := h s List.mem_cons_self
 obtain ⟨o,d⟩ := s
 cases o with
 | none => simp [fstG,lstG]
 | some L => exact Hr.start_last (hs L rfl) t u
theorem fst_mono (h : okG (s :: S)) (htu : t ≤ u) (hu : (fstG s.1 u).2 = true) : (fstG s.1 t).2 = true ∧ (fstG s.1 t).1 ≤ (fstG s.1 u).1 := by
 refine (galG h t _).2 ?_
 have := (galG h u (fstG s.1 u).1).1 ⟨hu,Int.le_refl _⟩
 exact ⟨this.1,by omega⟩
theorem lat_cons (h : latG to (s :: r) = some l) : ∃ m,latG to r = some m ∧ (lstG s.1 (m.headD 0 - s.2)).2 = true ∧ l = (lstG s.1 (m.headD 0 - s.2)).1 :: m := by
 unfold latG at h
 cases hm : latG to r with
 | none => rw [hm] at h;cases h
 | some m =>
  rw [hm] at h
  simp only [Option.bind_some] at h
  by_cases hc : (lstG s.1 (m.headD 0 - s.2)).2 = true
  ·rw [if_pos hc] at h
   injection h with h
   exact ⟨m,rfl,hc,h.symm⟩
  ·rw [if_neg hc] at h;cases h
theorem lat_len : ∀ {S : List Stg} {l : List Int},latG to S = some l → l.length = S.length + 1
 | [],l,h => by unfold latG at h;injection h with h;subst h;rfl
 | s :: r,l,h => by
  obtain ⟨m,h1,_,rfl⟩ := lat_cons h
  rw [List.length_cons,lat_len h1,List.length_cons]
theorem lat_end : ∀ {S : List Stg} {l : List Int} {t : Int},okG S → latG to S = some l → ((endG to S t).isSome = true ↔ t ≤ l.headD 0)
 | [],l,t,_,h => by
  unfold latG at h
  injection h with h
  subst h
  unfold endG
  by_cases e : t ≤ to
  ·rw [if_pos e];simpa using e
  ·rw [if_neg e];simpa using e
 | s :: r,l,t,ok,h => by
  obtain ⟨m,h1,h2,rfl⟩ := lat_cons h
  have ih := fun t => lat_end (t := t) ok.tail h1
  unfold endG
  have g := galG ok t (m.headD 0 - s.2)
  by_cases e : (fstG s.1 t).2 = true
  ·rw [if_pos e,ih]
   constructor
   ·intro h
    exact (g.1 ⟨e,by omega⟩).2
   ·intro h
    have := (g.2 ⟨h2,h⟩).2
    omega
  ·rw [if_neg e]
   constructor
   ·intro h;cases h
   ·intro h
    exact absurd (g.2 ⟨h2,h⟩).1 e
theorem end_lat : ∀ {S : List Stg} {t : Int},okG S → (endG to S t).isSome = true → ∃ l,latG to S = some l
 | [],t,_,_ => ⟨_,rfl⟩
 | s :: r,t,ok,h => by
  unfold endG at h
  by_cases e : (fstG s.1 t).2 = true
  ·rw [if_pos e] at h
   obtain ⟨m,hm⟩ := end_lat ok.tail h
   have h9 := (lat_end ok.tail hm).1 h
   have := (galG ok t (m.headD 0 - s.2)).1 ⟨e,by omega⟩
   refine ⟨(lstG s.1 (m.headD 0 - s.2)).1 :: m,?_⟩
   unfold latG
   rw [hm]
   show (if _ then _ else _) = _
   rw [if_pos this.1]
  ·rw [if_neg e] at h;cases h
theorem lat_drop : ∀ (i : Nat) {S : List Stg} {l : List Int},latG to S = some l → i ≤ S.length → latG to (S.drop i) = some (l.drop i)
 | 0,S,l,h,_ => by simpa using h
 | i + 1,[],l,h,hi => by simp at hi
 | i + 1,s :: r,l,h,hi => by
  obtain ⟨m,h1,h2,rfl⟩ := lat_cons h
  exact lat_drop i h1 (by simpa using hi)
theorem headD_drop (l : List Int) (i : Nat) : (l.drop i).headD 0 = l.getD i 0 := by
 rw [List.headD_eq_head?_getD,List.head?_drop,List.getD_eq_getElem?_getD]
theorem lat_end_at {i : Nat} (ok : okG S) (h : latG to S = some l) (hi : i ≤ S.length) : (endG to (S.drop i) t).isSome = true ↔ t ≤ l.getD i 0 := by
 rw [lat_end (ok.drop i) (lat_drop i h hi),headD_drop]
theorem lat_last (h : latG to S = some l) : l.getD S.length 0 = to := by
 have h1 := lat_drop S.length h (Nat.le_refl _)
 rw [List.drop_length] at h1
 unfold latG at h1
 injection h1 with h1
 rw [← headD_drop,← h1]
 rfl
theorem lat_at {i : Nat} (h : latG to S = some l) (hs : S[i]? = some s) : lstG s.1 (l.getD (i + 1) 0 - s.2) = (l.getD i 0,true) := by
 obtain ⟨hi,e⟩ := List.getElem?_eq_some_iff.1 hs
 have h1 := lat_drop i h (by omega)
 rw [List.drop_eq_getElem_cons hi,e] at h1
 obtain ⟨m,k1,k2,k3⟩ := lat_cons h1
 have h2 := lat_drop (i + 1) h (by omega)
 rw [k1] at h2
 injection h2 with h2
 rw [← headD_drop l (i + 1),← h2,← headD_drop l i,k3]
 exact Prod.ext rfl k2
theorem end_stop {i : Nat} (hs : S[i]? = some s) : endG to (S.drop i) t = if (fstG s.1 t).2 = true then endG to (S.drop (i + 1)) ((fstG s.1 t).1 + s.2) else none := by
 obtain ⟨hi,e⟩ := List.getElem?_eq_some_iff.1 hs
 rw [List.drop_eq_getElem_cons hi,e]
 rfl
theorem end_step {i : Nat} (hs : S[i]? = some s) (h : (endG to (S.drop i) t).isSome = true) : (fstG s.1 t).2 = true ∧ endG to (S.drop (i + 1)) ((fstG s.1 t).1 + s.2) = endG to (S.drop i) t := by
 rw [end_stop hs] at h ⊢
 by_cases e : (fstG s.1 t).2 = true
 ·rw [if_pos e];exact ⟨e,rfl⟩
 ·rw [if_neg e] at h;cases h
theorem end_mono : ∀ {S : List Stg} {t u a b : Int},okG S → t ≤ u → endG to S t = some a → endG to S u = some b → a ≤ b
 | [],t,u,a,b,_,h,ha,hb => by
  unfold endG at ha hb
  split at ha
  ·split at hb
   ·injection ha with ha;injection hb with hb;omega
   ·cases hb
  ·cases ha
 | s :: r,t,u,a,b,ok,h,ha,hb => by
  unfold endG at ha hb
  by_cases e : (fstG s.1 u).2 = true
  ·have m := fst_mono ok h e
   rw [if_pos e] at hb
   rw [if_pos m.1] at ha
   exact end_mono ok.tail (by have := m.2;omega) ha hb
  ·rw [if_neg e] at hb;cases hb
end
end Go.Proofs.Ytndbikoccdjafaa
