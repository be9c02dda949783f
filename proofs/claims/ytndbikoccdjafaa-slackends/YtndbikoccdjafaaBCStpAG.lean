/-
  Several texts in one: CStpA CHPlain CHWins.
-/
import Derived.Test.YtndbikoccdjafaaProg
import Derived.WalkKit
import Derived.WalkSpells
import Derived.WalkLawsBesides
import Derived.Deep.QuietTactic
import Derived.BigQuiet
import Derived.BigRegion
import Derived.Deep.RegionWith
import Derived.Deep.RegionHeld
import Derived.Laws.AppendOwnNone
import Derived.Laws.OwnMore
import Derived.Shelf.Abstract
import Derived.Test.YtndbikoccdjafaaBCStpM
namespace Go.Proofs.Ytndbikoccdjafaa
open Go.RowKit
def stpM (p : Prb) (k i : Int) : Stp := if thereV p k i = true then (if k = 1 then (p.js.getD i.toNat jz).stop else if k = 2 then (p.ss.getD i.toNat hz).pick else (p.ss.getD i.toNat hz).deli) else sz
theorem stpM_no {p : Prb} {k i : Int} (h : thereV p k i = false) : stpM p k i = sz := by unfold stpM;rw [h];rfl
theorem ofM_cases (k i : Int) : (k = 1 ∧ ofM k i = ((false,i),true)) ∨ (k = 2 ∧ ofM k i = ((true,i),true)) ∨ (k = 3 ∧ ofM k i = ((true,i),true)) ∨ (k ≠ 1 ∧ k ≠ 2 ∧ k ≠ 3 ∧ ofM k i = ((false,0),false)) := by
 unfold ofM
 by_cases h1 : k = 1
 ·exact .inl ⟨h1,by rw [if_pos h1]⟩
 ·by_cases h2 : k = 2
  ·exact .inr (.inl ⟨h2,by rw [if_neg h1,if_pos h2]⟩)
  ·by_cases h3 : k = 3
   ·exact .inr (.inr (.inl ⟨h3,by rw [if_neg h1,if_neg h2,if_pos h3]⟩))
   ·exact .inr (.inr (.inr ⟨h1,h2,h3,by rw [if_neg h1,if_neg h2,if_neg h3]⟩))
theorem thereV_cases {p : Prb} {k i : Int} (h : thereV p k i = true) : (k = 1 ∧ ∃ j : Nat,i = j ∧ j < p.js.length ∧ stpM p k i = (p.js.getD j jz).stop) ∨ (k = 2 ∧ ∃ j : Nat,i = j ∧ j < p.ss.length ∧ stpM p k i = (p.ss.getD j hz).pick) ∨ (k = 3 ∧ ∃ j : Nat,i = j ∧ j < p.ss.length ∧ stpM p k i = (p.ss.getD j hz).deli) := by
 have h0 := h
 unfold thereV at h0
 rcases ofM_cases k i with ⟨rfl,e⟩ | ⟨rfl,e⟩ | ⟨rfl,e⟩ | ⟨_,_,_,e⟩ <;> rw [e] at h0 <;> simp at h0
 ·obtain ⟨j,rfl,hj⟩ := there_job h0
  exact .inl ⟨rfl,j,rfl,hj,by unfold stpM;rw [h];simp⟩
 ·obtain ⟨j,rfl,hj⟩ := there_ship h0
  exact .inr (.inl ⟨rfl,j,rfl,hj,by unfold stpM;rw [h];simp⟩)
 ·obtain ⟨j,rfl,hj⟩ := there_ship h0
  exact .inr (.inr ⟨rfl,j,rfl,hj,by unfold stpM;rw [h];simp⟩)
theorem rstopV_any {w : World} {x : PrbS} {p : Prb} (h : PrbV w x p) (k i : Int) : Calls Try.prog 38 #[.agg (prbE p x),.agg #[.int .i64 k,.int .i64 i]] w fun e w' => ∃ y,e = .returned (.tuple #[.agg #[.int .i64 (stpM p k i).place,.int .i64 (stpM p k i).serv,y],.bool (thereV p k i)]) ∧ WinsV w' y (stpM p k i).wins ∧ Below w.heap.size w w' := by
 cases ht : thereV p k i with
 | false =>
  rw [stpM_no ht]
  refine (rstop18_no h k i ht).mono ?_
  rintro e w' ⟨rfl,hb⟩
  exact ⟨_,rfl,⟨none,0,rfl,fun _ => rfl,rfl,by decide,fun k hk => by simp [sz] at hk⟩,hb⟩
 | true =>
  rcases thereV_cases ht with ⟨rfl,j,rfl,hj,e⟩ | ⟨rfl,j,rfl,hj,e⟩ | ⟨rfl,j,rfl,hj,e⟩ <;> rw [e]
  ·exact rstop18_job h hj
  ·exact rstop18_pick h hj
  ·exact rstop18_deli h hj
theorem stopV_any {w : World} {x : PrbS} {p : Prb} (h : PrbV w x p) (k i : Int) : Calls Try.prog 89 #[.agg (prbE p x),.agg #[.int .i64 k,.int .i64 i]] w fun e w' => ∃ y,e = .returned (.tuple #[.agg #[.int .i64 (stpM p k i).place,.int .i64 (stpM p k i).serv,y],.bool (thereV p k i)]) ∧ w'.ownsRow w.heap.size 54 2 y (stpM p k i).wins.length (flatW (stpM p k i).wins) ∧ Below w.heap.size w w' := by
 cases ht : thereV p k i with
 | false =>
  rw [stpM_no ht]
  refine (stop17_no h k i ht).mono ?_
  rintro e w' ⟨rfl,hb⟩
  exact ⟨_,rfl,World.ownsRow_nil _ _ _ _,hb⟩
 | true =>
  rcases thereV_cases ht with ⟨rfl,j,rfl,hj,e⟩ | ⟨rfl,j,rfl,hj,e⟩ | ⟨rfl,j,rfl,hj,e⟩ <;> rw [e]
  ·exact stop17_job h hj
  ·exact stop17_pick h hj
  ·exact stop17_deli h hj
end Go.Proofs.Ytndbikoccdjafaa
namespace Go.Proofs.Ytndbikoccdjafaa.Hr
abbrev Win := Int × Int
def Lw (L : List Win) : Prop := (∀ w ∈ L,w.1 ≤ w.2 ∧ 0 ≤ w.1 ∧ w.2 ≤ 1000000) ∧ L.Pairwise fun u v => u.2 < v.1
theorem Lw.tail {w : Win} {L : List Win} (h : Lw (w :: L)) : Lw L := ⟨fun u hu => h.1 u (List.mem_cons_of_mem _ hu),(List.pairwise_cons.1 h.2).2⟩
def inP (L : List Win) (x : Int) : Prop := ∃ w ∈ L,w.1 ≤ x ∧ x ≤ w.2
theorem inP_cons {w : Win} {L : List Win} {x : Int} : inP (w :: L) x ↔ (w.1 ≤ x ∧ x ≤ w.2) ∨ inP L x := by simp [inP]
theorem inP_app {A B : List Win} {x : Int} : inP (A ++ B) x ↔ inP A x ∨ inP B x := by
 unfold inP
 constructor
 ·rintro ⟨w,h,k⟩
  rcases List.mem_append.1 h with h | h
  ·exact .inl ⟨w,h,k⟩
  ·exact .inr ⟨w,h,k⟩
 ·rintro (⟨w,h,k⟩ | ⟨w,h,k⟩)
  ·exact ⟨w,List.mem_append.2 (.inl h),k⟩
  ·exact ⟨w,List.mem_append.2 (.inr h),k⟩
theorem inP_one {w : Win} {x : Int} : inP [w] x ↔ w.1 ≤ x ∧ x ≤ w.2 := by simp [inP]
theorem inP_nil {x : Int} : ¬ inP [] x := by simp [inP]

def IsStart (L : List Win) (t : Int) (r : Int × Bool) : Prop :=
 (r.2 = true ∧ t ≤ r.1 ∧ inP L r.1 ∧ ∀ x,t ≤ x → x < r.1 → ¬ inP L x) ∨ (r = (0,false) ∧ ∀ x,t ≤ x → ¬ inP L x)
theorem IsStart.eq {L : List Win} {t : Int} {r s : Int × Bool} (h : IsStart L t r) (k : IsStart L t s) : r = s := by
 rcases h with ⟨h1,h2,h3,h4⟩ | ⟨h1,h2⟩ <;> rcases k with ⟨k1,k2,k3,k4⟩ | ⟨k1,k2⟩
 ·have e : r.1 = s.1 := by
   rcases Int.lt_trichotomy r.1 s.1 with h | h | h
   ·exact absurd h3 (k4 _ h2 h)
   ·exact h
   ·exact absurd k3 (h4 _ k2 h)
  exact Prod.ext e (by rw [h1,k1])
 ·exact absurd h3 (k2 _ h2)
 ·exact absurd k3 (h2 _ k2)
 ·rw [h1,k1]
def startM (t : Int) : List Win → Int × Bool
 | [] => (0,false)
 | w :: r => if t ≤ w.2 then (if w.1 < t then t else w.1,true) else startM t r
def lastR (t : Int) : List Win → Int × Bool
 | [] => (0,false)
 | w :: r => if w.1 ≤ t then (if t < w.2 then t else w.2,true) else lastR t r
theorem startM_is (t : Int) : ∀ L : List Win,Lw L → IsStart L t (startM t L)
 | [],_ => .inr ⟨rfl,fun _ _ => inP_nil⟩
 | w :: r,h => by
  have hw := h.1 w List.mem_cons_self
  have hr := (List.pairwise_cons.1 h.2).1
  by_cases ht : t ≤ w.2
  ·rw [startM,if_pos ht]
   have hin : ∀ x,x < w.1 → ¬ inP (w :: r) x := fun x hx h => by
    rcases inP_cons.1 h with h | ⟨u,hu,h⟩
    ·omega
    ·have := hr u hu;omega
   by_cases h2 : w.1 < t
   ·rw [if_pos h2]
    exact .inl ⟨rfl,Int.le_refl _,inP_cons.2 (.inl ⟨by show w.1 ≤ t;omega,ht⟩),fun x h1 h2 => by simp only at h2;omega⟩
   ·rw [if_neg h2]
    exact .inl ⟨rfl,by show t ≤ w.1;omega,inP_cons.2 (.inl ⟨Int.le_refl _,by show w.1 ≤ w.2;omega⟩),fun x _ h => hin x h⟩
  ·rw [startM,if_neg ht]
   have e : ∀ x,t ≤ x → (inP (w :: r) x ↔ inP r x) := fun x hx => by rw [inP_cons];exact ⟨fun h => h.elim (fun h => by omega) id,.inr⟩
   rcases startM_is t r h.tail with ⟨h1,h2,h3,h4⟩ | ⟨h1,h2⟩
   ·exact .inl ⟨h1,h2,(e _ h2).2 h3,fun x hx hl => by rw [e x hx];exact h4 x hx hl⟩
   ·exact .inr ⟨h1,fun x hx => by rw [e x hx];exact h2 x hx⟩
def rstF (t : Int) (s : Int × Bool) (w : Win) : Int × Bool :=
 if w.2 < t then s else if s.2 = false ∨ (if w.1 < t then t else w.1) < s.1 then (if w.1 < t then t else w.1,true) else s
def rst (t : Int) (L : List Win) : Int × Bool := L.foldl (rstF t) (0,false)
theorem rst_step {t : Int} {P : List Win} {s : Int × Bool} {w : Win} (hw : w.1 ≤ w.2) (h : IsStart P t s) : IsStart (P ++ [w]) t (rstF t s w) := by
 unfold rstF
 by_cases ht : w.2 < t
 ·rw [if_pos ht]
  have e : ∀ x,t ≤ x → (inP (P ++ [w]) x ↔ inP P x) := fun x hx => by rw [inP_app,inP_one];exact ⟨fun h => h.elim id (fun h => by omega),.inl⟩
  rcases h with ⟨h1,h2,h3,h4⟩ | ⟨h1,h2⟩
  ·exact .inl ⟨h1,h2,(e _ h2).2 h3,fun x hx hl => by rw [e x hx];exact h4 x hx hl⟩
  ·exact .inr ⟨h1,fun x hx => by rw [e x hx];exact h2 x hx⟩
 ·rw [if_neg ht]
  obtain ⟨y,hy⟩ : ∃ y,(if w.1 < t then t else w.1) = y := ⟨_,rfl⟩
  rw [hy]
  have y1 : t ≤ y ∧ w.1 ≤ y ∧ y ≤ w.2 ∧ ∀ x,t ≤ x → w.1 ≤ x → y ≤ x := by
   split at hy
   ·exact ⟨by omega,by omega,by omega,fun x _ _ => by omega⟩
   ·exact ⟨by omega,by omega,by omega,fun x _ _ => by omega⟩
  obtain ⟨y1,y2,y3,y4⟩ := y1
  by_cases hc : s.2 = false ∨ y < s.1
  ·rw [if_pos hc]
   refine .inl ⟨rfl,y1,inP_app.2 (.inr (inP_one.2 ⟨y2,y3⟩)),fun x hx hl hin => ?_⟩
   simp only at hl
   rcases inP_app.1 hin with hin | hin
   ·rcases h with ⟨h1,h2,h3,h4⟩ | ⟨h1,h2⟩
    ·rcases hc with hc | hc
     ·rw [h1] at hc;cases hc
     ·exact h4 x hx (by omega) hin
    ·exact h2 x hx hin
   ·have := y4 x hx (inP_one.1 hin).1;omega
  ·rw [if_neg hc]
   rcases h with ⟨h1,h2,h3,h4⟩ | ⟨h1,h2⟩
   ·refine .inl ⟨h1,h2,inP_app.2 (.inl h3),fun x hx hl hin => ?_⟩
    rcases inP_app.1 hin with hin | hin
    ·exact h4 x hx hl hin
    ·have := y4 x hx (inP_one.1 hin).1
     exact hc (.inr (by omega))
   ·exact absurd (.inl (by rw [h1])) hc
theorem rst_is (t : Int) : ∀ (L P : List Win) (s : Int × Bool),(∀ w ∈ L,w.1 ≤ w.2) → IsStart P t s → IsStart (P ++ L) t (L.foldl (rstF t) s)
 | [],P,s,_,h => by simpa using h
 | w :: r,P,s,hl,h => by
  have := rst_is t r (P ++ [w]) _ (fun u hu => hl u (List.mem_cons_of_mem _ hu)) (rst_step (hl w List.mem_cons_self) h)
  rw [List.append_assoc] at this
  exact this
theorem rst_eq {t : Int} {L : List Win} (h : Lw L) : startM t L = rst t L :=
 (startM_is t L h).eq (rst_is t L [] (0,false) (fun w hw => (h.1 w hw).1) (.inr ⟨rfl,fun _ _ => inP_nil⟩))
end Go.Proofs.Ytndbikoccdjafaa.Hr
namespace Go.Proofs.Ytndbikoccdjafaa.Hr
open Go.RowKit
theorem hide {p : Prop} (h : p) : Hid p := h
structure WinsAt (w : World) (a : Option Addr) (m : Nat) (L : List Win) : Prop where
 len : L.length = m
 max : m * 16 ≤ 140737488351232
 cell : ∀ k,k < m → ∃ b off,a = some ⟨b,off,none⟩ ∧ w.cell? ⟨b,off + k * 2,none⟩ = some (.int .i64 (L[k]!).1) ∧ w.cell? ⟨b,off + k * 2 + 1,none⟩ = some (.int .i64 (L[k]!).2)
theorem WinsAt.later {w w' : World} {a : Option Addr} {m B : Nat} {L : List Win} (h : WinsAt w a m L) (hB : w.heap.size ≤ B) (f : Below B w w') : WinsAt w' a m L :=
 ⟨h.len,h.max,fun k hk => by
  obtain ⟨b,off,e,h0,h1⟩ := h.cell k hk
  have hb : b < B := Nat.lt_of_lt_of_le (block_lt_of_cell h0) hB
  exact ⟨b,off,e,(f.cell (p := ⟨b,_,none⟩) hb).trans h0,(f.cell (p := ⟨b,_,none⟩) hb).trans h1⟩⟩
section
variable {w w' : World} {base g cap m : Nat} {v : Value} {L : List Win}
end
end Go.Proofs.Ytndbikoccdjafaa.Hr
