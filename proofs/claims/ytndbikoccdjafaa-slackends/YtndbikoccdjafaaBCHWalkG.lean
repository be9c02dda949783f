/-
  Several texts in one: CHWalk CRMat.
-/
import Derived.Test.YtndbikoccdjafaaBCStpAG
import Derived.Test.YtndbikoccdjafaaBCChkAG
namespace Go.Proofs.Ytndbikoccdjafaa.Hr
open Go.RowKit
theorem len_max {w : World} {a : Option Addr} {m : Nat} {L : List Win} (h : WinsAt w a m L) : m ≤ 8796093021952 := by have := h.max;omega
set_option maxRecDepth 100000 in
set_option maxHeartbeats 3200000 in
theorem start_any {a : Option Addr} {m c : Nat} {L : List Win} {w : World} (t : Int) (h : WinsAt w a m L) :
  Calls Try.prog 64 #[.slice a m c,.int .i64 t] w fun e w' => e = .returned (.tuple #[.int .i64 (startM t L).1,.bool (startM t L).2]) ∧ Below w.heap.size w w' := by
 have HA := hide h
 have hlm := h.len
 have hmm := len_max h
 clear h
 obtain ⟨B,hB⟩ : ∃ B,w.heap.size = B := ⟨_,rfl⟩
 have HB := hide hB
 rw [hB]
 clear hB
 go_enter Try.func64,Try.ntmps64
 go_wp2
 go_loopw [10] (fun vi wr => ∃ k : Nat,vi = .int .i64 k ∧ k ≤ m ∧ Hid (Below B w wr ∧ B ≤ wr.heap.size ∧ startM t L = startM t (L.drop k))) (fun vi _ => m - (intOf vi).toNat)
 case atStart => exact ⟨0,rfl,Nat.zero_le _,by rw [← HB.out];exact Below.refl _ _,by rw [← HB.out];exact Nat.le_refl _,by rw [List.drop_zero]⟩
 case round =>
  obtain ⟨k,rfl,hk,HR⟩ := hrel
  have HE : Hid (∀ o,Below B w (wr.alloc o) ∧ B ≤ (wr.alloc o).heap.size) := fun o => ⟨HR.out.1.alloc HR.out.2.1 o,by have := HR.out.2.1;simp;omega⟩
  by_cases hlt : k < m
  ·obtain ⟨b,off,rfl,c0,c1⟩ := (HA.out.later (Nat.le_of_eq HB.out) HR.out.1).cell k hlt
   have HC : Hid (startM t L = if t ≤ (L[k]!).2 then (if (L[k]!).1 < t then t else (L[k]!).1,true) else startM t (L.drop (k + 1))) := by
    show _ = _
    rw [HR.out.2.2,List.drop_eq_getElem_cons (by omega),getElem!_pos L k (by omega)];rfl
   obtain ⟨x,hx⟩ : ∃ x,L[k]! = x := ⟨_,rfl⟩
   rw [hx] at c0 c1 HC
   obtain ⟨x1,x2⟩ := x
   simp only at c0 c1
   clear hx
   have i3 : (k : Int) < (m : Int) := by omega
   by_cases p1 : t ≤ x2
   ·have E : Hid (startM t L = (if x1 < t then t else x1,true)) := by show _ = _;rw [HC.out,if_pos p1]
    by_cases p2 : t < x1
    ·rw [if_neg (by omega)] at E
     go_wp2
     go_ret2
     exact ⟨by rw [E.out];rfl,(HE.out _).1⟩
    ·have e2 : (if x1 < t then t else x1) = t := by split <;> omega
     rw [e2] at E
     have p3 : x1 ≤ t := by omega
     clear e2
     go_wp2
     go_ret2
     exact ⟨by rw [E.out];rfl,(HE.out _).1⟩
   ·have E : Hid (startM t L = startM t (L.drop (k + 1))) := by show _ = _;rw [HC.out,if_neg p1]
    go_wp2
    go_roundw
    case rel => exact ⟨k + 1,by go_num,by omega,(HE.out _).1,(HE.out _).2,E.out⟩
    case measure => simp [intOf];omega
  ·have : k = m := by omega
   subst this
   have E : Hid (startM t L = (0,false)) := by show _ = _;rw [HR.out.2.2,List.drop_eq_nil_of_le (by omega)];rfl
   go_wp2
   go_ret2
   exact ⟨by rw [E.out];rfl,HR.out.1⟩
theorem foldl_take {α β : Type} (f : α → β → α) (s : α) (L : List β) [Inhabited β] (k : Nat) (h : k < L.length) : (L.take (k + 1)).foldl f s = f ((L.take k).foldl f s) L[k]! := by
 rw [List.take_succ_eq_append_getElem h,List.foldl_append,getElem!_pos L k h];rfl
set_option maxRecDepth 100000 in
set_option maxHeartbeats 3200000 in
theorem rstart_any {a : Option Addr} {m c : Nat} {L : List Win} {w : World} (t : Int) (h : WinsAt w a m L) :
  Calls Try.prog 39 #[.slice a m c,.int .i64 t] w fun e w' => e = .returned (.tuple #[.int .i64 (rst t L).1,.bool (rst t L).2]) ∧ w' = w := by
 have HA := hide h
 have hlm := h.len
 have hmm := len_max h
 clear h
 go_enter Try.func39,Try.ntmps39
 go_wp2
 go_loopw [8,6,7] (fun vi vb vf wr => ∃ (k : Nat) (x : Int) (f : Bool),vi = .int .i64 k ∧ vb = .int .i64 x ∧ vf = .bool f ∧ k ≤ m ∧ Hid (wr = w ∧ (L.take k).foldl (rstF t) (0,false) = (x,f))) (fun vi _ _ _ => m - (intOf vi).toNat)
 case atStart => exact ⟨0,0,false,rfl,rfl,rfl,Nat.zero_le _,rfl,by simp⟩
 case round =>
  obtain ⟨k,x,f,rfl,rfl,rfl,hk,HR⟩ := hrel
  obtain rfl := HR.out.1
  have HS := hide HR.out.2
  clear HR
  by_cases hlt : k < m
  ·obtain ⟨b,off,rfl,c0,c1⟩ := HA.out.cell k hlt
   have HC := hide (foldl_take (rstF t) (0,false) L k (by omega))
   rw [HS.out] at HC
   obtain ⟨y,hx⟩ : ∃ y,L[k]! = y := ⟨_,rfl⟩
   rw [hx] at c0 c1 HC
   obtain ⟨x1,x2⟩ := y
   simp only at c0 c1
   clear hx HS
   have i3 : (k : Int) < (m : Int) := by omega
   by_cases p1 : x2 < t
   ·have E : Hid ((L.take (k + 1)).foldl (rstF t) (0,false) = (x,f)) := by show _ = _;rw [HC.out];unfold rstF;rw [if_pos p1]
    go_wp2
    go_roundw
    case rel => exact ⟨k + 1,x,f,by go_num,rfl,rfl,by omega,trivial,E.out⟩
    case measure => simp [intOf];omega
   ·obtain ⟨y,hy⟩ : ∃ y,(if x1 < t then t else x1) = y := ⟨_,rfl⟩
    have E : Hid ((L.take (k + 1)).foldl (rstF t) (0,false) = if f = false ∨ y < x then (y,true) else (x,f)) := by show _ = _;rw [HC.out];unfold rstF;simp only;rw [if_neg p1,hy]
    by_cases p2 : x1 < t
    ·rw [if_pos p2] at hy
     subst hy
     cases f with
     | false =>
      have E2 := E.out
      rw [if_pos (.inl rfl)] at E2
      replace E2 := hide E2
      clear E HC
      go_wp2
      go_roundw
      case rel => exact ⟨k + 1,t,true,by go_num,rfl,rfl,by omega,trivial,E2.out⟩
      case measure => simp [intOf];omega
     | true =>
      by_cases p3 : t < x
      ·have E2 := E.out
       rw [if_pos (.inr p3)] at E2
       replace E2 := hide E2
       clear E HC
       go_wp2
       go_roundw
       case rel => exact ⟨k + 1,t,true,by go_num,rfl,rfl,by omega,trivial,E2.out⟩
       case measure => simp [intOf];omega
      ·have E2 := E.out
       rw [if_neg (by simp;omega)] at E2
       replace E2 := hide E2
       clear E HC
       go_wp2
       go_roundw
       case rel => exact ⟨k + 1,x,true,by go_num,rfl,rfl,by omega,trivial,E2.out⟩
       case measure => simp [intOf];omega
    ·rw [if_neg p2] at hy
     subst hy
     cases f with
     | false =>
      have E2 := E.out
      rw [if_pos (.inl rfl)] at E2
      replace E2 := hide E2
      clear E HC
      go_wp2
      go_roundw
      case rel => exact ⟨k + 1,x1,true,by go_num,rfl,rfl,by omega,trivial,E2.out⟩
      case measure => simp [intOf];omega
     | true =>
      by_cases p3 : x1 < x
      ·have E2 := E.out
       rw [if_pos (.inr p3)] at E2
       replace E2 := hide E2
       clear E HC
       go_wp2
       go_roundw
       case rel => exact ⟨k + 1,x1,true,by go_num,rfl,rfl,by omega,trivial,E2.out⟩
       case measure => simp [intOf];omega
      ·have E2 := E.out
       rw [if_neg (by simp;omega)] at E2
       replace E2 := hide E2
       clear E HC
       go_wp2
       go_roundw
       case rel => exact ⟨k + 1,x,true,by go_num,rfl,rfl,by omega,trivial,E2.out⟩
       case measure => simp [intOf];omega
  ·have : k = m := by omega
   subst this
   have E : Hid (rst t L = (x,f)) := by
    show _ = _
    have := HS.out
    rw [List.take_of_length_le (by omega)] at this
    exact this
   go_wp2
   go_ret2
   exact ⟨by rw [E.out];rfl,rfl⟩
end Go.Proofs.Ytndbikoccdjafaa.Hr
namespace Go.Proofs.Ytndbikoccdjafaa
open Go.RowKit
theorem cel_at {nn i k : Nat} {c : Int} (hk : k < nn) : celB (nn : Int) (i * nn + k) c = (inB c (-1) 32000000 && !(decide (i = k) && decide (c ≠ 0))) := by
 have e1 : (((i * nn + k : Nat) : Int) / (nn : Int)) = (i : Int) := by
  rw [← Int.natCast_ediv]
  congr 1
  rw [Nat.mul_comm,Nat.mul_add_div (by omega),Nat.div_eq_of_lt hk,Nat.add_zero]
 have e2 : (((i * nn + k : Nat) : Int) % (nn : Int)) = (k : Int) := by
  rw [← Int.natCast_emod]
  congr 1
  rw [Nat.mul_comm,Nat.mul_add_mod,Nat.mod_eq_of_lt hk]
 unfold celB
 rw [e1,e2]
 congr 3
 simp only [decide_eq_decide]
 omega
theorem mul_lt' {i nn : Nat} (h : i < nn) : i * nn + nn ≤ nn * nn := by
 have : (i + 1) * nn ≤ nn * nn := Nat.mul_le_mul_right nn h
 rw [Nat.add_mul,Nat.one_mul] at this
 exact this
set_option maxRecDepth 100000 in
set_option maxHeartbeats 3200000 in
theorem rmatrix_nat {w : World} (nn : Nat) {x : Value} {mn : Int} {L : List Int} (h : IntsV w x L) (hn : 1 ≤ nn) (hn2 : nn ≤ 32) : Calls Try.prog 65 #[.agg #[.int .i64 mn,x],.int .i64 nn] w fun e w' => e = .returned (.bool (matB nn ⟨mn,L⟩)) ∧ Below w.heap.size w w' := by
 obtain ⟨a,c,rfl,_,hl,hA⟩ := h
 have HA := hide hA
 have HB0 : Hid (∀ A,Below w.heap.size w (w.alloc A)) := fun A => (Below.refl _ _).alloc (Nat.le_refl _) A
 clear hA
 obtain ⟨m,hm⟩ : ∃ m,L.length = m := ⟨_,rfl⟩
 have HM := hide hm
 rw [hm] at hl ⊢
 obtain ⟨N2,hN⟩ : ∃ N2 : Nat,nn * nn = N2 := ⟨_,rfl⟩
 have hNi : (nn : Int) * (nn : Int) = (N2 : Int) := by rw [← hN];simp
 have HNN := hide hN
 have hN1 : N2 ≤ 1024 := by
  rw [← hN]
  exact Nat.mul_le_mul hn2 hn2
 clear hN
 by_cases e1 : mn = nn
 ·subst e1
  have z1 : ((nn : Int) != (nn : Int)) = false := by simp
  by_cases e2 : m = N2
  ·have HM2 := hide (matB_c (n := nn) (m := ⟨(nn : Int),L⟩) rfl (by rw [hNi,hm,e2]))
   have z2 : ((m : Int) != (N2 : Int)) = false := by simp [e2]
   rw [HM2.out]
   simp only
   have HE2 := hide e2
   clear hm e2
   go_enter Try.func65,Try.ntmps65
   go_wp2
   go_loop [5] (fun vi => ∃ i : Nat,vi = .int .i64 i ∧ i ≤ nn ∧ Hid (celF nn L 0 = celF nn L (i * nn))) (fun vi => nn - (intOf vi).toNat)
   case atStart => exact ⟨0,rfl,Nat.zero_le _,by show _ = _;rw [Nat.zero_mul]⟩
   case round =>
    obtain ⟨i,rfl,hi,HS⟩ := hrel
    by_cases hlt : i < nn
    ·have i3 : (i : Int) < (nn : Int) := by omega
     obtain ⟨P,hP⟩ : ∃ P : Nat,i * nn = P := ⟨_,rfl⟩
     have hPi : (i : Int) * (nn : Int) = (P : Int) := by rw [← hP];simp
     have hPP : P + nn ≤ N2 := by rw [← hP,← HNN.out];exact mul_lt' hlt
     have HP := hide hP
     clear hP
     go_wp2
     go_loop [6,7] (fun vk _ => ∃ k : Nat,vk = .int .i64 k ∧ k ≤ nn ∧ Hid (celF nn L 0 = celF nn L (i * nn + k))) (fun vk _ => nn - (intOf vk).toNat)
     case atStart => exact ⟨0,rfl,Nat.zero_le _,HS.out⟩
     case round =>
      obtain ⟨k,rfl,hk,HS2⟩ := hrel
      by_cases hkt : k < nn
      ·have i4 : (k : Int) < (nn : Int) := by omega
       have HJ : Hid (i * nn + k < L.length) := by show _ < _;have := HM.out;have := HP.out;have := HE2.out;omega
       obtain ⟨b,off,rfl,c1⟩ := (HA.out.alloc (.cells #[.int .i64 nn,.slice a m c] 24)) (i * nn + k) HJ.out
       have HC := hide (HS2.out.trans (celF_step nn L (i * nn + k) HJ.out))
       obtain ⟨x,hx⟩ : ∃ x,L[i * nn + k]! = x := ⟨_,rfl⟩
       rw [hx,cel_at hkt] at HC
       rw [hx] at c1
       clear hx
       rw [HP.out] at c1
       have i5 : (P : Int) + (k : Int) < (m : Int) := by have := HE2.out;omega
       have i6 : P + k < m := by have := HE2.out;omega
       by_cases p1 : x < -1
       ·have E : Hid (celF nn L 0 = false) := by show _ = _;rw [HC.out,inB_lo (by omega)];rfl
        go_wp2
        go_ret
        exact ⟨by rw [E.out];rfl,HB0.out _⟩
       ·by_cases p2 : 32000000 < x
        ·have E : Hid (celF nn L 0 = false) := by show _ = _;rw [HC.out,inB_hi (by omega)];rfl
         go_wp2
         go_ret
         exact ⟨by rw [E.out];rfl,HB0.out _⟩
        ·rw [inB_yes (by omega) (by omega)] at HC
         by_cases p3 : i = k
         ·have z3 : ((i : Int) == (k : Int)) = true := by simp [p3]
          have HP3 := hide p3
          clear p3
          by_cases p4 : x = 0
          ·have z4 : (x != 0) = false := by simp [p4]
           rw [dec_no (show ¬ x ≠ 0 by simpa using p4)] at HC
           have E : Hid (celF nn L 0 = celF nn L (i * nn + k + 1)) := by show _ = _;rw [HC.out];simp
           go_wp2
           go_round
           case rel => exact ⟨k + 1,by go_num,by omega,E.out⟩
           case measure => simp [intOf];omega
          ·have z4 : (x != 0) = true := by simp [p4]
           rw [dec_yes (show x ≠ 0 from p4),dec_yes HP3.out] at HC
           have E : Hid (celF nn L 0 = false) := by show _ = _;rw [HC.out];rfl
           go_wp2
           go_ret
           exact ⟨by rw [E.out];rfl,HB0.out _⟩
         ·have z3 : ((i : Int) == (k : Int)) = false := by simp;omega
          have q3 : ¬ (i : Int) = (k : Int) := by omega
          rw [dec_no p3] at HC
          have E : Hid (celF nn L 0 = celF nn L (i * nn + k + 1)) := by show _ = _;rw [HC.out];rfl
          go_wp2
          go_round
          case rel => exact ⟨k + 1,by go_num,by omega,E.out⟩
          case measure => simp [intOf];omega
      ·have i4 : ¬ (k : Int) < (nn : Int) := by omega
       have : k = nn := by omega
       have E : Hid (celF nn L 0 = celF nn L ((i + 1) * nn)) := by show _ = _;rw [HS2.out,this,Nat.add_mul,Nat.one_mul]
       clear this
       go_wp2
       go_round
       case rel => exact ⟨i + 1,by go_num,by omega,E.out⟩
       case measure => simp [intOf];omega
    ·have i3 : ¬ (i : Int) < (nn : Int) := by omega
     have E : Hid (celF nn L 0 = true) := by
      show _ = _
      rw [HS.out]
      exact celF_end _ _ _ (by rw [show i = nn by omega,HNN.out];have := HM.out;have := HE2.out;omega)
     go_wp2
     go_ret
     exact ⟨by rw [E.out];rfl,HB0.out _⟩
  ·have HM2 := hide (matB_l (n := nn) (m := ⟨(nn : Int),L⟩) (by rw [hNi,hm];omega))
   have z2 : ((m : Int) != (N2 : Int)) = true := by simp;omega
   rw [HM2.out]
   clear hm
   go_enter Try.func65,Try.ntmps65
   go_wp2
   go_ret
   exact ⟨rfl,HB0.out _⟩
 ·have HM2 := hide (matB_n (n := nn) (m := ⟨mn,L⟩) e1)
  have z1 : (mn != (nn : Int)) = true := by simp [e1]
  rw [HM2.out]
  clear hm
  go_enter Try.func65,Try.ntmps65
  go_wp2
  go_ret
  exact ⟨rfl,HB0.out _⟩
theorem rmatrix_any {w : World} (n : Int) {x : Value} {m : Mat} (h : IntsV w x m.cells) (hn : 1 ≤ n) (hn2 : n ≤ 32) : Calls Try.prog 65 #[.agg #[.int .i64 m.n,x],.int .i64 n] w fun e w' => e = .returned (.bool (matB n m)) ∧ Below w.heap.size w w' := by
 obtain ⟨nn,rfl⟩ : ∃ nn : Nat,n = (nn : Int) := ⟨n.toNat,by omega⟩
 exact rmatrix_nat nn h (by omega) (by omega)
set_option maxRecDepth 100000 in
set_option maxHeartbeats 1600000 in
theorem rstop_any {w : World} (n : Int) {x : Value} {s : Stp} (h : WinsV w x s.wins) (hn : 1 ≤ n) (hn2 : n ≤ 32) : Calls Try.prog 67 #[.agg #[.int .i64 s.place,.int .i64 s.serv,x],.int .i64 n] w fun e w' => e = .returned (.bool (stpB n s)) ∧ Below w.heap.size w w' := by
 have HA := hide h
 have HB0 : Hid (∀ A,Below w.heap.size w (w.alloc A)) := fun A => (Below.refl _ _).alloc (Nat.le_refl _) A
 unfold stpB
 obtain ⟨s1,s2,s3⟩ := s
 simp only at HA ⊢
 clear h
 obtain ⟨b1,h1⟩ : ∃ b,upB s1 (n - 1) = b := ⟨_,rfl⟩
 obtain ⟨b2,h2⟩ : ∃ b,upB s2 1000000 = b := ⟨_,rfl⟩
 obtain ⟨b3,h3⟩ : ∃ b,winB s3 = b := ⟨_,rfl⟩
 have H1 := hide h1
 have H2 := hide h2
 have H3 := hide h3
 rw [h1,h2,h3]
 clear h1 h2 h3
 cases b1
 all_goals cases b2
 all_goals
  go_enter Try.func67,Try.ntmps67
  go_wp2_with (first
   | (go_at_call 91;refine (rwins_any (HA.out.on (HB0.out _))).mono ?_;rintro e w2 ⟨rfl,k2⟩;rw [H3.out];have K2 := hide k2;clear k2)
   | (go_at_call 63;refine (up_any _ _ _).mono ?_;rintro e w' ⟨rfl,rfl⟩;first | rw [H1.out] | rw [H2.out]))
  go_ret
  first
   | exact ⟨by simp,below_on (HB0.out _) K2.out⟩
   | exact ⟨by simp,HB0.out _⟩
end Go.Proofs.Ytndbikoccdjafaa
