/-
  Several texts in one: CRSet CSet0 CCpF.
-/
import Derived.Test.YtndbikoccdjafaaBCVrwG
import Derived.Test.YtndbikoccdjafaaBCHCallG
import Derived.Test.YtndbikoccdjafaaBCCpE
namespace Go.Proofs.Ytndbikoccdjafaa
open Go.RowKit
def brkT (A : List Int) (i : Int) (k : Nat) : List Vst := (List.range k).filterMap fun (j : Nat) => if A[j]! = i then some (4,(j : Int)) else none
def rsetF (V : List Vst) (A : List Int) : Nat → List Vst
 | 0 => []
 | i + 1 => (rsetF V A i ++ brkT A (i : Int) A.length) ++ (V.drop i).take 1
def rsetM (V : List Vst) (A : List Int) : List Vst := rsetF V A (V.length + 1)
theorem brkT_step (A : List Int) (i : Int) (k : Nat) : brkT A i (k + 1) = brkT A i k ++ (if A[k]! = i then [(4,(k : Int))] else []) := by
 unfold brkT
 rw [List.range_succ,List.filterMap_append]
 congr 1
 split <;> simp_all
theorem brkT_zero (P : List Vst) (A : List Int) (i : Int) : P ++ brkT A i 0 = P := by simp [brkT]
set_option maxRecDepth 100000 in
set_option maxHeartbeats 6400000 in
theorem rset_any {w : World} {m vc n ac : Nat} {aV aa : Option Addr} {V : List Vst} {A : List Int} (hV : VsV w (.slice aV m vc) V) (hm : V.length = m) (hm2 : m ≤ 100) (hA : IntsAt w aa A) (hn : A.length = n) (hn2 : n ≤ 2) : Calls Try.prog 57 #[.slice aV m vc,.slice aa n ac] w fun e w' => ∃ v,e = .returned v ∧ VRow w' w.heap.size v (rsetM V A) ∧ Below w.heap.size w w' := by
 have HV := hide hV
 have HM := hide hm
 have HA := hide hA
 have HN := hide hn
 clear hV hm hA hn
 go_enter Try.func57,Try.ntmps57
 go_wp2_with fail
 go_loopw [6,5] (fun vi v5 wr => ∃ (q k : Nat) (va : Option Addr) (cp : Nat),vi = .int .i64 q ∧ v5 = .slice va k cp ∧ q ≤ m + 1 ∧ k ≤ q * 3 ∧ Hid ((rsetF V A q).length = k) ∧ Hid (VRow wr w.heap.size (.slice va k cp) (rsetF V A q)) ∧ Hid (Below w.heap.size w wr)) (fun vi _ _ => m + 1 - (intOf vi).toNat)
 case atStart => exact ⟨0,0,none,0,rfl,rfl,Nat.zero_le _,Nat.zero_le _,rfl,World.ownsRow_nil _ _ _ _,Below.refl _ _⟩
 case round =>
  obtain ⟨q,k,va,cp,rfl,rfl,hq,hk,HPK,HR,HB⟩ := hrel
  by_cases hqm : q ≤ m
  ·have i1 : (q : Int) ≤ (m : Int) := by omega
   go_wp2_with fail
   go_loopw [7,5] (fun vi v5 wr => ∃ (j k : Nat) (va : Option Addr) (cp : Nat),vi = .int .i64 j ∧ v5 = .slice va k cp ∧ j ≤ n ∧ k ≤ q * 3 + j ∧ Hid ((rsetF V A q ++ brkT A (q : Int) j).length = k) ∧ Hid (VRow wr w.heap.size (.slice va k cp) (rsetF V A q ++ brkT A (q : Int) j)) ∧ Hid (Below w.heap.size w wr)) (fun vi _ _ => n - (intOf vi).toNat)
   case atStart => exact ⟨0,k,va,cp,rfl,rfl,Nat.zero_le _,by omega,by rw [brkT_zero];exact HPK.out,by rw [brkT_zero];exact HR.out,HB.out⟩
   case round =>
    clear HPK HR HB hk
    obtain ⟨j,k,va,cp,rfl,rfl,hj,hk,HPK,HR,HB⟩ := hrel
    by_cases hjn : j < n
    ·have j1 : (j : Int) < (n : Int) := by omega
     have j2 : (0 : Int) ≤ (j : Int) := by omega
     have j3 : ¬ (n : Int) ≤ (j : Int) := by omega
     obtain ⟨ab,aoff,rfl,ca⟩ := HA.out j (by rw [HN.out];exact hjn)
     obtain ⟨x,hx⟩ : ∃ x,A[j]! = x := ⟨_,rfl⟩
     rw [hx] at ca
     have c1 : wr.cell? ⟨ab,aoff + j,none⟩ = some (.int .i64 x) := ((bcell HB.out).1 _ _ (block_lt_of_cell ca)).trans ca
     have HST := hide (brkT_step A (q : Int) j)
     rw [hx] at HST
     clear ca hx
     by_cases he : x = (q : Int)
     ·subst he
      have HS2 : Hid (rsetF V A q ++ brkT A (q : Int) (j + 1) = (rsetF V A q ++ brkT A (q : Int) j) ++ [(4,(j : Int))]) := by show _ = _;rw [HST.out,if_pos rfl,List.append_assoc]
      go_wp2_with (first | (at_builtin;refine app_vis (w := wr.alloc (.cells #[.int .i64 4,.int .i64 j] 43)) (V := [(4,(j : Int))]) (.tmp 26) (.tmp 29) rfl rfl rfl rfl (HR.out.later (Nat.le_refl _) ((Below.refl _ _).alloc (Nat.le_refl _) _)) HPK.out (one_vs (new_block wr _)) rfl (fun e => by cases e) (by omega) (by have := HB.out.size;simp;omega) ?_;intro va3 c3 w3 r1 r2 _;have HR3 := hide r1;have B3 : Hid (Below w.heap.size w w3) := (HB.out.alloc HB.out.size _).trans r2;clear r1 r2) | fail)
      go_roundw
      case rel => exact ⟨j + 1,k + 1,va3,c3,by go_num,rfl,by omega,by omega,by show _ = _;rw [HS2.out,List.length_append,HPK.out];rfl,by rw [HS2.out];exact HR3.out,B3.out⟩
      case measure => simp [intOf];omega
     ·have y1 : (x == (q : Int)) = false := by simpa using he
      have HS2 : Hid (brkT A (q : Int) (j + 1) = brkT A (q : Int) j) := by show _ = _;rw [HST.out,if_neg he,List.append_nil]
      go_wp2_with fail
      go_roundw
      case rel => exact ⟨j + 1,k,va,cp,by go_num,rfl,by omega,by omega,by rw [HS2.out];exact HPK.out,by rw [HS2.out];exact HR.out,HB.out⟩
      case measure => simp [intOf];omega
    ·have j1 : ¬ (j : Int) < (n : Int) := by omega
     have hje : j = n := by omega
     subst hje
     by_cases hqm2 : q < m
     ·have i2 : (q : Int) < (m : Int) := by omega
      have i3 : (0 : Int) ≤ (q : Int) := by omega
      have i4 : ¬ (m : Int) ≤ (q : Int) := by omega
      obtain ⟨⟨kd,it⟩,hu⟩ : ∃ u,V[q]? = some u := ⟨_,List.getElem?_eq_getElem (by rw [HM.out];exact hqm2)⟩
      obtain ⟨b,off,rfl,hb,c1,c2,_⟩ := vs_cells HV.out hu
      simp only at c1 c2
      have d1 : wr.cell? ⟨b,off + q * 2,none⟩ = some (.int .i64 kd) := ((bcell HB.out).1 _ _ hb).trans c1
      have d2 : wr.cell? ⟨b,off + q * 2 + 1,none⟩ = some (.int .i64 it) := ((bcell HB.out).1 _ _ hb).trans c2
      have HS2 : Hid (rsetF V A (q + 1) = (rsetF V A q ++ brkT A (q : Int) j) ++ [(kd,it)]) := by
       obtain ⟨hk',e'⟩ := List.getElem?_eq_some_iff.1 hu
       show _ = _
       simp only [rsetF]
       rw [HN.out,List.drop_eq_getElem_cons hk',e']
       rfl
      clear c1 c2 hu hb
      go_wp2_with (first | (at_builtin;refine app_vis (w := wr.alloc (.cells #[.int .i64 kd,.int .i64 it] 43)) (V := [(kd,it)]) (.tmp 35) (.tmp 40) rfl rfl rfl rfl (HR.out.later (Nat.le_refl _) ((Below.refl _ _).alloc (Nat.le_refl _) _)) HPK.out (one_vs (new_block wr _)) rfl (fun e => by cases e) (by omega) (by have := HB.out.size;simp;omega) ?_;intro va3 c3 w3 r1 r2 _;have HR3 := hide r1;have B3 : Hid (Below w.heap.size w w3) := (HB.out.alloc HB.out.size _).trans r2;clear r1 r2) | fail)
      go_roundw
      case rel => exact ⟨q + 1,k + 1,va3,c3,by go_num,rfl,by omega,by omega,by show _ = _;rw [HS2.out,List.length_append,HPK.out];rfl,by rw [HS2.out];exact HR3.out,B3.out⟩
      case measure => simp [intOf];omega
     ·have i2 : ¬ (q : Int) < (m : Int) := by omega
      have HS2 : Hid (rsetF V A (q + 1) = rsetF V A q ++ brkT A (q : Int) j) := by
       show _ = _
       simp only [rsetF]
       rw [HN.out,List.drop_eq_nil_of_le (by rw [HM.out];omega)]
       simp
      go_wp2_with fail
      go_roundw
      case rel => exact ⟨q + 1,k,va,cp,by go_num,rfl,by omega,by omega,by rw [HS2.out];exact HPK.out,by rw [HS2.out];exact HR.out,HB.out⟩
      case measure => simp [intOf];omega
  ·have i1 : ¬ (q : Int) ≤ (m : Int) := by omega
   have hqe : q = m + 1 := by omega
   have HE : Hid (rsetF V A q = rsetM V A) := by show _ = _;unfold rsetM;rw [HM.out,hqe]
   clear hqe
   go_wp2_with fail
   go_ret
   exact ⟨_,rfl,by have h9 := HR.out;rw [HE.out] at h9;exact h9,HB.out⟩
end Go.Proofs.Ytndbikoccdjafaa
namespace Go.Proofs.Ytndbikoccdjafaa
theorem take_one (V : List Vst) (i : Nat) : V.take i ++ (V.drop i).take 1 = V.take (i + 1) := by
 rw [List.take_add]
theorem part_one (V : List Vst) (a i : Nat) (h : a ≤ i) : (V.drop a).take (i - a) ++ (V.drop i).take 1 = (V.drop a).take (i + 1 - a) := by
 have : (V.drop i) = (V.drop a).drop (i - a) := by rw [List.drop_drop];congr 1;omega
 rw [this,← List.take_add]
 congr 1
 omega
theorem brkT_one (a i : Nat) : brkT [(a : Int)] (i : Int) 1 = if a = i then [(4,0)] else [] := by
 rw [brkT_step]
 simp only [brkT,List.range_zero,List.filterMap_nil,List.nil_append]
 by_cases e : a = i
 ·subst e;simp
 ·simp [e];omega
theorem brkT_two (a b i : Nat) : brkT [(a : Int),(b : Int)] (i : Int) 2 = (if a = i then [(4,0)] else []) ++ (if b = i then [(4,1)] else []) := by
 rw [brkT_step,brkT_step]
 simp only [brkT,List.range_zero,List.filterMap_nil,List.nil_append]
 congr 1
 ·by_cases e : a = i
  ·subst e;simp
  ·simp [e];omega
 ·by_cases e : b = i
  ·subst e;simp
  ·simp [e];omega
theorem rset_one (V : List Vst) (a : Nat) : ∀ i,rsetF V [(a : Int)] i = if i ≤ a then V.take i else V.take a ++ ((4,0) :: (V.drop a).take (i - a))
 | 0 => by simp [rsetF]
 | i + 1 => by
  simp only [rsetF,List.length_singleton]
  rw [rset_one V a i,brkT_one]
  by_cases h1 : i ≤ a
  ·rw [if_pos h1]
   by_cases h2 : a = i
   ·subst h2
    rw [if_pos rfl,if_neg (by omega)]
    simp
   ·rw [if_neg h2,if_pos (by omega),List.append_nil,take_one]
  ·rw [if_neg h1,if_neg (by omega),if_neg (by omega),List.append_nil,List.append_assoc,List.cons_append,part_one V a i (by omega)]
theorem rset_two (V : List Vst) (a b : Nat) (hab : a ≤ b) : ∀ i,rsetF V [(a : Int),(b : Int)] i = if i ≤ a then V.take i else if i ≤ b then V.take a ++ ((4,0) :: (V.drop a).take (i - a)) else V.take a ++ ((4,0) :: ((V.drop a).take (b - a) ++ ((4,1) :: (V.drop b).take (i - b))))
 | 0 => by simp [rsetF]
 | i + 1 => by
  simp only [rsetF,List.length_cons,List.length_nil,Nat.zero_add]
  rw [rset_two V a b hab i,brkT_two]
  by_cases h1 : i ≤ a
  ·rw [if_pos h1]
   by_cases h2 : a = i
   ·subst h2
    by_cases h3 : b = a
    ·subst h3
     rw [if_pos rfl,if_pos rfl,if_neg (by omega),if_neg (by omega)]
     simp
    ·rw [if_pos rfl,if_neg h3,if_neg (by omega),if_pos (by omega)]
     simp
   ·rw [if_neg h2,if_neg (by omega),if_pos (by omega),List.append_nil,List.append_nil,take_one]
  ·rw [if_neg h1,if_neg (show ¬ a = i by omega)]
   by_cases h3 : i ≤ b
   ·rw [if_pos h3]
    by_cases h4 : b = i
    ·subst h4
     rw [if_pos rfl,if_neg (by omega),if_neg (by omega)]
     simp
    ·rw [if_neg h4,if_neg (by omega),if_pos (by omega)]
     simp only [List.append_nil,List.append_assoc,List.cons_append,part_one V a i (by omega)]
   ·rw [if_neg h3,if_neg (show ¬ b = i by omega),if_neg (by omega),if_neg (by omega)]
    simp only [List.append_nil,List.append_assoc,List.cons_append,part_one V b i (by omega)]
theorem clamp_in {a s l : Nat} (h1 : s ≤ a) (h2 : a ≤ l) : clampM (a : Int) s l = a := by
 unfold clampM
 split
 ·omega
 ·rw [if_pos (by omega)];simp
theorem set_one (V : List Vst) (a : Nat) (h : a ≤ V.length) : setM V [(a : Int)] = rsetM V [(a : Int)] := by
 unfold setM rsetM
 rw [rset_one,if_neg (by omega)]
 simp only [setF,clamp_in (Nat.zero_le a) h,List.drop_zero,Nat.sub_zero]
 congr 2
 rw [List.take_of_length_le (by rw [List.length_drop];omega)]
theorem set_two (V : List Vst) (a b : Nat) (hab : a ≤ b) (h : b ≤ V.length) : setM V [(a : Int),(b : Int)] = rsetM V [(a : Int),(b : Int)] := by
 unfold setM rsetM
 rw [rset_two V a b hab,if_neg (by omega),if_neg (by omega)]
 simp only [setF,clamp_in (Nat.zero_le a) (show a ≤ V.length by omega),clamp_in hab h,List.drop_zero,Nat.sub_zero]
 congr 4
 rw [List.take_of_length_le (by rw [List.length_drop];omega)]
end Go.Proofs.Ytndbikoccdjafaa
namespace Go.Proofs.Ytndbikoccdjafaa
open Go.RowKit
structure CpF (w : World) (base gv gj gs : Nat) (p : Prb) (x : PrbS) : Prop where
 t : OInts w base (G3 gv gj gs) x.t p.time.cells
 d : OInts w base (G3 gv gj gs) x.d p.dist.cells
 ev : x.v.ownBlock = some gv
 ej : x.j.ownBlock = some gj
 es : x.s.ownBlock = some gs
 vj : gv ≠ gj
 vs : gv ≠ gs
 js : gj ≠ gs
 v : ORow w base 58 11 120 (fun g => G3 gv gj gs g ∧ g ≠ gv) (fun _ l v => OVeh w w base (G3 gv gj gs) (G3 gv gj gs) v.brks.length l v) x.v p.vs
 j : ORow w base 88 7 104 (fun g => G3 gv gj gs g ∧ g ≠ gj) (fun _ l j => OJob w base (G3 gv gj gs) l j) x.j p.js
 s : ORow w base 99 9 120 (fun g => G3 gv gj gs g ∧ g ≠ gs) (fun _ l s => OShp w base (G3 gv gj gs) l s) x.s p.ss
theorem ORow.imp {α : Type} {w : World} {base T z y : Nat} {G : Nat → Prop} {v : Value} {PV PV' : Nat → List Value → α → Prop} {L : List α} (h : ORow w base T z y G PV v L) (hp : ∀ k l a,L[k]? = some a → PV k l a → PV' k l a) : ORow w base T z y G PV' v L := by
 obtain ⟨R,h1,h2,h3,h4,h5⟩ := h
 refine ⟨R,h1,h2,h3,h4,fun k a ha => ?_⟩
 obtain ⟨l,e1,e2,e3,e4⟩ := h5 k a ha
 exact ⟨l,e1,e2,e3,hp k l a ha e4⟩
theorem OVeh.free {w0 w0' w : World} {base : Nat} {G G0 : Nat → Prop} {l : List Value} {v : Veh} (h : OVeh w0 w base G G0 v.brks.length l v) : OVeh w0' w base G G0 v.brks.length l v := by
 obtain ⟨xc,xb,e,h1,h2,h3⟩ := h
 refine ⟨xc,xb,e,h1,h2.imp fun k l b hb h => ?_,h3⟩
 obtain ⟨y,e,h⟩ := h
 have hk := (List.getElem?_eq_some_iff.1 hb).1
 rw [if_pos hk] at h
 exact ⟨y,e,by rw [if_pos hk];exact h⟩
theorem cps_fin {w0 w w2 : World} {bx gv gj gs : Nat} {p : Prb} {x : PrbS} (h : CpS w0 w bx gv gj gs p x p.vs.length p.js.length p.ss.length) (hstp : Stp1 w w2 (bx + 1)) : CpF w2 (bx + 2) gv gj gs p x := by
 have kp : ∀ (G : Nat → Prop),Kp w w2 (bx + 2) G G := fun G g h1 h2 h3 => ⟨hstp.block g h3 (by omega),h1⟩
 refine ⟨h.t.kp (kp _),h.d.kp (kp _),h.ev,h.ej,h.es,h.vj,h.vs,h.js,?_,?_,?_⟩
 ·have h1 : ORow w (bx + 2) 58 11 120 (fun g => G3 gv gj gs g ∧ g ≠ gv) (fun _ l v => OVeh w0 w (bx + 2) (G3 gv gj gs) (G3 gv gj gs) v.brks.length l v) x.v p.vs := h.v.imp fun k l a ha hp => by
   unfold PVeh at hp
   rw [if_pos (List.getElem?_eq_some_iff.1 ha).1] at hp
   exact hp
  exact h1.kp (kp _) fun _ _ _ h => OVeh.free (h.kp (kp _))
 ·have h1 : ORow w (bx + 2) 88 7 104 (fun g => G3 gv gj gs g ∧ g ≠ gj) (fun _ l j => OJob w (bx + 2) (G3 gv gj gs) l j) x.j p.js := h.j.imp fun k l a ha hp => by
   unfold PJob at hp
   rw [if_pos (List.getElem?_eq_some_iff.1 ha).1] at hp
   exact hp
  exact h1.kp (kp _) fun _ _ _ h => h.kp (kp _)
 ·have h1 : ORow w (bx + 2) 99 9 120 (fun g => G3 gv gj gs g ∧ g ≠ gs) (fun _ l s => OShp w (bx + 2) (G3 gv gj gs) l s) x.s p.ss := h.s.imp fun k l a ha hp => by
   unfold PShp at hp
   rw [if_pos (List.getElem?_eq_some_iff.1 ha).1] at hp
   exact hp
  exact h1.kp (kp _) fun _ _ _ h => h.kp (kp _)
def CpQ (w : World) (base : Nat) (p : Prb) (x : PrbS) : Prop := ∃ gv gj gs,CpF w base gv gj gs p x
theorem CpF.prb {w : World} {base gv gj gs : Nat} {p : Prb} {x : PrbS} (h : CpF w base gv gj gs p x) : PrbV w x p := by
 refine ⟨h.t.read,h.d.read,h.v.read fun k l a ha hp => VehV.of_o hp,h.j.read fun k l a ha hp => ?_,h.s.read fun k l a ha hp => ?_⟩
 ·obtain ⟨a,b,c,e,h1,h2,h3,h4⟩ := hp
  exact ⟨a,b,c,e,h1.read,h2.read,h3.read,h4⟩
 ·obtain ⟨a,b,c,e,h1,h2,h3,h4⟩ := hp
  exact ⟨a,b,c,e,h1.read,h2.read,h3.read,h4⟩
end Go.Proofs.Ytndbikoccdjafaa
