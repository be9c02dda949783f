/-
  Several texts in one: CLoaL CSamP CCnt CPrs0.
-/
import Derived.Deep.RegionHeld3
import Derived.BigRegion
import Derived.Test.YtndbikoccdjafaaBCLinB
import Derived.Test.YtndbikoccdjafaaBCRLdW
import Derived.Test.YtndbikoccdjafaaBCVrwG
import Derived.Test.YtndbikoccdjafaaBCRSetG
import Derived.Test.YtndbikoccdjafaaBCCpX
import Derived.Test.YtndbikoccdjafaaBCRChk
import Derived.Test.YtndbikoccdjafaaBCLReadsG
import Derived.Test.YtndbikoccdjafaaBCPlBG
import Derived.Test.YtndbikoccdjafaaBCTskTG
namespace Go.Proofs.Ytndbikoccdjafaa
open Go.RowKit
theorem ld_get {w : World} {base n c k : Nat} {a : Option Addr} {LL : List (List Int)} {ys : List Value} {xs : List Int} (h : LdS w base (.slice a n c) LL ys) (hx : LL[k]? = some xs) : ∃ g y1 yc,a = some ⟨g,0,none⟩ ∧ g < w.heap.size ∧ w.cell? ⟨g,k,none⟩ = some (.slice y1 xs.length yc) ∧ IntsAt w y1 xs := by
 obtain ⟨y,g,cap,hy,hg,_,hlt⟩ := RowS.some h hx
 injection hg with hg1 hg2 hg3
 subst hg1 hg3
 have hc := RowS.cells (z := 1) (fun _ _ => rfl) h hx hy 0 (by decide)
 obtain ⟨hs,_,_⟩ := h.sat k xs y hx hy
 obtain ⟨y1,yc,rfl⟩ := IRow.shape hs
 exact ⟨g,y1,yc,rfl,hlt,by rw [Nat.mul_one] at hc;exact hc,IRow.ints hs⟩
theorem two_ints {w : World} {a b : Int} : IntsAt (w.alloc (.cells #[.int .i64 a,.int .i64 b] 3)) (some ⟨w.heap.size,0,none⟩) [a,b] := fun k hk => by
 have e := heap_alloc_new w (.cells #[.int .i64 a,.int .i64 b] 3)
 refine ⟨w.heap.size,0,rfl,?_⟩
 rw [cell_of_row _ _ _ _ _ _ e]
 have : k = 0 ∨ k = 1 := by simp at hk;omega
 rcases this with rfl | rfl <;> rfl
end Go.Proofs.Ytndbikoccdjafaa
namespace Go.Proofs.Ytndbikoccdjafaa
open Go.RowKit
theorem stp_get {w : World} {base b2 n c k : Nat} {a : Option Addr} {L : List StepT} {ys : List Value} {s : StepT} (h : StpR w base b2 (.slice a n c) L ys) (hx : L[k]? = some s) : ∃ g y1 yc,a = some ⟨g,0,none⟩ ∧ g < w.heap.size ∧ (∀ j,j < 9 → w.cell? ⟨g,k * 9 + j,none⟩ = (encS s (.slice y1 s.load.length yc))[j]?) ∧ IntsAt w y1 s.load := by
 obtain ⟨y,g,cap,hy,hg,_,hlt⟩ := RowS.some h hx
 injection hg with hg1 hg2 hg3
 subst hg1 hg3
 obtain ⟨hs,_,_⟩ := h.sat k s y hx hy
 obtain ⟨y1,yc,rfl⟩ := IRow.shape hs
 exact ⟨g,y1,yc,rfl,hlt,fun j hj => RowS.cells (z := 9) (fun _ _ => rfl) h hx hy j hj,IRow.ints hs⟩
end Go.Proofs.Ytndbikoccdjafaa
namespace Go.Proofs.Ytndbikoccdjafaa
open Go.RowKit
theorem count_step {V : List Vst} {q : Nat} {u v : Vst} (h : V[q]? = some u) : (V.take (q + 1)).count v = (V.take q).count v + (if u = v then 1 else 0) := by
 rw [take_snoc h,List.count_append,List.count_singleton]
 simp only [beq_iff_eq]
set_option maxRecDepth 100000 in
set_option maxHeartbeats 6400000 in
theorem count_any {w : World} {a : Option Addr} {m c n : Nat} {V : List Vst} (h : VsV w (.slice a m c) V) (hm : V.length = m) (hm2 : m ≤ 1000) (hn : n ≤ m) (k i : Int) : Calls Try.prog 128 #[.slice a m c,.int .i64 (n : Int),.agg #[.int .i64 k,.int .i64 i]] w fun e w' => e = .returned (.int .i64 ((V.take n).count (k,i) : Nat)) ∧ Below w.heap.size w w' := by
 have HV := hide h
 have HM := hide hm
 clear h hm
 obtain ⟨W,hW⟩ : ∃ W,W = w.alloc (.cells #[.int .i64 k,.int .i64 i] 43) := ⟨_,rfl⟩
 have HBW : Hid (Below w.heap.size w W) := by rw [hW];exact (Below.refl _ _).alloc (Nat.le_refl _) _
 have HC0 : W.cell? ⟨w.heap.size,0,none⟩ = some (.int .i64 k) := by rw [hW];exact cell_of_row _ _ _ _ _ _ (heap_alloc_new w _)
 have HC1 : W.cell? ⟨w.heap.size,1,none⟩ = some (.int .i64 i) := by rw [hW];exact cell_of_row _ _ _ _ _ _ (heap_alloc_new w _)
 have HLW : Hid (w.heap.size < W.heap.size) := by show _ < _;rw [hW];simp
 go_enter Try.func128,Try.ntmps128
 go_wp2_with fail
 rw [← hW]
 clear hW
 go_loopw [8,7] (fun vi v7 wr => ∃ q s : Nat,vi = .int .i64 q ∧ v7 = .int .i64 s ∧ q ≤ n ∧ s ≤ q ∧ Hid ((V.take q).count (k,i) = s) ∧ Hid (Below W.heap.size W wr)) (fun vi _ _ => n - (intOf vi).toNat)
 case atStart => exact ⟨0,0,rfl,rfl,Nat.zero_le _,Nat.zero_le _,rfl,Below.refl _ _⟩
 case round =>
  obtain ⟨q,s,rfl,rfl,hq,hsq,HS,HB⟩ := hrel
  by_cases hqn : q < n
  ·have i1 : (q : Int) < (n : Int) := by omega
   have i2 : (0 : Int) ≤ (q : Int) := by omega
   have i3 : ¬ (m : Int) ≤ (q : Int) := by omega
   have i4 : (q : Int) < (m : Int) := by omega
   obtain ⟨⟨kd,it⟩,hu⟩ : ∃ u,V[q]? = some u := ⟨_,List.getElem?_eq_getElem (by rw [HM.out];omega)⟩
   obtain ⟨b,off,rfl,hb,c1,c2,_⟩ := vs_cells HV.out hu
   simp only at c1 c2
   have d1 : wr.cell? ⟨b,off + q * 2,none⟩ = some (.int .i64 kd) := ((bcell (below_on HBW.out HB.out)).1 _ _ hb).trans c1
   have d2 : wr.cell? ⟨b,off + q * 2 + 1,none⟩ = some (.int .i64 it) := ((bcell (below_on HBW.out HB.out)).1 _ _ hb).trans c2
   have e1 : wr.cell? ⟨w.heap.size,0,none⟩ = some (.int .i64 k) := ((bcell HB.out).1 _ _ HLW.out).trans HC0
   have e2 : wr.cell? ⟨w.heap.size,1,none⟩ = some (.int .i64 i) := ((bcell HB.out).1 _ _ HLW.out).trans HC1
   have HCT := hide (count_step (v := (k,i)) hu)
   clear c1 c2 hu hb
   by_cases ek : kd = k
   ·subst ek
    by_cases ei : it = i
    ·subst ei
     have HF : Hid ((V.take (q + 1)).count (kd,it) = s + 1) := by show _ = _;rw [HCT.out,HS.out,if_pos rfl]
     go_wp2_with fail
     first | (go_quiet (fail)) | fail
     go_wp2_with fail
     go_roundw
     case rel => exact ⟨q + 1,s + 1,by go_num,by go_num,by omega,by omega,HF.out,below_drewN HB.out _⟩
     case measure => simp [intOf];omega
    ·have HF : Hid ((V.take (q + 1)).count (kd,i) = s) := by show _ = _;rw [HCT.out,HS.out,if_neg (fun e => ei (by injection e))];rfl
     have y2 : (it == i) = false := by simpa using ei
     go_wp2_with fail
     first | (go_quiet (fail)) | fail
     go_wp2_with fail
     go_roundw
     case rel => exact ⟨q + 1,s,by go_num,rfl,by omega,by omega,HF.out,below_drewN HB.out _⟩
     case measure => simp [intOf];omega
   ·have HF : Hid ((V.take (q + 1)).count (k,i) = s) := by show _ = _;rw [HCT.out,HS.out,if_neg (fun e => ek (by injection e))];rfl
    have y1 : (kd == k) = false := by simpa using ek
    go_wp2_with fail
    first | (go_quiet (fail)) | fail
    go_wp2_with fail
    go_roundw
    case rel => exact ⟨q + 1,s,by go_num,rfl,by omega,by omega,HF.out,below_drewN HB.out _⟩
    case measure => simp [intOf];omega
  ·have i1 : ¬ (q : Int) < (n : Int) := by omega
   have hqe : q = n := by omega
   subst hqe
   go_wp2_with fail
   go_ret
   exact ⟨by simp [HS.out],below_on HBW.out HB.out⟩
end Go.Proofs.Ytndbikoccdjafaa
namespace Go.Proofs.Ytndbikoccdjafaa
open Go.RowKit
theorem count_one {V : List Vst} {v : Vst} (hm : v ∈ V) (hu : ∀ (i : Nat),V[i]? = some v → v ∉ V.take i) : V.count v = 1 := by
 revert hm hu
 refine foldl_snoc_ind (Q := fun V : List Vst => v ∈ V → (∀ (i : Nat),V[i]? = some v → v ∉ V.take i) → V.count v = 1) (fun h => by simp at h) (fun V a ih hm hu => ?_) V
 rw [List.count_append,List.count_singleton]
 by_cases e : a = v
 ·subst e
  have := hu V.length (by simp)
  rw [List.take_append_of_le_length (Nat.le_refl _),List.take_length] at this
  rw [List.count_eq_zero_of_not_mem this]
  simp
 ·have hm' : v ∈ V := by
   rcases List.mem_append.1 hm with h | h
   ·exact h
   ·rw [List.mem_singleton] at h;exact absurd h.symm e
  have := ih hm' fun i hi => by
   have hl := (List.getElem?_eq_some_iff.1 hi).1
   have := hu i (by rw [List.getElem?_append_left hl];exact hi)
   rw [List.take_append_of_le_length (by omega)] at this
   exact this
  rw [this]
  simp [e]
def pairB (p : Prb) (V : List Vst) (i : Nat) : Bool := decide ((V.getD i (0,0)).1 = 4) || (thereV p (V.getD i (0,0)).1 (V.getD i (0,0)).2 && decide (V.count (V.getD i (0,0)) = 1) && (decide ((V.getD i (0,0)).1 ≠ 3) || decide ((V.take i).count (2,(V.getD i (0,0)).2) = 1)) && (decide ((V.getD i (0,0)).1 ≠ 2) || decide (V.count (3,(V.getD i (0,0)).2) = 1)))
theorem getD_of {V : List Vst} {i : Nat} {v : Vst} (h : V[i]? = some v) : V.getD i (0,0) = v := by rw [List.getD_eq_getElem?_getD,h];rfl
theorem pairs_whole (p : Prb) (V : List Vst) : (List.range V.length).all (pairB p V) = wholeM p V := by
 have key : (List.range V.length).all (pairB p V) = true ↔ Whole p V := by
  constructor
  ·intro h
   have ho : ∀ (i : Nat) v,V[i]? = some v → v.1 ≠ 4 → thereV p v.1 v.2 = true ∧ V.count v = 1 ∧ (v.1 = 3 → (V.take i).count (2,v.2) = 1) ∧ (v.1 = 2 → V.count (3,v.2) = 1) := fun i v hi h4 => by
    have := all_get h (List.getElem?_eq_some_iff.1 hi).1
    unfold pairB at this
    rw [getD_of hi] at this
    simp only [Bool.or_eq_true,Bool.and_eq_true,decide_eq_true_eq] at this
    rcases this with h9 | ⟨⟨⟨h1,h2⟩,h3⟩,h5⟩
    ·exact absurd h9 h4
    ·exact ⟨h1,h2,fun e => h3.resolve_left (fun h8 => h8 e),fun e => h5.resolve_left (fun h8 => h8 e)⟩
   refine ⟨fun i v hi h4 => ?_,fun j hj => ?_⟩
   ·obtain ⟨h1,h2,h3,_⟩ := ho i v hi h4
    refine ⟨h1,fun hmem => ?_,fun e => ?_⟩
    ·have hl := (List.getElem?_eq_some_iff.1 hi).1
     have hs := count_step (v := v) hi
     rw [if_pos rfl] at hs
     have hp : 0 < (V.take i).count v := List.count_pos_iff.2 hmem
     have hle : (V.take (i + 1)).count v ≤ V.count v := List.Sublist.count_le v (List.take_sublist _ _)
     omega
    ·have := h3 e
     exact List.count_pos_iff.1 (by omega)
   ·obtain ⟨i,hi⟩ := List.getElem?_of_mem hj
    have := (ho i _ hi (by simp)).2.2.2 rfl
    exact List.count_pos_iff.1 (by simp only at this;omega)
  ·rintro ⟨hg,hw⟩
   have hone : ∀ v ∈ V,v.1 ≠ 4 → V.count v = 1 := fun v hv h4 => count_one hv fun i hi => (hg i v hi h4).2.1
   refine all_yes fun i hi => ?_
   have hx : V[i]? = some V[i] := List.getElem?_eq_getElem hi
   unfold pairB
   rw [getD_of hx]
   obtain ⟨v,hv⟩ : ∃ v,V[i] = v := ⟨_,rfl⟩
   rw [hv] at hx ⊢
   simp only [Bool.or_eq_true,Bool.and_eq_true,decide_eq_true_eq]
   by_cases h4 : v.1 = 4
   ·exact .inl h4
   ·obtain ⟨h1,h2,h3⟩ := hg i v hx h4
    refine .inr ⟨⟨⟨h1,hone v (List.mem_of_getElem? hx) h4⟩,?_⟩,?_⟩
    ·by_cases e : v.1 = 3
     ·have hm := h3 e
      have hc : 0 < (V.take i).count (2,v.2) := List.count_pos_iff.2 hm
      have hle : (V.take i).count (2,v.2) ≤ V.count (2,v.2) := List.Sublist.count_le _ (List.take_sublist _ _)
      have := hone (2,v.2) (List.mem_of_mem_take hm) (by simp)
      exact .inr (by omega)
     ·exact .inl e
    ·by_cases e : v.1 = 2
     ·have hm : ((2,v.2) : Vst) ∈ V := by have := List.mem_of_getElem? hx;obtain ⟨a,b⟩ := v;simp only at e;subst e;exact this
      exact .inr (hone (3,v.2) (hw v.2 hm) (by simp))
     ·exact .inl e
 cases e : wholeM p V with
 | true => exact key.2 ((wholeM_iff p V).1 e)
 | false =>
  cases e2 : (List.range V.length).all (pairB p V) with
  | false => rfl
  | true => have := (wholeM_iff p V).2 (key.1 e2);rw [e] at this;cases this
end Go.Proofs.Ytndbikoccdjafaa
