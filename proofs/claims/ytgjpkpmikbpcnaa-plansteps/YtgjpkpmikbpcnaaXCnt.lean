/-
  What the calls of the document's count and pairs do.
-/
import Derived.Test.YtgjpkpmikbpcnaaXPtsG
import Derived.Test.YtgjpkpmikbpcnaaXRTskG
namespace Go.Proofs.Ytgjpkpmikbpcnaa
open Go.RowKit
theorem count_step {V : List Vst} {q : Nat} {u v : Vst} (h : V[q]? = some u) : (V.take (q + 1)).count v = (V.take q).count v + (if u = v then 1 else 0) := by
 rw [take_snoc h,List.count_append,List.count_singleton]
 simp only [beq_iff_eq]
set_option maxRecDepth 100000 in
set_option maxHeartbeats 6400000 in
theorem count_any {w : World} {a : Option Addr} {m c n : Nat} {V : List Vst} (h : VsV w (.slice a m c) V) (hm : V.length = m) (hm2 : m ≤ 1000) (hn : n ≤ m) (k i : Int) : Calls Try.prog 128 #[.slice a m c,.int .i64 (n : Int),.agg #[.int .i64 k,.int .i64 i]] w fun e w' => e = .returned (.int .i64 ((V.take n).count (k,i) : Nat)) ∧ Below w.heap.size w w' := by
 have HV := hide h
 have HM := hide hm
 clear h hm
 obtain ⟨W,hW⟩ : ∃ W,W = w.alloc (.cells #[.int .i64 k,.int .i64 i] 34) := ⟨_,rfl⟩
 have HBW : Hid (Below w.heap.size w W) := by rw [hW];exact (Below.refl _ _).alloc (Nat.le_refl _) _
 have HC0 : W.cell? ⟨w.heap.size,0,none⟩ = some (.int .i64 k) := by rw [hW];exact cell_of_row _ _ _ _ _ _ (heap_alloc_new w _)
 have HC1 : W.cell? ⟨w.heap.size,1,none⟩ = some (.int .i64 i) := by rw [hW];exact cell_of_row _ _ _ _ _ _ (heap_alloc_new w _)
 have HLW : Hid (w.heap.size < W.heap.size) := by show _ < _;rw [hW];simp
 go_enter Try.func128,Try.ntmps128
 go_wp2_with fail
 rw [← hW]
 clear hW
 go_loopw [8,7] (fun vi v7 wr => ∃ q s : Nat,vi = .int .i64 q ∧ v7 = .int .i64 s ∧ q ≤ n ∧ s ≤ q ∧ Hid ((V.take q).count (k,i) = s) ∧ Hid (Below W.heap.size W wr)) (fun vi _ _ => n - (intOf vi).toNat)
 case atStart => exact ⟨0,0,rfl,rfl,Nat.zero_le _,Nat.zero_le _,rfl,Below.refl _ _⟩
 case round =>
  obtain ⟨q,s,rfl,rfl,hq,hsq,HS,HB⟩ := hrel
  by_cases hqn : q < n
  ·have i1 : (q : Int) < (n : Int) := by omega
   have i2 : (0 : Int) ≤ (q : Int) := by omega
   have i3 : ¬ (m : Int) ≤ (q : Int) := by omega
   have i4 : (q : Int) < (m : Int) := by omega
   obtain ⟨⟨kd,it⟩,hu⟩ : ∃ u,V[q]? = some u := ⟨_,List.getElem?_eq_getElem (by rw [HM.out];omega)⟩
   obtain ⟨b,off,rfl,hb,c1,c2,_⟩ := vs_cells HV.out hu
   simp only at c1 c2
   have d1 : wr.cell? ⟨b,off + q * 2,none⟩ = some (.int .i64 kd) := ((bcell (below_on HBW.out HB.out)).1 _ _ hb).trans c1
   have d2 : wr.cell? ⟨b,off + q * 2 + 1,none⟩ = some (.int .i64 it) := ((bcell (below_on HBW.out HB.out)).1 _ _ hb).trans c2
   have e1 : wr.cell? ⟨w.heap.size,0,none⟩ = some (.int .i64 k) := ((bcell HB.out).1 _ _ HLW.out).trans HC0
   have e2 : wr.cell? ⟨w.heap.size,1,none⟩ = some (.int .i64 i) := ((bcell HB.out).1 _ _ HLW.out).trans HC1
   have HCT := hide (count_step (v := (k,i)) hu)
   clear c1 c2 hu hb
   by_cases ek : kd = k
   ·subst ek
    by_cases ei : it = i
    ·subst ei
     have HF : Hid ((V.take (q + 1)).count (kd,it) = s + 1) := by show _ = _;rw [HCT.out,HS.out,if_pos rfl]
     go_wp2_with fail
     first | (go_quiet (fail)) | fail
     go_wp2_with fail
     go_roundw
     case rel => exact ⟨q + 1,s + 1,by go_num,by go_num,by omega,by omega,HF.out,below_drewN HB.out _⟩
     case measure => simp [intOf];omega
    ·have HF : Hid ((V.take (q + 1)).count (kd,i) = s) := by show _ = _;rw [HCT.out,HS.out,if_neg (fun e => ei (by injection e))];rfl
     have y2 : (it == i) = false := by simpa using ei
     go_wp2_with fail
     first | (go_quiet (fail)) | fail
     go_wp2_with fail
     go_roundw
     case rel => exact ⟨q + 1,s,by go_num,rfl,by omega,by omega,HF.out,below_drewN HB.out _⟩
     case measure => simp [intOf];omega
   ·have HF : Hid ((V.take (q + 1)).count (k,i) = s) := by show _ = _;rw [HCT.out,HS.out,if_neg (fun e => ek (by injection e))];rfl
    have y1 : (kd == k) = false := by simpa using ek
    go_wp2_with fail
    first | (go_quiet (fail)) | fail
    go_wp2_with fail
    go_roundw
    case rel => exact ⟨q + 1,s,by go_num,rfl,by omega,by omega,HF.out,below_drewN HB.out _⟩
    case measure => simp [intOf];omega
  ·have i1 : ¬ (q : Int) < (n : Int) := by omega
   have hqe : q = n := by omega
   subst hqe
   go_wp2_with fail
   go_ret
   exact ⟨by simp [HS.out],below_on HBW.out HB.out⟩
end Go.Proofs.Ytgjpkpmikbpcnaa
