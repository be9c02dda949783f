/-
  Several texts in one: CPlB CCarA CLods CTStp CStps CTrA CLgt CGrw.
-/
import Derived.Test.YtndbikoccdjafaaBCTskTG
import Derived.Test.YtndbikoccdjafaaBCLReadsG
import Derived.Test.YtndbikoccdjafaaBCCelG
import Derived.Test.YtndbikoccdjafaaBCRowS
namespace Go.Proofs.Ytndbikoccdjafaa
theorem winB_ok {L : List Win} (h : winB L = true) : 1 ≤ L.length ∧ L.length ≤ 4 ∧ Lw L := chk_ok (of_decide_eq_true h)
theorem upB_ok {x m : Int} (h : upB x m = true) : 0 ≤ x ∧ x ≤ m := of_decide_eq_true h
theorem law_veh {p : Prb} (h : lawM p = true) {k : Nat} (hk : k < p.vs.length) : vehB p.dims p.time.n (p.vs.getD k vz) = true := by
 obtain ⟨_,_,_,_,h5⟩ := lawM_ok h
 unfold allB at h5
 simp only [Bool.and_eq_true] at h5
 exact List.all_eq_true.1 h5.1.1 _ (getD_mem _ _ _ hk)
structure VehOk (d n : Int) (v : Veh) : Prop where
 start : 0 ≤ v.start ∧ v.start ≤ n - 1
 stop : 0 ≤ v.stop ∧ v.stop ≤ n - 1
 cap : amtB v.cap d = true
 skills : v.skills < 4611686018427387904
 shift : 0 ≤ v.shift.1 ∧ v.shift.1 ≤ v.shift.2 ∧ v.shift.2 ≤ 1000000
 fixed : 0 ≤ v.fixed ∧ v.fixed ≤ 1000000
 perT : 0 ≤ v.perT ∧ v.perT ≤ 1000000
 perD : 0 ≤ v.perD ∧ v.perD ≤ 1000000
 maxT : 0 ≤ v.maxT ∧ v.maxT ≤ 12
 two : v.brks.length ≤ 2
 brks : ∀ b ∈ v.brks,1 ≤ b.wins.length ∧ b.wins.length ≤ 4 ∧ Lw b.wins ∧ 0 ≤ b.serv ∧ b.serv ≤ 1000000
theorem veh_ok {d n : Int} {v : Veh} (h : vehB d n v = true) : VehOk d n v := by
 unfold vehB at h
 simp only [Bool.and_eq_true] at h
 obtain ⟨⟨⟨⟨⟨⟨⟨⟨⟨⟨h1,h2⟩,h3⟩,h4⟩,h5⟩,h6⟩,h7⟩,h8⟩,h9⟩,h10⟩,h11⟩ := h
 have hs := (winB_ok h5).2.2.1 v.shift (by simp)
 refine ⟨upB_ok h1,upB_ok h2,h3,of_decide_eq_true h4,⟨hs.2.1,hs.1,hs.2.2⟩,upB_ok h6,upB_ok h7,upB_ok h8,upB_ok h9,of_decide_eq_true h10,fun b hb => ?_⟩
 have := List.all_eq_true.1 h11 b hb
 unfold brkB at this
 simp only [Bool.and_eq_true] at this
 have h1 := winB_ok this.1
 have h2 := upB_ok this.2
 exact ⟨h1.1,h1.2.1,h1.2.2,h2.1,h2.2⟩
def StpOk (s : Stp) : Prop := Lw s.wins ∧ 0 ≤ s.serv ∧ s.serv ≤ 1000000
theorem lw_nil : Lw [] := ⟨fun _ h => by simp at h,List.Pairwise.nil⟩
theorem stpOk_z : StpOk sz := ⟨lw_nil,by decide,by decide⟩
theorem stpB_ok {n : Int} {s : Stp} (h : stpB n s = true) : StpOk s ∧ 1 ≤ s.wins.length ∧ 0 ≤ s.place ∧ s.place ≤ n - 1 := by
 unfold stpB at h
 simp only [Bool.and_eq_true] at h
 have h1 := upB_ok h.1.1
 have h2 := upB_ok h.1.2
 have h3 := winB_ok h.2
 exact ⟨⟨h3.2.2,h2⟩,h3.1,h1⟩
theorem stpM_ok {p : Prb} (h : lawM p = true) (k i : Int) : StpOk (stpM p k i) := by
 cases ht : thereV p k i with
 | false => rw [stpM_no ht];exact stpOk_z
 | true =>
  rcases thereV_cases ht with ⟨_,j,_,hj,e⟩ | ⟨_,j,_,hj,e⟩ | ⟨_,j,_,hj,e⟩ <;> rw [e]
  ·have := law_job h hj
   unfold jobB at this
   simp only [Bool.and_eq_true] at this
   exact (stpB_ok this.1.1.1.1).1
  ·have := law_shp h hj
   unfold shpB at this
   simp only [Bool.and_eq_true] at this
   exact (stpB_ok this.1.1.1.1).1
  ·have := law_shp h hj
   unfold shpB at this
   simp only [Bool.and_eq_true] at this
   exact (stpB_ok this.1.1.1.2).1
section
variable {p : Prb} {v : Veh} {d n : Int}
theorem brk_ok (hv : VehOk d n v) (i : Nat) : Lw (v.brks.getD i bz).wins ∧ 0 ≤ (v.brks.getD i bz).serv ∧ (v.brks.getD i bz).serv ≤ 1000000 := by
 by_cases hi : i < v.brks.length
 ·have := hv.brks _ (getD_mem v.brks bz i hi)
  exact ⟨this.2.2.1,this.2.2.2⟩
 ·rw [List.getD_eq_getElem?_getD,List.getElem?_eq_none (by omega)]
  exact ⟨lw_nil,by decide,by decide⟩
theorem endS_ok (hv : VehOk d n v) (x : Int) : StpOk (endS v x) := by
 refine ⟨⟨fun w hw => ?_,by simp [endS]⟩,by simp [endS],by simp [endS]⟩
 simp [endS] at hw
 subst hw
 have := hv.shift
 omega
theorem stopW_ok (hl : lawM p = true) (hv : VehOk d n v) (was : Int) (u : Vst) : StpOk (stopW p v was u) := by
 unfold stopW
 split
 ·exact brk_ok hv _
 ·exact stpM_ok hl _ _
theorem stops_ok (hl : lawM p = true) (hv : VehOk d n v) (V : List Vst) (i : Nat) : StpOk ((stopsM p v V).getD i sz) := by
 rcases Nat.lt_trichotomy i (V.length + 1) with h | h | h
 ·cases i with
  | zero => rw [stop_zero];exact endS_ok hv _
  | succ i => rw [stop_at (List.getElem?_eq_getElem (show i < V.length by omega))];exact stopW_ok hl hv _ _
 ·subst h;rw [stop_end];exact endS_ok hv _
 ·rw [List.getD_eq_getElem?_getD,List.getElem?_eq_none (by rw [stopsM_len];omega)];exact stpOk_z
end
theorem cell_ok {n : Int} {m : Mat} (h : matB n m = true) (hm : SqM m) (f t : Int) : -1 ≤ cellM m f t ∧ cellM m f t ≤ 32000000 := by
 unfold cellM
 split
 ·rename_i hb
  simp only [Bool.and_eq_true] at hb
  have h1 := upB_ok hb.1
  have h2 := upB_ok hb.2
  obtain ⟨k1,k2,k3⟩ := hm
  unfold matB at h
  simp only [Bool.and_eq_true] at h
  have hn : m.n = n := of_decide_eq_true h.1.1
  have e0 : f * m.n + t < m.n * m.n := by
   have : f * m.n ≤ (m.n - 1) * m.n := Int.mul_le_mul_of_nonneg_right h1.2 (by omega)
   rw [Int.sub_mul] at this
   omega
  have e1 : 0 ≤ f * m.n := Int.mul_nonneg h1.1 (by omega)
  have hi : (f * m.n + t).toNat < m.cells.length := by omega
  have := List.all_eq_true.1 h.2 _ (List.mem_range.2 hi)
  unfold celB at this
  simp only [Bool.and_eq_true] at this
  exact of_decide_eq_true this.1
 ·omega
theorem start_ok {L : List Win} (h : Lw L) (t : Int) : 0 ≤ (Hr.startM t L).1 ∧ (Hr.startM t L).1 ≤ 1000000 := by
 rcases Hr.startM_is t L h with ⟨_,_,⟨w,hw,h1,h2⟩,_⟩ | ⟨e,_⟩
 ·have := h.1 w hw;omega
 ·rw [e];decide
structure WaysOk (p : Prb) : Prop where
 st : SqM p.time
 sd : SqM p.dist
 mt : ∀ f t,-1 ≤ cellM p.time f t ∧ cellM p.time f t ≤ 32000000
 md : ∀ f t,-1 ≤ cellM p.dist f t ∧ cellM p.dist f t ≤ 32000000
 dim : 0 ≤ p.dims ∧ p.dims ≤ 3
 vs : p.vs.length ≤ 4
 ts : p.js.length + p.ss.length ≤ 12
theorem ways_ok {p : Prb} (h : lawM p = true) : WaysOk p := by
 obtain ⟨h1,h2,h3,h4,_⟩ := lawM_ok h
 unfold dimB at h1
 simp only [Bool.and_eq_true] at h1
 have hd := upB_ok h1.1
 have hn : 1 ≤ p.time.n ∧ p.time.n ≤ 32 := of_decide_eq_true h1.2
 have s1 := sq_of_mat h2 hn.1 hn.2
 have s2 := sq_of_mat h3 hn.1 hn.2
 have hf := of_decide_eq_true h4
 exact ⟨s1,s2,cell_ok h2 s1,cell_ok h3 s2,hd,hf.1,hf.2⟩
theorem travel_ok {m : Mat} (h : ∀ f t,-1 ≤ cellM m f t ∧ cellM m f t ≤ 32000000) (S : List Stp) (i : Nat) : -1 ≤ travelM m S i ∧ travelM m S i ≤ 32000000 := by
 unfold travelM
 split
 ·omega
 ·exact h _ _
section
variable {m : Mat} {S : List Stp} {f : Int}
theorem lf_ok (hS : ∀ i,StpOk (S.getD i sz)) (hf : 0 ≤ f ∧ f ≤ 1000000) : ∀ i,0 ≤ lfM m S f i ∧ lfM m S f i ≤ 2000000
 | 0 => by show 0 ≤ f ∧ f ≤ 2000000;omega
 | i + 1 => by
  rw [lfM_succ]
  have h1 := hS i
  have h2 := start_ok h1.1 (arrM m S f i)
  have h3 := h1.2
  unfold begM
  omega
theorem arr_ok (hm : ∀ f t,-1 ≤ cellM m f t ∧ cellM m f t ≤ 32000000) (hS : ∀ i,StpOk (S.getD i sz)) (hf : 0 ≤ f ∧ f ≤ 1000000) (i : Nat) : -1 ≤ arrM m S f i ∧ arrM m S f i ≤ 34000000 := by
 have h1 := lf_ok (m := m) hS hf i
 have h2 := travel_ok hm S i
 unfold arrM
 omega
theorem beg_ok (hS : ∀ i,StpOk (S.getD i sz)) (i : Nat) : 0 ≤ (begM m S f i).1 ∧ (begM m S f i).1 ≤ 1000000 := start_ok (hS i).1 _
theorem wait_ok (hm : ∀ f t,-1 ≤ cellM m f t ∧ cellM m f t ≤ 32000000) (hS : ∀ i,StpOk (S.getD i sz)) (hf : 0 ≤ f ∧ f ≤ 1000000) (i : Nat) : -34000000 ≤ waitM m S f i ∧ waitM m S f i ≤ 34000000 := by
 have h1 := arr_ok hm hS hf i
 have h2 := beg_ok (m := m) (f := f) hS i
 unfold waitM
 omega
theorem sumT_ok (hm : ∀ f t,-1 ≤ cellM m f t ∧ cellM m f t ≤ 32000000) (k : Nat) (hk : k ≤ 110) : -110 ≤ sumN (travelM m S) k ∧ sumN (travelM m S) k ≤ 3520000000 := by
 have := sumN_le (f := travelM m S) (l := -1) (u := 32000000) k fun i _ => travel_ok hm S i
 omega
theorem sumW_ok (hm : ∀ f t,-1 ≤ cellM m f t ∧ cellM m f t ≤ 32000000) (hS : ∀ i,StpOk (S.getD i sz)) (hf : 0 ≤ f ∧ f ≤ 1000000) (k : Nat) (hk : k ≤ 110) : -3740000000 ≤ sumN (waitM m S f) k ∧ sumN (waitM m S f) k ≤ 3740000000 := by
 have := sumN_le (f := waitM m S f) (l := -34000000) (u := 34000000) k fun i _ => wait_ok hm hS hf i
 omega
theorem sumS_ok (hS : ∀ i,StpOk (S.getD i sz)) (k : Nat) (hk : k ≤ 110) : 0 ≤ sumN (servM S) k ∧ sumN (servM S) k ≤ 110000000 := by
 have := sumN_le (f := servM S) (l := 0) (u := 1000000) k fun i _ => (hS i).2
 omega
end
end Go.Proofs.Ytndbikoccdjafaa
namespace Go.Proofs.Ytndbikoccdjafaa
open Go.RowKit
structure CarV (w : World) (x : PrbS) (p : Prb) (k : Nat) (ca : Option Addr) (cc : Nat) (ba : Option Addr) (bc : Nat) : Prop where
 lt : k < p.vs.length
 at_ : ∃ b off c,x.v = .slice (some ⟨b,off,none⟩) p.vs.length c ∧ b < w.heap.size ∧ ∀ j,j < 11 → w.cell? ⟨b,off + k * 11 + j,none⟩ = (vehE (p.vs.getD k vz) (.slice ca (p.vs.getD k vz).cap.length cc) (.slice ba (p.vs.getD k vz).brks.length bc))[j]?
 cap : IntsV w (.slice ca (p.vs.getD k vz).cap.length cc) (p.vs.getD k vz).cap
 brks : BrksV w (.slice ba (p.vs.getD k vz).brks.length bc) (p.vs.getD k vz).brks
theorem PrbV.car {w : World} {x : PrbS} {p : Prb} {k : Nat} (h : PrbV w x p) (hk : k < p.vs.length) : ∃ ca cc ba bc,CarV w x p k ca cc ba bc := by
 obtain ⟨b,off,c,xc,xb,he,hb,hcs,q1,q2⟩ := veh_cells h.v hk
 obtain ⟨ca,cc,rfl⟩ := q1.shape
 obtain ⟨ba,bc,rfl⟩ := SlV.shape q2
 exact ⟨ca,cc,ba,bc,hk,⟨b,off,c,he,hb,hcs⟩,q1,q2⟩
end Go.Proofs.Ytndbikoccdjafaa
namespace Go.Proofs.Ytndbikoccdjafaa
open Go.RowKit
def ldQ (p : Prb) (dd : Nat) (V : List Vst) (q : Nat) : List (List Int) := startM p dd V :: goM p (startM p dd V) (V.take q)
theorem last_step {p : Prb} {dd q : Nat} {V : List Vst} {u : Vst} (h : V[q]? = some u) : lastL p (startM p dd V) (V.take (q + 1)) = behindM p u.1 u.2 (lastL p (startM p dd V) (V.take q)) := by rw [take_snoc h,lastL_snoc]
theorem goM_get {p : Prb} : ∀ (V : List Vst) (xs : List Int) (q : Nat),q < V.length → (goM p xs V)[q]? = some (lastL p xs (V.take (q + 1)))
 | [],_,_,h => by simp at h
 | v :: V,xs,0,_ => by simp [goM,lastL]
 | v :: V,xs,q + 1,h => by
  simp only [goM,List.getElem?_cons_succ,List.take_succ_cons]
  rw [goM_get V _ q (by simpa using h)];rfl
theorem irow_in {w : World} {base : Nat} {xs : List Int} {v : Value} (h : IRow w base v xs) : InH w v := fun g hg => (World.ownsRow.lt h g hg).2
theorem own_blk {b n c g : Nat} (h : (Value.slice (some ⟨b,0,none⟩) n c).ownBlock = some g) : b = g := by
 have h : some b = some g := h
 injection h
theorem LdS.mono {w : World} {base base' : Nat} {v : Value} {LL : List (List Int)} {ys : List Value} (h : LdS w base v LL ys) (hb : base' ≤ base) : LdS w base' v LL ys := ⟨h.len,own_mono h.own hb,fun k x y hx hy => ⟨(h.sat k x y hx hy).1.mono hb,(h.sat k x y hx hy).2⟩⟩
theorem LdS.on {w w' : World} {base : Nat} {v : Value} {LL : List (List Int)} {ys : List Value} (h : LdS w base v LL ys) (f : Below w.heap.size w w') : LdS w' base v LL ys := RowS.on h (loc_ints base) f
end Go.Proofs.Ytndbikoccdjafaa
namespace Go.Proofs.Ytndbikoccdjafaa
open Go.RowKit
theorem grw_refl (w : World) (r : Option Nat) : w.grownBy w r := ⟨rfl,rfl,rfl,Nat.le_refl _,fun _ _ _ => rfl⟩
theorem grw_set {w w' : World} {B : Nat} (h : w.grownBy w' (some B)) (j : Nat) (u : Value) : w.grownBy (w'.setCell ⟨B,j,none⟩ u) (some B) := ⟨h.os,h.tape,h.output,by simpa using h.size,fun k hk hn => (heap_setCell_other _ _ _ _ (fun e => hn (by rw [e]))).trans (h.block k hk hn)⟩
theorem grw_low {w w' : World} {B b : Nat} (h : w.grownBy w' (some B)) (hb : b ≤ B) (hw : b ≤ w.heap.size) : Below b w w' := ⟨h.os,h.tape,h.output,h.size,fun k hk => h.block k (by omega) (fun e => by injection e with e;omega)⟩
theorem brk_cells {w : World} {a : Option Addr} {n c : Nat} {L : List Brk} {k : Nat} (h : BrksV w (.slice a n c) L) (hk : k < L.length) : ∃ b off y,a = some ⟨b,off,none⟩ ∧ n = L.length ∧ b < w.heap.size ∧ w.cell? ⟨b,off + k * 2,none⟩ = some y ∧ w.cell? ⟨b,off + k * 2 + 1,none⟩ = some (.int .i64 (L.getD k bz).serv) ∧ WinsV w y (L.getD k bz).wins := by
 obtain ⟨a',c',e,_,_,hc⟩ := h
 injection e with e1 e2 e3
 subst e1
 obtain ⟨b,off,l,rfl,hl,hcs,y,rfl,q1⟩ := hc k hk
 have h0 : w.cell? ⟨b,off + k * 2 + 0,none⟩ = some _ := hcs 0 (by decide)
 have h1 : w.cell? ⟨b,off + k * 2 + 1,none⟩ = some _ := hcs 1 (by decide)
 exact ⟨b,off,y,rfl,e2,block_lt_of_cell h0,h0,h1,q1⟩
end Go.Proofs.Ytndbikoccdjafaa
namespace Go.Proofs.Ytndbikoccdjafaa
open Go.RowKit
theorem lt_of_block {w : World} {B : Nat} {o : Obj} (h : w.heap[B]? = some o) : B < w.heap.size := by
 rcases Nat.lt_or_ge B w.heap.size with hlt | hge
 ·exact hlt
 ·rw [Array.getElem?_eq_none hge] at h;cases h
end Go.Proofs.Ytndbikoccdjafaa
namespace Go.Proofs.Ytndbikoccdjafaa
open Go.RowKit
theorem covers_zero (a b : Nat) (ha : a < 18446744073709551616) (hb : b < 18446744073709551616) : b &&& (18446744073709551615 - a) = 0 ↔ a ||| b = a := by
 have key : ∀ k,(18446744073709551615 - a).testBit k = (decide (k < 64) && !a.testBit k) := fun k => by
  have := Nat.testBit_two_pow_sub_succ (x := a) (n := 64) ha k
  rw [show 2 ^ 64 - (a + 1) = 18446744073709551615 - a by omega] at this
  exact this
 constructor
 ·intro h
  refine Nat.eq_of_testBit_eq fun k => ?_
  have h1 := congrArg (·.testBit k) h
  simp only [Nat.testBit_and,key,Nat.zero_testBit] at h1
  rw [Nat.testBit_or]
  by_cases hk : k < 64
  ·cases hA : a.testBit k <;> cases hB : b.testBit k <;> simp [hA,hB,hk] at h1 ⊢
  ·have : b.testBit k = false := Nat.testBit_lt_two_pow (Nat.lt_of_lt_of_le hb (Nat.pow_le_pow_right (n := 2) (by decide) (show 64 ≤ k by omega)))
   simp [this]
 ·intro h
  refine Nat.eq_of_testBit_eq fun k => ?_
  have h1 := congrArg (·.testBit k) h
  simp only [Nat.testBit_or] at h1
  rw [Nat.testBit_and,key,Nat.zero_testBit]
  cases hA : a.testBit k <;> cases hB : b.testBit k <;> simp [hA,hB] at h1 ⊢
theorem skl_wd {w : World} {x : PrbS} {p : Prb} (h : PrbV w x p) (t : Tsk) : Wd (sklM p t) := by
 obtain ⟨s,i⟩ := t
 unfold sklM
 split
 ·rename_i ht
  split
  ·rename_i hs
   subst hs
   obtain ⟨k,rfl,hk⟩ := there_ship ht
   obtain ⟨a,c,_,_,_,hc⟩ := h.s
   obtain ⟨_,_,_,_,_,_,_,_,_,_,_,_,_,hw⟩ := hc k hk
   simpa using hw
  ·rename_i hs
   have hs : s = false := by cases s <;> simp_all
   subst hs
   obtain ⟨k,rfl,hk⟩ := there_job ht
   obtain ⟨a,c,_,_,_,hc⟩ := h.j
   obtain ⟨_,_,_,_,_,_,_,_,_,_,_,_,_,hw⟩ := hc k hk
   simpa using hw
 ·exact ⟨by omega,by omega⟩
theorem veh_wd {w : World} {x : PrbS} {p : Prb} (h : PrbV w x p) {k : Nat} (hk : k < p.vs.length) : Wd (p.vs.getD k vz).skills := by
 obtain ⟨a,c,_,_,_,hc⟩ := h.v
 obtain ⟨_,_,_,_,_,_,_,_,_,_,_,hw⟩ := hc k hk
 exact hw
end Go.Proofs.Ytndbikoccdjafaa
namespace Go.Proofs.Ytndbikoccdjafaa
open Go.RowKit
theorem ld_cells {w : World} {base n c q : Nat} {a : Option Addr} {LL : List (List Int)} {ys : List Value} {xs : List Int} (h : LdS w base (.slice a n c) LL ys) (hx : LL[q]? = some xs) : ∃ g y,a = some ⟨g,0,none⟩ ∧ g < w.heap.size ∧ ys[q]? = some y ∧ w.cell? ⟨g,q,none⟩ = some y ∧ IRow w base y xs := by
 obtain ⟨y,g,cap,hy,e,_,hg⟩ := RowS.some h hx
 injection e with e1 e2 e3
 subst e1 e2 e3
 have := RowS.cells (z := 1) (enc := encL) (fun _ _ => rfl) h hx hy 0 (by decide)
 rw [Nat.mul_one,Nat.add_zero] at this
 exact ⟨g,y,rfl,hg,hy,this,(h.sat q xs y hx hy).1⟩
end Go.Proofs.Ytndbikoccdjafaa
namespace Go.Proofs.Ytndbikoccdjafaa
open Go.RowKit
theorem info34 : (Try.prog.info? 43).map (fun i => (i.zero,i.size,i.bytes)) = some (some (.agg #[.int .i64 0,.int .i64 0]),2,16) := by kernel_rfl
end Go.Proofs.Ytndbikoccdjafaa
