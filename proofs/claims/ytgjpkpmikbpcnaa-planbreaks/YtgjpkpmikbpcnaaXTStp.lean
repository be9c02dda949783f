/-
  What the call of stop of a tour does.
-/
import Derived.Test.YtgjpkpmikbpcnaaXPlBG
import Derived.Test.YtgjpkpmikbpcnaaXMin
namespace Go.Proofs.Ytgjpkpmikbpcnaa
open Go.RowKit
theorem grw_refl (w : World) (r : Option Nat) : w.grownBy w r := ⟨rfl,rfl,rfl,Nat.le_refl _,fun _ _ _ => rfl⟩
theorem grw_set {w w' : World} {B : Nat} (h : w.grownBy w' (some B)) (j : Nat) (u : Value) : w.grownBy (w'.setCell ⟨B,j,none⟩ u) (some B) := ⟨h.os,h.tape,h.output,by simpa using h.size,fun k hk hn => (heap_setCell_other _ _ _ _ (fun e => hn (by rw [e]))).trans (h.block k hk hn)⟩
theorem grw_alloc {w w' : World} {r : Option Nat} (h : w.grownBy w' r) (o : Obj) : w.grownBy (w'.alloc o) r := ⟨h.os,h.tape,h.output,by have := h.size;simp;omega,fun k hk hn => (Below.heap_alloc w' o k (Nat.lt_of_lt_of_le hk h.size)).trans (h.block k hk hn)⟩
theorem grw_low {w w' : World} {B b : Nat} (h : w.grownBy w' (some B)) (hb : b ≤ B) (hw : b ≤ w.heap.size) : Below b w w' := ⟨h.os,h.tape,h.output,h.size,fun k hk => h.block k (by omega) (fun e => by injection e with e;omega)⟩
theorem grw_wins {w w' : World} {B : Nat} (h : w.grownBy w' (some B)) {y : Value} {L : List Win} (hy : WinsV w y L) (hi : InH w y) (hB : ∀ g,y.ownBlock = some g → g ≠ B) : WinsV w' y L ∧ InH w' y := ⟨loc_wins w w' y ⟨0,0,L⟩ hy fun g hg => h.block g (hi g hg) fun e => hB g hg (by injection e),fun g hg => Nat.lt_of_lt_of_le (hi g hg) h.size⟩
theorem stpM_len {p : Prb} (h : lawM p = true) (k i : Int) : (stpM p k i).wins.length ≤ 4 := by
 cases ht : thereV p k i with
 | false => rw [stpM_no ht];exact Nat.zero_le _
 | true =>
  rcases thereV_cases ht with ⟨_,j,_,hj,e⟩ | ⟨_,j,_,hj,e⟩ | ⟨_,j,_,hj,e⟩ <;> rw [e]
  ·have := law_job h hj
   unfold jobB stpB at this
   simp only [Bool.and_eq_true] at this
   exact (winB_ok this.1.1.1.1.2).2.1
  ·have := law_shp h hj
   unfold shpB stpB at this
   simp only [Bool.and_eq_true] at this
   exact (winB_ok this.1.1.1.1.2).2.1
  ·have := law_shp h hj
   unfold shpB stpB at this
   simp only [Bool.and_eq_true] at this
   exact (winB_ok this.1.1.1.2.2).2.1
theorem own_winsR {w : World} {base : Nat} {v : Value} {L : List Win} (h : w.ownsRow base 61 2 v L.length (flatW L)) (hb : L.length * 16 ≤ 140737488351232) : WinsV w v L := OWins.read (G := fun _ => False) ⟨h,hb,fun _ _ h => h⟩
theorem brk_cells {w : World} {a : Option Addr} {n c : Nat} {L : List Brk} {k : Nat} (h : BrksV w (.slice a n c) L) (hk : k < L.length) : ∃ b off y,a = some ⟨b,off,none⟩ ∧ n = L.length ∧ b < w.heap.size ∧ w.cell? ⟨b,off + k * 2,none⟩ = some y ∧ w.cell? ⟨b,off + k * 2 + 1,none⟩ = some (.int .i64 (L.getD k bz).serv) ∧ WinsV w y (L.getD k bz).wins := by
 obtain ⟨a',c',e,_,_,hc⟩ := h
 injection e with e1 e2 e3
 subst e1
 obtain ⟨b,off,l,rfl,hl,hcs,y,rfl,q1⟩ := hc k hk
 have h0 : w.cell? ⟨b,off + k * 2 + 0,none⟩ = some _ := hcs 0 (by decide)
 have h1 : w.cell? ⟨b,off + k * 2 + 1,none⟩ = some _ := hcs 1 (by decide)
 exact ⟨b,off,y,rfl,e2,block_lt_of_cell h0,h0,h1,q1⟩
theorem wins_in {w : World} {y : Value} {L : List Win} (h : WinsV w y L) (hl : 1 ≤ L.length) : InH w y := by
 obtain ⟨a,c,rfl,_,h2⟩ := h
 obtain ⟨b,off,rfl,e0,_⟩ := h2.cell 0 (by omega)
 intro g hg
 have : some b = some g := hg
 injection this with this
 subst this
 exact block_lt_of_cell e0
set_option maxRecDepth 100000 in
set_option maxHeartbeats 6400000 in
theorem tstop_task {w0 w : World} {x : PrbS} {p : Prb} {k m vc : Nat} {va : Option Addr} (h : PrbV w0 x p) (f : Below w0.heap.size w0 w) (hl : lawM p = true) (kd it was : Int) (h4 : kd ≠ 4) : Calls Try.prog 111 #[.agg (tourE p x k (.slice va m vc)),.agg #[.int .i64 kd,.int .i64 it],.int .i64 was] w fun e w' => ∃ y,e = .returned (.agg #[.int .i64 (stpM p kd it).place,.int .i64 (stpM p kd it).serv,y]) ∧ WinsV w' y (stpM p kd it).wins ∧ InH w' y ∧ (∀ g,y.ownBlock = some g → w.heap.size ≤ g) ∧ Below w.heap.size w w' := by
 have HWL := hide (stpM_len hl kd it)
 obtain ⟨s,hs⟩ : ∃ s,stpM p kd it = s := ⟨_,rfl⟩
 have HS := hide hs
 rw [hs] at HWL ⊢
 clear hs hl
 have y4 : (kd == 4) = false := by simpa using h4
 have HP := hide h
 have HF := hide f
 have hF2 := PrbV.on h f
 have HPW := hide hF2
 obtain ⟨ta,tc,da,dc,va',vc',ja,jc,sa,sc,rfl⟩ := h.open
 clear h f hF2
 have HTE : Hid (tourE p ⟨.slice ta p.time.cells.length tc,.slice da p.dist.cells.length dc,.slice va' p.vs.length vc',.slice ja p.js.length jc,.slice sa p.ss.length sc⟩ k (.slice va m vc) = #[.int .i64 p.dims,.int .i64 p.time.n,.slice ta p.time.cells.length tc,.int .i64 p.dist.n,.slice da p.dist.cells.length dc,.slice va' p.vs.length vc',.slice ja p.js.length jc,.slice sa p.ss.length sc,.int .i64 k,.slice va m vc]) := rfl
 rw [HTE.out]
 obtain ⟨W,hW⟩ : ∃ W,W = ((w.alloc (.cells #[.int .i64 p.dims,.int .i64 p.time.n,.slice ta p.time.cells.length tc,.int .i64 p.dist.n,.slice da p.dist.cells.length dc,.slice va' p.vs.length vc',.slice ja p.js.length jc,.slice sa p.ss.length sc,.int .i64 k,.slice va m vc] 121)).alloc (.cells #[.int .i64 kd,.int .i64 it] 34)).alloc (.cells #[.int .i64 0,.int .i64 0,.slice none 0 0] 45) := ⟨_,rfl⟩
 have HBW : Hid (Below w.heap.size w W) := by rw [hW];exact (((Below.refl _ _).alloc (Nat.le_refl _) _).alloc (by simp) _).alloc (by simp;omega) _
 have HLW : Hid (w.heap.size + 1 + 1 < W.heap.size) := by show _ < _;rw [hW];simp
 have HCA : Hid (∀ j,W.cell? ⟨w.heap.size,j,none⟩ = (#[.int .i64 p.dims,.int .i64 p.time.n,.slice ta p.time.cells.length tc,.int .i64 p.dist.n,.slice da p.dist.cells.length dc,.slice va' p.vs.length vc',.slice ja p.js.length jc,.slice sa p.ss.length sc,.int .i64 k,.slice va m vc] : Array Value)[j]?) := fun j => by
  rw [hW,((bcell ((Below.refl _ _).alloc (Nat.le_refl _) _)).1 _ j (by simp;omega)),((bcell ((Below.refl _ _).alloc (Nat.le_refl _) _)).1 _ j (by simp))]
  exact cell_of_row _ _ _ _ _ _ (heap_alloc_new w _)
 have HCV : Hid (∀ j,W.cell? ⟨w.heap.size + 1,j,none⟩ = (#[.int .i64 kd,.int .i64 it] : Array Value)[j]?) := fun j => by
  rw [hW,((bcell ((Below.refl _ _).alloc (Nat.le_refl _) _)).1 _ j (by simp))]
  have := cell_of_row _ (w.heap.size + 1) j _ _ _ (by have h9 := heap_alloc_new (w.alloc (.cells #[.int .i64 p.dims,.int .i64 p.time.n,.slice ta p.time.cells.length tc,.int .i64 p.dist.n,.slice da p.dist.cells.length dc,.slice va' p.vs.length vc',.slice ja p.js.length jc,.slice sa p.ss.length sc,.int .i64 k,.slice va m vc] 121)) (.cells #[.int .i64 kd,.int .i64 it] 34);rw [show (w.alloc (.cells #[.int .i64 p.dims,.int .i64 p.time.n,.slice ta p.time.cells.length tc,.int .i64 p.dist.n,.slice da p.dist.cells.length dc,.slice va' p.vs.length vc',.slice ja p.js.length jc,.slice sa p.ss.length sc,.int .i64 k,.slice va m vc] 121)).heap.size = w.heap.size + 1 by simp] at h9;exact h9)
  exact this
 have HCR : Hid (∀ j,j < 3 → (∃ u,W.cell? ⟨w.heap.size + 1 + 1,j,none⟩ = some u) ∧ W.frozen? ⟨w.heap.size + 1 + 1,j,none⟩ = false) := fun j hj => by
  have h9 := heap_alloc_new ((w.alloc (.cells #[.int .i64 p.dims,.int .i64 p.time.n,.slice ta p.time.cells.length tc,.int .i64 p.dist.n,.slice da p.dist.cells.length dc,.slice va' p.vs.length vc',.slice ja p.js.length jc,.slice sa p.ss.length sc,.int .i64 k,.slice va m vc] 121)).alloc (.cells #[.int .i64 kd,.int .i64 it] 34)) (.cells #[.int .i64 0,.int .i64 0,.slice none 0 0] 45)
  rw [← hW] at h9
  rw [show ((w.alloc (.cells #[.int .i64 p.dims,.int .i64 p.time.n,.slice ta p.time.cells.length tc,.int .i64 p.dist.n,.slice da p.dist.cells.length dc,.slice va' p.vs.length vc',.slice ja p.js.length jc,.slice sa p.ss.length sc,.int .i64 k,.slice va m vc] 121)).alloc (.cells #[.int .i64 kd,.int .i64 it] 34)).heap.size = w.heap.size + 1 + 1 by simp] at h9
  exact ⟨⟨_,(cell_of_row _ _ _ _ _ _ h9).trans (Array.getElem?_eq_getElem (by exact hj))⟩,frozen_of_row _ _ _ _ _ h9⟩
 have H21 : Hid (∀ W2 (k i : Int),PrbV W2 ⟨.slice ta p.time.cells.length tc,.slice da p.dist.cells.length dc,.slice va' p.vs.length vc',.slice ja p.js.length jc,.slice sa p.ss.length sc⟩ p → Calls Try.prog 21 #[.agg #[.int .i64 p.dims,.int .i64 p.time.n,.slice ta p.time.cells.length tc,.int .i64 p.dist.n,.slice da p.dist.cells.length dc,.slice va' p.vs.length vc',.slice ja p.js.length jc,.slice sa p.ss.length sc],.agg #[.int .i64 k,.int .i64 i]] W2 fun e w' => ∃ y,e = .returned (.tuple #[.agg #[.int .i64 (stpM p k i).place,.int .i64 (stpM p k i).serv,y],.bool (thereV p k i)]) ∧ w'.ownsRow W2.heap.size 61 2 y (stpM p k i).wins.length (flatW (stpM p k i).wins) ∧ Below W2.heap.size W2 w') := fun W2 k i hp => stopV_any hp k i
 go_enter Try.func111,Try.ntmps111
 go_wp2_with fail
 rw [← hW]
 clear hW
 go_wp2_with (first | (go_at_call 73;refine (isBreak_any _ _ _).mono ?_;rintro e w1 ⟨rfl,k1⟩;have B1 := hide k1;obtain ⟨a0,a1,a2,a3,a4,a5,a6,a7,-,-⟩ := Mn.c10 (fun j => ((bcell k1).1 _ j (by have := HLW.out;omega)).trans (HCA.out j));have v0 : w1.cell? ⟨w.heap.size + 1,0,none⟩ = some (.int .i64 kd) := ((bcell k1).1 _ 0 (by have := HLW.out;omega)).trans (HCV.out 0);have v1 : w1.cell? ⟨w.heap.size + 1,1,none⟩ = some (.int .i64 it) := ((bcell k1).1 _ 1 (by have := HLW.out;omega)).trans (HCV.out 1);clear k1) | (go_at_call 21;refine (H21.out _ _ _ (HPW.out.on (below_on HBW.out B1.out))).mono ?_;rintro e w2 ⟨y,rfl,R2,k2⟩;rw [HS.out] at R2 ⊢;obtain ⟨ya,yc,rfl⟩ := (own_winsR R2 (by have := HWL.out;omega)).shape;have HR2 := hide R2;have B2 := hide (below_on B1.out k2);have S1 := hide B1.out.size;have l2 : w.heap.size + 1 + 1 < w2.heap.size := (by have := HLW.out;have := B1.out.size;have := k2.size;omega);have n2 : ¬ w.heap.size + 1 + 1 = w2.heap.size := (by omega);obtain ⟨z0,e0⟩ := (HCR.out 0 (by decide)).1;have q0 : w2.cell? ⟨w.heap.size + 1 + 1,0,none⟩ = some z0 := ((bcell B2.out).1 _ 0 (by have := HLW.out;omega)).trans e0;have fz0 : w2.frozen? ⟨w.heap.size + 1 + 1,0,none⟩ = false := ((bcell B2.out).2 _ 0 (by have := HLW.out;omega)).trans (HCR.out 0 (by decide)).2;clear e0;obtain ⟨z1,e1⟩ := (HCR.out 1 (by decide)).1;have q1 : w2.cell? ⟨w.heap.size + 1 + 1,1,none⟩ = some z1 := ((bcell B2.out).1 _ 1 (by have := HLW.out;omega)).trans e1;have fz1 : w2.frozen? ⟨w.heap.size + 1 + 1,1,none⟩ = false := ((bcell B2.out).2 _ 1 (by have := HLW.out;omega)).trans (HCR.out 1 (by decide)).2;clear e1;obtain ⟨z2,e2⟩ := (HCR.out 2 (by decide)).1;have q2 : w2.cell? ⟨w.heap.size + 1 + 1,2,none⟩ = some z2 := ((bcell B2.out).1 _ 2 (by have := HLW.out;omega)).trans e2;have fz2 : w2.frozen? ⟨w.heap.size + 1 + 1,2,none⟩ = false := ((bcell B2.out).2 _ 2 (by have := HLW.out;omega)).trans (HCR.out 2 (by decide)).2;clear e2;clear k2 R2) | fail)
 have HB2 : Hid (Below w.heap.size w w2) := below_on HBW.out B2.out
 have HY : Hid (WinsV w2 (.slice ya s.wins.length yc) s.wins ∧ InH w2 (.slice ya s.wins.length yc) ∧ ∀ g,(Value.slice ya s.wins.length yc).ownBlock = some g → w1.heap.size ≤ g) := ⟨own_winsR HR2.out (by have := HWL.out;omega),fun g hg => (HR2.out.lt g hg).2,fun g hg => (HR2.out.lt g hg).1⟩
 go_wp2
 have HL3 : Hid (w.heap.size ≤ w2.heap.size) := HB2.out.size
 have fin : ∀ w9,w2.grownBy w9 (some (w.heap.size + 1 + 1)) → (WinsV w9 (.slice ya s.wins.length yc) s.wins ∧ InH w9 (.slice ya s.wins.length yc)) ∧ Below w.heap.size w w9 := fun w9 hf => ⟨grw_wins hf HY.out.1 HY.out.2.1 (fun g hg => by have h1 := HY.out.2.2 g hg;have h2 := S1.out;have h3 := HLW.out;omega),HB2.out.trans (grw_low hf (by omega) HL3.out)⟩
 refine bodyPost_ret (v := .agg #[.int .i64 s.place,.int .i64 s.serv,.slice ya s.wins.length yc]) ?_ rfl ⟨_,rfl,(fin _ ?_).1.1,(fin _ ?_).1.2,(fun g hg => by have h1 := HY.out.2.2 g hg;have h2 := S1.out;have h3 := HLW.out;omega),(fin _ ?_).2⟩
 ·simp [results,Try.results111,go_sem,q0,q1,q2,l2]
 all_goals (repeat (first | exact grw_refl _ _ | refine grw_set ?_ _ _ | refine grw_alloc ?_ _ | refine grw_drew ?_))
set_option maxRecDepth 100000 in
set_option maxHeartbeats 12800000 in
theorem tstop_brk {w0 w : World} {x : PrbS} {p : Prb} {k m vc j : Nat} {va : Option Addr} (h : PrbV w0 x p) (f : Below w0.heap.size w0 w) (hl : lawM p = true) (hk : k < p.vs.length) (was : Int) (hj : j < (p.vs.getD k vz).brks.length) : Calls Try.prog 111 #[.agg (tourE p x k (.slice va m vc)),.agg #[.int .i64 4,.int .i64 j],.int .i64 was] w fun e w' => ∃ y,e = .returned (.agg #[.int .i64 was,.int .i64 ((p.vs.getD k vz).brks.getD j bz).serv,y]) ∧ WinsV w' y ((p.vs.getD k vz).brks.getD j bz).wins ∧ InH w' y ∧ (∀ g,y.ownBlock = some g → g < w0.heap.size) ∧ Below w.heap.size w w' := by
 obtain ⟨ca,cc,ba,bc,hcar⟩ := h.car hk
 have hv := veh_ok (law_veh hl hk)
 have hbk := hv.brks _ (getD_mem _ bz j hj)
 obtain ⟨bb,boff,y,rfl,_,hbb,cb0,cb1,hy⟩ := brk_cells hcar.brks hj
 obtain ⟨ya,yc,rfl⟩ := hy.shape
 have hyi := wins_in hy hbk.1
 obtain ⟨sv,hsv⟩ : ∃ q,((p.vs.getD k vz).brks.getD j bz).serv = q := ⟨_,rfl⟩
 obtain ⟨n4,hn4⟩ : ∃ q,((p.vs.getD k vz).brks.getD j bz).wins.length = q := ⟨_,rfl⟩
 rw [hsv] at cb1 ⊢
 rw [hn4] at cb0 hy hyi
 have HY : Hid (∀ w9,Below w0.heap.size w0 w9 → WinsV w9 (.slice ya n4 yc) ((p.vs.getD k vz).brks.getD j bz).wins ∧ InH w9 (.slice ya n4 yc)) := fun w9 hf => ⟨hy.on hf,hyi.on hf⟩
 have HYL : Hid (∀ g,(Value.slice ya n4 yc).ownBlock = some g → g < w0.heap.size) := hyi
 have HBK : Hid (∀ w9,Below w.heap.size w w9 → w9.cell? ⟨bb,boff + j * 2,none⟩ = some (.slice ya n4 yc) ∧ w9.cell? ⟨bb,boff + j * 2 + 1,none⟩ = some (.int .i64 sv)) := fun w9 hf => ⟨((bcell (below_on f hf)).1 _ _ hbb).trans cb0,((bcell (below_on f hf)).1 _ _ hbb).trans cb1⟩
 have HCA2 := hide (hcar.on f)
 have hlb : (p.vs.getD k vz).brks.length ≤ 2 := hv.two
 obtain ⟨lb,hlbe⟩ : ∃ q,(p.vs.getD k vz).brks.length = q := ⟨_,rfl⟩
 rw [hlbe] at hlb hj
 have i1 : (0 : Int) ≤ (j : Int) := by omega
 have i2 : (j : Int) < (lb : Int) := by omega
 have i3 : ¬ (lb : Int) ≤ (j : Int) := by omega
 have HLB := hide hlbe
 clear hv hbk cb0 cb1 hy hyi hsv hn4 hcar hlbe hl
 have HP := hide h
 have HF := hide f
 have hF2 := PrbV.on h f
 have HPW := hide hF2
 obtain ⟨ta,tc,da,dc,va',vc',ja,jc,sa,sc,rfl⟩ := h.open
 clear h f hF2
 have HTE : Hid (tourE p ⟨.slice ta p.time.cells.length tc,.slice da p.dist.cells.length dc,.slice va' p.vs.length vc',.slice ja p.js.length jc,.slice sa p.ss.length sc⟩ k (.slice va m vc) = #[.int .i64 p.dims,.int .i64 p.time.n,.slice ta p.time.cells.length tc,.int .i64 p.dist.n,.slice da p.dist.cells.length dc,.slice va' p.vs.length vc',.slice ja p.js.length jc,.slice sa p.ss.length sc,.int .i64 k,.slice va m vc]) := rfl
 rw [HTE.out]
 obtain ⟨W,hW⟩ : ∃ W,W = ((w.alloc (.cells #[.int .i64 p.dims,.int .i64 p.time.n,.slice ta p.time.cells.length tc,.int .i64 p.dist.n,.slice da p.dist.cells.length dc,.slice va' p.vs.length vc',.slice ja p.js.length jc,.slice sa p.ss.length sc,.int .i64 k,.slice va m vc] 121)).alloc (.cells #[.int .i64 4,.int .i64 j] 34)).alloc (.cells #[.int .i64 0,.int .i64 0,.slice none 0 0] 45) := ⟨_,rfl⟩
 have HBW : Hid (Below w.heap.size w W) := by rw [hW];exact (((Below.refl _ _).alloc (Nat.le_refl _) _).alloc (by simp) _).alloc (by simp;omega) _
 have HLW : Hid (w.heap.size + 1 + 1 < W.heap.size) := by show _ < _;rw [hW];simp
 have HCA : Hid (∀ jx,W.cell? ⟨w.heap.size,jx,none⟩ = (#[.int .i64 p.dims,.int .i64 p.time.n,.slice ta p.time.cells.length tc,.int .i64 p.dist.n,.slice da p.dist.cells.length dc,.slice va' p.vs.length vc',.slice ja p.js.length jc,.slice sa p.ss.length sc,.int .i64 k,.slice va m vc] : Array Value)[jx]?) := fun jx => by
  rw [hW,((bcell ((Below.refl _ _).alloc (Nat.le_refl _) _)).1 _ jx (by simp;omega)),((bcell ((Below.refl _ _).alloc (Nat.le_refl _) _)).1 _ jx (by simp))]
  exact cell_of_row _ _ _ _ _ _ (heap_alloc_new w _)
 have HCV : Hid (∀ jx,W.cell? ⟨w.heap.size + 1,jx,none⟩ = (#[.int .i64 4,.int .i64 j] : Array Value)[jx]?) := fun jx => by
  rw [hW,((bcell ((Below.refl _ _).alloc (Nat.le_refl _) _)).1 _ jx (by simp))]
  have := cell_of_row _ (w.heap.size + 1) jx _ _ _ (by have h9 := heap_alloc_new (w.alloc (.cells #[.int .i64 p.dims,.int .i64 p.time.n,.slice ta p.time.cells.length tc,.int .i64 p.dist.n,.slice da p.dist.cells.length dc,.slice va' p.vs.length vc',.slice ja p.js.length jc,.slice sa p.ss.length sc,.int .i64 k,.slice va m vc] 121)) (.cells #[.int .i64 4,.int .i64 j] 34);rw [show (w.alloc (.cells #[.int .i64 p.dims,.int .i64 p.time.n,.slice ta p.time.cells.length tc,.int .i64 p.dist.n,.slice da p.dist.cells.length dc,.slice va' p.vs.length vc',.slice ja p.js.length jc,.slice sa p.ss.length sc,.int .i64 k,.slice va m vc] 121)).heap.size = w.heap.size + 1 by simp] at h9;exact h9)
  exact this
 have HCR : Hid (∀ jx,jx < 3 → (∃ u,W.cell? ⟨w.heap.size + 1 + 1,jx,none⟩ = some u) ∧ W.frozen? ⟨w.heap.size + 1 + 1,jx,none⟩ = false) := fun jx hj => by
  have h9 := heap_alloc_new ((w.alloc (.cells #[.int .i64 p.dims,.int .i64 p.time.n,.slice ta p.time.cells.length tc,.int .i64 p.dist.n,.slice da p.dist.cells.length dc,.slice va' p.vs.length vc',.slice ja p.js.length jc,.slice sa p.ss.length sc,.int .i64 k,.slice va m vc] 121)).alloc (.cells #[.int .i64 4,.int .i64 j] 34)) (.cells #[.int .i64 0,.int .i64 0,.slice none 0 0] 45)
  rw [← hW] at h9
  rw [show ((w.alloc (.cells #[.int .i64 p.dims,.int .i64 p.time.n,.slice ta p.time.cells.length tc,.int .i64 p.dist.n,.slice da p.dist.cells.length dc,.slice va' p.vs.length vc',.slice ja p.js.length jc,.slice sa p.ss.length sc,.int .i64 k,.slice va m vc] 121)).alloc (.cells #[.int .i64 4,.int .i64 j] 34)).heap.size = w.heap.size + 1 + 1 by simp] at h9
  exact ⟨⟨_,(cell_of_row _ _ _ _ _ _ h9).trans (Array.getElem?_eq_getElem (by exact hj))⟩,frozen_of_row _ _ _ _ _ h9⟩
 have H74 : Hid (∀ W2,PrbV W2 ⟨.slice ta p.time.cells.length tc,.slice da p.dist.cells.length dc,.slice va' p.vs.length vc',.slice ja p.js.length jc,.slice sa p.ss.length sc⟩ p → CarV W2 ⟨.slice ta p.time.cells.length tc,.slice da p.dist.cells.length dc,.slice va' p.vs.length vc',.slice ja p.js.length jc,.slice sa p.ss.length sc⟩ p k ca cc (some ⟨bb,boff,none⟩) bc → Calls Try.prog 74 #[.agg #[.int .i64 p.dims,.int .i64 p.time.n,.slice ta p.time.cells.length tc,.int .i64 p.dist.n,.slice da p.dist.cells.length dc,.slice va' p.vs.length vc',.slice ja p.js.length jc,.slice sa p.ss.length sc,.int .i64 k,.slice va m vc]] W2 fun e w' => e = .returned (.agg (vehA (p.vs.getD k vz) (.slice ca (p.vs.getD k vz).cap.length cc) (.slice (some ⟨bb,boff,none⟩) lb bc))) ∧ Below W2.heap.size W2 w') := fun W2 hp hc => by have h9 := car_at (va := va) (m := m) (vc := vc) hp hc;rw [HLB.out] at h9;exact h9
 obtain ⟨V1,hV1⟩ : ∃ V1,p.vs.getD k vz = V1 := ⟨_,rfl⟩
 rw [hV1] at H74
 clear hV1
 have hfd : ∀ X,(Instr.field 86 (.agg (vehA V1 (.slice ca V1.cap.length cc) (.slice (some ⟨bb,boff,none⟩) lb bc))) 9).run Try.prog X = .ok (.slice (some ⟨bb,boff,none⟩) lb bc) X := fun X => by kernel_rfl
 have y4 : ((4 : Int) == 4) = true := rfl
 go_enter Try.func111,Try.ntmps111
 go_wp2_with fail
 rw [← hW]
 clear hW
 go_wp2_with (first | (go_at_call 73;refine (isBreak_any _ _ _).mono ?_;rintro e w1 ⟨rfl,k1⟩;have B1 := hide k1;have v0 : W.cell? ⟨w.heap.size + 1,0,none⟩ = some (.int .i64 4) := HCV.out 0;obtain ⟨a0,a1,a2,a3,a4,a5,a6,a7,a8,a9⟩ := Mn.c10 (fun j => ((bcell k1).1 _ j (by have := HLW.out;omega)).trans (HCA.out j));have v1 : w1.cell? ⟨w.heap.size + 1,1,none⟩ = some (.int .i64 j) := ((bcell k1).1 _ 1 (by have := HLW.out;omega)).trans (HCV.out 1);have b0 : w1.cell? ⟨bb,boff + j * 2,none⟩ = some (.slice ya n4 yc) := (HBK.out _ (below_on HBW.out k1)).1;have b1 : w1.cell? ⟨bb,boff + j * 2 + 1,none⟩ = some (.int .i64 sv) := (HBK.out _ (below_on HBW.out k1)).2;clear k1) | fail)
 have L1 : Hid (W.heap.size ≤ w1.heap.size) := B1.out.size
 have l0 : w.heap.size < w1.heap.size := by have := HLW.out;have := L1.out;omega
 have l1 : w.heap.size + 1 < w1.heap.size := by have := HLW.out;have := L1.out;omega
 have l2 : w.heap.size + 1 + 1 < w1.heap.size := by have := HLW.out;have := L1.out;omega
 have lb1 : bb < w1.heap.size := by have := HLW.out;have := L1.out;have := HF.out.size;omega
 have nw1_0 : ¬ w.heap.size = w1.heap.size := (by omega)
 have rw1_0 : ¬ w1.heap.size = w.heap.size := (by omega)
 have nw1_1 : ¬ w.heap.size + 1 = w1.heap.size := (by omega)
 have rw1_1 : ¬ w1.heap.size = w.heap.size + 1 := (by omega)
 have nw1_2 : ¬ bb = w1.heap.size := (by omega)
 have rw1_2 : ¬ w1.heap.size = bb := (by omega)
 go_region_held3 (fun w' => w'.cell? ⟨w.heap.size,0,none⟩ = some (.int .i64 p.dims) ∧ w'.cell? ⟨w.heap.size,1,none⟩ = some (.int .i64 p.time.n) ∧ w'.cell? ⟨w.heap.size,2,none⟩ = some (.slice ta p.time.cells.length tc) ∧ w'.cell? ⟨w.heap.size,3,none⟩ = some (.int .i64 p.dist.n) ∧ w'.cell? ⟨w.heap.size,4,none⟩ = some (.slice da p.dist.cells.length dc) ∧ w'.cell? ⟨w.heap.size,5,none⟩ = some (.slice va' p.vs.length vc') ∧ w'.cell? ⟨w.heap.size,6,none⟩ = some (.slice ja p.js.length jc) ∧ w'.cell? ⟨w.heap.size,7,none⟩ = some (.slice sa p.ss.length sc) ∧ w'.cell? ⟨w.heap.size,8,none⟩ = some (.int .i64 k) ∧ w'.cell? ⟨w.heap.size,9,none⟩ = some (.slice va m vc) ∧ w'.cell? ⟨w.heap.size + 1,1,none⟩ = some (.int .i64 j) ∧ w'.cell? ⟨bb,boff + j * 2,none⟩ = some (.slice ya n4 yc) ∧ w'.cell? ⟨bb,boff + j * 2 + 1,none⟩ = some (.int .i64 sv)) (go_keep) (first | (go_at_call 74;refine (H74.out _ (HPW.out.on (below_on HBW.out (below_on B1.out (by first | exact (Below.refl _ _).drew | exact (Below.refl _ _).drew.alloc (Nat.le_refl _) _)))) (HCA2.out.on (below_on HBW.out (below_on B1.out (by first | exact (Below.refl _ _).drew | exact (Below.refl _ _).drew.alloc (Nat.le_refl _) _))))).mono ?_;rintro e w2 ⟨rfl,k2⟩;have E2 := hide (show Below w1.heap.size w1 w2 from below_on (by first | exact (Below.refl _ _).drew | exact (Below.refl _ _).drew.alloc (Nat.le_refl _) _) k2);have B2 := hide (below_on B1.out E2.out);obtain ⟨hc2,hf2⟩ := bcell k2;have m0 : w.heap.size < w2.heap.size := (by have := E2.out.size;omega);have m1 : w.heap.size + 1 < w2.heap.size := (by have := E2.out.size;omega);have m2 : w.heap.size + 1 + 1 < w2.heap.size := (by have := E2.out.size;omega);have mb : bb < w2.heap.size := (by have := E2.out.size;omega);have nw2_0 : ¬ w.heap.size = w2.heap.size := (by omega);have rw2_0 : ¬ w2.heap.size = w.heap.size := (by omega);have nw2_1 : ¬ w.heap.size + 1 = w2.heap.size := (by omega);have rw2_1 : ¬ w2.heap.size = w.heap.size + 1 := (by omega);have nw2_2 : ¬ bb = w2.heap.size := (by omega);have rw2_2 : ¬ w2.heap.size = bb := (by omega);obtain ⟨sa0,sa1,sa2,sa3,sa4,sa5,sa6,sa7,sa8,sa9⟩ := Mn.c10 (fun j => ((bcell B2.out).1 _ j (by have := HLW.out;omega)).trans (HCA.out j));have sv1 : w2.cell? ⟨w.heap.size + 1,1,none⟩ = some (.int .i64 j) := ((bcell B2.out).1 _ 1 (by have := HLW.out;omega)).trans (HCV.out 1);have sb0 : w2.cell? ⟨bb,boff + j * 2,none⟩ = some (.slice ya n4 yc) := (HBK.out _ (below_on HBW.out B2.out)).1;have sb1 : w2.cell? ⟨bb,boff + j * 2 + 1,none⟩ = some (.int .i64 sv) := (HBK.out _ (below_on HBW.out B2.out)).2;(try (have xz0 : w2.cell? ⟨w1.heap.size,0,none⟩ = some (.int .i64 0) := (hc2 _ 0 (by simp)).trans (by simp [go_sem]);have xf0 : w2.frozen? ⟨w1.heap.size,0,none⟩ = false := (hf2 _ 0 (by simp)).trans (by simp [go_sem]);have xz1 : w2.cell? ⟨w1.heap.size,1,none⟩ = some (.int .i64 0) := (hc2 _ 1 (by simp)).trans (by simp [go_sem]);have xf1 : w2.frozen? ⟨w1.heap.size,1,none⟩ = false := (hf2 _ 1 (by simp)).trans (by simp [go_sem]);have xz2 : w2.cell? ⟨w1.heap.size,2,none⟩ = some (.slice none 0 0) := (hc2 _ 2 (by simp)).trans (by simp [go_sem]);have xf2 : w2.frozen? ⟨w1.heap.size,2,none⟩ = false := (hf2 _ 2 (by simp)).trans (by simp [go_sem]);have lt12 : w1.heap.size < w2.heap.size := (by have := k2.size;simp at this;omega)));clear k2 hc2 hf2) | (go_at_call 112;refine (restS_any _ _ _ _ _).mono ?_;rintro e w3 ⟨rfl,k3⟩;have E3 := hide (show Below w2.heap.size w2 w3 from below_on (by first | exact Below.refl _ _ | exact (Below.refl _ _).alloc (Nat.le_refl _) _) k3);have B3 := hide (below_on B2.out E3.out);obtain ⟨hc3,hf3⟩ := bcell k3;have o0 : w.heap.size < w3.heap.size := (by have := E3.out.size;omega);have o1 : w.heap.size + 1 < w3.heap.size := (by have := E3.out.size;omega);have o2 : w.heap.size + 1 + 1 < w3.heap.size := (by have := E3.out.size;omega);have ob : bb < w3.heap.size := (by have := E3.out.size;omega);have nw3_0 : ¬ w.heap.size = w3.heap.size := (by omega);have rw3_0 : ¬ w3.heap.size = w.heap.size := (by omega);have nw3_1 : ¬ w.heap.size + 1 = w3.heap.size := (by omega);have rw3_1 : ¬ w3.heap.size = w.heap.size + 1 := (by omega);have nw3_2 : ¬ bb = w3.heap.size := (by omega);have rw3_2 : ¬ w3.heap.size = bb := (by omega);obtain ⟨ta0,ta1,ta2,ta3,ta4,ta5,ta6,ta7,ta8,ta9⟩ := Mn.c10 (fun j => ((bcell B3.out).1 _ j (by have := HLW.out;omega)).trans (HCA.out j));have tv1 : w3.cell? ⟨w.heap.size + 1,1,none⟩ = some (.int .i64 j) := ((bcell B3.out).1 _ 1 (by have := HLW.out;omega)).trans (HCV.out 1);have tb0 : w3.cell? ⟨bb,boff + j * 2,none⟩ = some (.slice ya n4 yc) := (HBK.out _ (below_on HBW.out B3.out)).1;have tb1 : w3.cell? ⟨bb,boff + j * 2 + 1,none⟩ = some (.int .i64 sv) := (HBK.out _ (below_on HBW.out B3.out)).2;(try (have yz0 : w3.cell? ⟨w2.heap.size,0,none⟩ = some (.int .i64 0) := (hc3 _ 0 (by simp)).trans (by simp [go_sem]);have yf0 : w3.frozen? ⟨w2.heap.size,0,none⟩ = false := (hf3 _ 0 (by simp)).trans (by simp [go_sem]);have yz1 : w3.cell? ⟨w2.heap.size,1,none⟩ = some (.int .i64 0) := (hc3 _ 1 (by simp)).trans (by simp [go_sem]);have yf1 : w3.frozen? ⟨w2.heap.size,1,none⟩ = false := (hf3 _ 1 (by simp)).trans (by simp [go_sem]);have yz2 : w3.cell? ⟨w2.heap.size,2,none⟩ = some (.slice none 0 0) := (hc3 _ 2 (by simp)).trans (by simp [go_sem]);have yf2 : w3.frozen? ⟨w2.heap.size,2,none⟩ = false := (hf3 _ 2 (by simp)).trans (by simp [go_sem])));(try (have zz0 : w3.cell? ⟨w1.heap.size,0,none⟩ = some (.int .i64 0) := (hc3 _ 0 lt12).trans xz0;have zf0 : w3.frozen? ⟨w1.heap.size,0,none⟩ = false := (hf3 _ 0 lt12).trans xf0;have zz1 : w3.cell? ⟨w1.heap.size,1,none⟩ = some (.int .i64 0) := (hc3 _ 1 lt12).trans xz1;have zf1 : w3.frozen? ⟨w1.heap.size,1,none⟩ = false := (hf3 _ 1 lt12).trans xf1;have zz2 : w3.cell? ⟨w1.heap.size,2,none⟩ = some (.slice none 0 0) := (hc3 _ 2 lt12).trans xz2;have zf2 : w3.frozen? ⟨w1.heap.size,2,none⟩ = false := (hf3 _ 2 lt12).trans xf2;clear xz0 xz1 xz2 xf0 xf1 xf2));obtain ⟨z0,e0⟩ := (HCR.out 0 (by decide)).1;have q0 : w3.cell? ⟨w.heap.size + 1 + 1,0,none⟩ = some z0 := ((bcell B3.out).1 _ 0 (by have := HLW.out;omega)).trans e0;have fz0 : w3.frozen? ⟨w.heap.size + 1 + 1,0,none⟩ = false := ((bcell B3.out).2 _ 0 (by have := HLW.out;omega)).trans (HCR.out 0 (by decide)).2;clear e0;obtain ⟨z1,e1⟩ := (HCR.out 1 (by decide)).1;have q1 : w3.cell? ⟨w.heap.size + 1 + 1,1,none⟩ = some z1 := ((bcell B3.out).1 _ 1 (by have := HLW.out;omega)).trans e1;have fz1 : w3.frozen? ⟨w.heap.size + 1 + 1,1,none⟩ = false := ((bcell B3.out).2 _ 1 (by have := HLW.out;omega)).trans (HCR.out 1 (by decide)).2;clear e1;obtain ⟨z2,e2⟩ := (HCR.out 2 (by decide)).1;have q2 : w3.cell? ⟨w.heap.size + 1 + 1,2,none⟩ = some z2 := ((bcell B3.out).1 _ 2 (by have := HLW.out;omega)).trans e2;have fz2 : w3.frozen? ⟨w.heap.size + 1 + 1,2,none⟩ = false := ((bcell B3.out).2 _ 2 (by have := HLW.out;omega)).trans (HCR.out 2 (by decide)).2;clear e2;have nn0 : ¬ w.heap.size + 1 + 1 = w1.heap.size := (by omega);have nm0 : ¬ w1.heap.size = w.heap.size + 1 + 1 := (by omega);have nn1 : ¬ w.heap.size + 1 + 1 = w2.heap.size := (by omega);have nm1 : ¬ w2.heap.size = w.heap.size + 1 + 1 := (by omega);have nn2 : ¬ w.heap.size + 1 + 1 = w3.heap.size := (by omega);have nm2 : ¬ w3.heap.size = w.heap.size + 1 + 1 := (by omega);clear k3 hc3 hf3) | fail)
 all_goals
  rename_i hHeld
  clear hHeld a0 a1 a2 a3 a4 a5 a6 a7 a8 a9 sa0 sa1 sa2 sa3 sa4 sa5 sa6 sa7 sa8 sa9 ta0 ta1 ta2 ta3 ta4 ta5 ta6 ta7 ta8 ta9 v1 b0 b1 sv1 sb0 sb1 tv1 tb0 tb1 nw1_0 nw1_1 nw1_2 nw2_0 nw2_1 nw2_2 nw3_0 nw3_1 nw3_2 rw1_0 rw1_1 rw1_2 rw2_0 rw2_1 rw2_2 rw3_0 rw3_1 rw3_2 m0 m1 mb o0 o1 ob l0 l1 lb1 hfd v0
  have HB3 : Hid (Below w.heap.size w w3) := below_on HBW.out B3.out
  clear HCA HCV HCR H74 HTE HP HPW HCA2 HBK E2 E3 B2 B3 L1
  go_wp2_with fail
  have fin : ∀ w9,Below w.heap.size w w9 → WinsV w9 (.slice ya n4 yc) ((p.vs.getD k vz).brks.getD j bz).wins ∧ InH w9 (.slice ya n4 yc) := fun w9 hf => HY.out w9 (below_on HF.out hf)
  refine bodyPost_ret (v := .agg #[.int .i64 was,.int .i64 sv,.slice ya n4 yc]) ?_ rfl ⟨_,rfl,(fin _ ?_).1,(fin _ ?_).2,HYL.out,?_⟩
  ·simp [results,Try.results111,go_sem,q0,q1,q2,o2]
  all_goals (repeat (first | (with_reducible exact HB3.out) | (with_reducible refine Below.setCell ?_ (by simp;omega) _) | (with_reducible refine Below.alloc ?_ (by simp;omega) _) | (with_reducible refine Below.drew ?_)))
theorem tstop_any {w0 w : World} {x : PrbS} {p : Prb} {k m vc : Nat} {va : Option Addr} (h : PrbV w0 x p) (f : Below w0.heap.size w0 w) (hl : lawM p = true) (hk : k < p.vs.length) (kd it was : Int) (hb : kd = 4 → ∃ j : Nat,it = j ∧ j < (p.vs.getD k vz).brks.length) : Calls Try.prog 111 #[.agg (tourE p x k (.slice va m vc)),.agg #[.int .i64 kd,.int .i64 it],.int .i64 was] w fun e w' => ∃ y,e = .returned (.agg #[.int .i64 (stopW p (p.vs.getD k vz) was (kd,it)).place,.int .i64 (stopW p (p.vs.getD k vz) was (kd,it)).serv,y]) ∧ WinsV w' y (stopW p (p.vs.getD k vz) was (kd,it)).wins ∧ InH w' y ∧ (∀ g,y.ownBlock = some g → g < w0.heap.size ∨ w.heap.size ≤ g) ∧ Below w.heap.size w w' := by
 by_cases h4 : kd = 4
 ·obtain ⟨j,rfl,hj⟩ := hb h4
  subst h4
  refine (tstop_brk h f hl hk was hj).mono ?_
  rintro e w' ⟨y,rfl,h1,h2,h3,h4⟩
  exact ⟨y,rfl,h1,h2,fun g hg => .inl (h3 g hg),h4⟩
 ·refine (tstop_task (k := k) h f hl kd it was h4).mono ?_
  have e0 : stopW p (p.vs.getD k vz) was (kd,it) = stpM p kd it := by unfold stopW;rw [if_neg h4]
  rw [e0]
  rintro e w' ⟨y,rfl,h1,h2,h3,h4⟩
  exact ⟨y,rfl,h1,h2,fun g hg => .inr (h3 g hg),h4⟩
end Go.Proofs.Ytgjpkpmikbpcnaa
