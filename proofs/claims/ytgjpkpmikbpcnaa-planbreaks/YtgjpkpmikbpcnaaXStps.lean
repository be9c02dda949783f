/-
  What the call of stops of a tour does.
-/
import Derived.Test.YtgjpkpmikbpcnaaXTStp
import Derived.Test.YtgjpkpmikbpcnaaXMin
namespace Go.Proofs.Ytgjpkpmikbpcnaa
open Go.RowKit
theorem rowS_keep {α : Type} {e z : Nat} {enc : α → Value → List Value} {Sat : World → Value → α → Prop} {w w' : World} {base g n cap g' n' cap' m : Nat} {L : List α} {ys : List Value} {x : α} {y : Value} (hz : ∀ x y,(enc x y).length = z) (h : RowS e z enc Sat w base (.slice (some ⟨g,0,none⟩) n cap) L ys) (h' : RowS e z enc Sat w' base (.slice (some ⟨g',0,none⟩) n' cap') (L ++ [x]) (ys ++ [y])) (hw : some g' = Value.ownBlock (.slice (some ⟨g,0,none⟩) n cap) ∨ (g' = m ∧ w.grownBy w' none)) {k j : Nat} (hk : k < L.length) (hj : j < z) : w'.cell? ⟨g,k * z + j,none⟩ = w.cell? ⟨g,k * z + j,none⟩ := by
 rcases hw with e1 | ⟨_,e1⟩
 ·have e1 : some g' = some g := e1
  injection e1 with e1
  subst e1
  have hx : L[k]? = some L[k] := List.getElem?_eq_getElem hk
  have hy : ys[k]? = some (ys[k]'(by rw [h.len];exact hk)) := List.getElem?_eq_getElem _
  rw [RowS.cells hz h hx hy j hj,RowS.cells hz h' (by rw [List.getElem?_append_left hk];exact hx) (by rw [List.getElem?_append_left (by rw [h.len];exact hk)];exact hy) j hj]
 ·exact World.cell?_of_block (e1.block g (World.ownsRow.lt h.own g rfl).2 (fun h9 => by cases h9))
theorem lt_of_block {w : World} {B : Nat} {o : Obj} (h : w.heap[B]? = some o) : B < w.heap.size := by
 rcases Nat.lt_or_ge B w.heap.size with hlt | hge
 ·exact hlt
 ·rw [Array.getElem?_eq_none hge] at h;cases h
theorem blk_ne {g' b n : Nat} {v : Value} {P : Prop} (h : some g' = v.ownBlock ∨ (g' = n ∧ P)) (hv : ∀ g,v.ownBlock = some g → g ≠ b) (hn : b < n) : g' ≠ b := by
 rcases h with e | ⟨e,_⟩
 ·exact hv g' e.symm
 ·omega
theorem own_shift {w : World} {a b : Int} {B : Nat} (h : w.heap[B]? = some (.cells #[.int .i64 a,.int .i64 b] 61)) : WinsV w (.slice (some ⟨B,0,none⟩) 1 1) [(a,b)] ∧ InH w (.slice (some ⟨B,0,none⟩) 1 1) := by
 have hB : B < w.heap.size := by
  rcases Nat.lt_or_ge B w.heap.size with hlt | hge
  ·exact hlt
  ·rw [Array.getElem?_eq_none hge] at h;cases h
 refine ⟨⟨some ⟨B,0,none⟩,1,rfl,(fun e => by cases e),rfl,by simp,fun k hk => ?_⟩,fun g hg => by rw [← own_blk hg];exact hB⟩
 have hk0 : k = 0 := by simp at hk;omega
 subst hk0
 exact ⟨B,0,rfl,cell_of_row _ _ _ _ _ _ h,cell_of_row _ _ _ _ _ _ h⟩
set_option maxRecDepth 100000 in
set_option maxHeartbeats 12800000 in
theorem stops_any {w : World} {x : PrbS} {p : Prb} {k m vc : Nat} {va : Option Addr} {V : List Vst} (h : PrbV w x p) (hl : lawM p = true) (hk : k < p.vs.length) (hV : VsV w (.slice va m vc) V) (hm : V.length = m) (hm2 : m ≤ 110) (hbr : ∀ u ∈ V,u.1 = 4 → ∃ j : Nat,u.2 = j ∧ j < (p.vs.getD k vz).brks.length) : Calls Try.prog 75 #[.agg (tourE p x k (.slice va m vc))] w fun e w' => ∃ v,e = .returned v ∧ StpsV w' v (stopsM p (p.vs.getD k vz) V) ∧ Below w.heap.size w w' := by
 have HL := hide hl
 have HBR := hide hbr
 clear hl hbr
 obtain ⟨ca,cc,ba,bc,hcar⟩ := h.car hk
 have HCAR := hide hcar
 clear hcar
 have HB0 : Hid (∀ A,Below w.heap.size w (w.alloc A)) := fun A => (Below.refl _ _).alloc (Nat.le_refl _) A
 have HP := hide h
 have HV := hide hV
 have HM := hide hm
 have hmb : m * 16 ≤ 140737488351232 := by obtain ⟨_,_,e,hb,_⟩ := hV;rw [← hm];exact hb
 clear hV hm
 obtain ⟨ta,tc,da,dc,va',vc',ja,jc,sa,sc,rfl⟩ := h.open
 clear h
 have HTE : Hid (tourE p ⟨.slice ta p.time.cells.length tc,.slice da p.dist.cells.length dc,.slice va' p.vs.length vc',.slice ja p.js.length jc,.slice sa p.ss.length sc⟩ k (.slice va m vc) = #[.int .i64 p.dims,.int .i64 p.time.n,.slice ta p.time.cells.length tc,.int .i64 p.dist.n,.slice da p.dist.cells.length dc,.slice va' p.vs.length vc',.slice ja p.js.length jc,.slice sa p.ss.length sc,.int .i64 k,.slice va m vc]) := rfl
 rw [HTE.out]
 obtain ⟨W,hW⟩ : ∃ W,W = w.alloc (.cells #[.int .i64 p.dims,.int .i64 p.time.n,.slice ta p.time.cells.length tc,.int .i64 p.dist.n,.slice da p.dist.cells.length dc,.slice va' p.vs.length vc',.slice ja p.js.length jc,.slice sa p.ss.length sc,.int .i64 k,.slice va m vc] 121) := ⟨_,rfl⟩
 have HBW : Hid (Below w.heap.size w W) := by rw [hW];exact HB0.out _
 have HLW : Hid (w.heap.size < W.heap.size) := by show _ < _;rw [hW];simp
 have HC : Hid (∀ j,W.cell? ⟨w.heap.size,j,none⟩ = (#[.int .i64 p.dims,.int .i64 p.time.n,.slice ta p.time.cells.length tc,.int .i64 p.dist.n,.slice da p.dist.cells.length dc,.slice va' p.vs.length vc',.slice ja p.js.length jc,.slice sa p.ss.length sc,.int .i64 k,.slice va m vc] : Array Value)[j]?) := fun j => by rw [hW];exact cell_of_row _ _ _ _ _ _ (heap_alloc_new w _)
 have H74 : Hid (∀ W2,Below w.heap.size w W2 → Calls Try.prog 74 #[.agg #[.int .i64 p.dims,.int .i64 p.time.n,.slice ta p.time.cells.length tc,.int .i64 p.dist.n,.slice da p.dist.cells.length dc,.slice va' p.vs.length vc',.slice ja p.js.length jc,.slice sa p.ss.length sc,.int .i64 k,.slice va m vc]] W2 fun e w' => e = .returned (.agg (vehA (p.vs.getD k vz) (.slice ca (p.vs.getD k vz).cap.length cc) (.slice ba (p.vs.getD k vz).brks.length bc))) ∧ Below W2.heap.size W2 w') := fun W2 hf => by have h9 := car_at (va := va) (m := m) (vc := vc) (HP.out.on hf) (HCAR.out.on hf);exact h9
 obtain ⟨v1,hv1⟩ : ∃ v1,p.vs.getD k vz = v1 := ⟨_,rfl⟩
 have HV1 := hide hv1
 rw [hv1] at H74
 clear hv1
 have hfd4 : ∀ X,(Instr.field 86 (.agg (vehA v1 (.slice ca v1.cap.length cc) (.slice ba v1.brks.length bc))) 4).run Try.prog X = .ok (.agg #[.int .i64 v1.shift.1,.int .i64 v1.shift.2]) X := fun X => by kernel_rfl
 have hfd0 : ∀ X,(Instr.field 86 (.agg (vehA v1 (.slice ca v1.cap.length cc) (.slice ba v1.brks.length bc))) 0).run Try.prog X = .ok (.int .i64 v1.start) X := fun X => by kernel_rfl
 have hfd1 : ∀ X,(Instr.field 86 (.agg (vehA v1 (.slice ca v1.cap.length cc) (.slice ba v1.brks.length bc))) 1).run Try.prog X = .ok (.int .i64 v1.stop) X := fun X => by kernel_rfl
 have H111 : Hid (∀ W2 (kd it was : Int),Below w.heap.size w W2 → (kd = 4 → ∃ j : Nat,it = j ∧ j < v1.brks.length) → Calls Try.prog 111 #[.agg #[.int .i64 p.dims,.int .i64 p.time.n,.slice ta p.time.cells.length tc,.int .i64 p.dist.n,.slice da p.dist.cells.length dc,.slice va' p.vs.length vc',.slice ja p.js.length jc,.slice sa p.ss.length sc,.int .i64 k,.slice va m vc],.agg #[.int .i64 kd,.int .i64 it],.int .i64 was] W2 fun e w' => ∃ y,e = .returned (.agg #[.int .i64 (stopW p v1 was (kd,it)).place,.int .i64 (stopW p v1 was (kd,it)).serv,y]) ∧ WinsV w' y (stopW p v1 was (kd,it)).wins ∧ InH w' y ∧ (∀ g,y.ownBlock = some g → g < w.heap.size ∨ W2.heap.size ≤ g) ∧ Below W2.heap.size W2 w') := fun W2 kd it was hf hb => by have h9 := tstop_any (va := va) (m := m) (vc := vc) HP.out hf HL.out hk kd it was (by rw [HV1.out];exact hb);rw [HV1.out] at h9;exact h9
 rw [HV1.out] at HBR
 rw [HV1.out]
 have hw2 : IntKind.i64.wrap ((m : Int) + 2) = (m : Int) + 2 := by rw [IntKind.wrap_i64];omega
 clear HCAR
 go_enter Try.func75,Try.ntmps75
 go_wp2_with fail
 rw [← hW]
 clear hW
 obtain ⟨b0,b1,b2,b3,b4,b5,b6,b7,b8,b9⟩ := Mn.c10 (fun j => ((bcell (Below.refl _ _)).1 _ j HLW.out).trans (HC.out j))
 go_wp2_with (first | (at_builtin;refine wpList_app_row (e := 45) (z := 3) (enc := stpE) (Sat := fun w y s => WinsV w y s.wins) (fun _ _ => rfl) (by decide) loc_wins info45 rfl Try.underlying132 (w := w4.alloc (.cells #[.int .i64 v1.start,.int .i64 0,.slice (some ⟨w1.heap.size,0,none⟩) 1 1] 45)) (B := w4.heap.size) (base := w.heap.size + 1) (L := []) (ys := []) (x := endS v1 v1.start) (y := .slice (some ⟨w1.heap.size,0,none⟩) 1 1) (.tmp 16) (.tmp 22) rfl rfl rfl rfl (new_block w4 _) (RowS.alloc HR4.out loc_wins _) rfl (by omega) (by omega) HSZ4.out rfl (by intro u hu;simp [stpE,endS] at hu;rcases hu with rfl | rfl | rfl <;> rfl) (HSH4.out.1.on ((Below.refl _ _).alloc (Nat.le_refl _) _)) (HSH4.out.2.on ((Below.refl _ _).alloc (Nat.le_refl _) _)) HAP4.out ?_;intro g5 cp5 w5 r5 r6 r7;have HR5 := hide r5;have G5 := hide r6;have HN5 : Hid (g5 ≠ w1.heap.size) := blk_ne r7 (fun g hg => by have := own_blk hg;omega) (by have := HL4.out;simp;omega);have HS5 : Hid (w5.heap[w1.heap.size]? = some (.cells #[.int .i64 v1.shift.1,.int .i64 v1.shift.2] 61)) := (r6.block _ (by have := HL4.out;simp;omega) (fun e => by have e : some w1.heap.size = some (w1.heap.size + 1) := e;injection e with e;omega)).trans ((Below.heap_alloc w4 _ _ (by have := HL4.out;omega)).trans HS4.out);have E5 : Hid (Below (w.heap.size + 1) W w5) := ((E4.out.mono HLW.out).alloc (Nat.le_trans (Nat.succ_le_of_lt HLw1.out) (by have := HL4.out;omega)) _).grown r6 HSZ4.out (fun q hq => by have e : some (w1.heap.size + 1) = some q := hq;injection e with e;have := HLw1.out;omega);have e9 : w5.cell? ⟨w.heap.size,9,none⟩ = some (.slice va m vc) := (E5.out.cell (p := ⟨w.heap.size,9,none⟩) (Nat.lt_succ_self _)).trans (HC.out 9);clear r5 r6 r7) | (go_at_call 74;clear E1;refine (H74.out _ (below_on HBW.out E3.out)).mono ?_;rintro e w4 ⟨rfl,k4⟩;have HR4 := hide (RowS.on HR3.out loc_wins k4);have E4 := hide (below_on E3.out k4);have HS4 := hide ((k4.block _ HL3.out).trans HS3.out);have HSH4 : Hid (WinsV w4 (.slice (some ⟨w1.heap.size,0,none⟩) 1 1) [(v1.shift.1,v1.shift.2)] ∧ InH w4 (.slice (some ⟨w1.heap.size,0,none⟩) 1 1)) := own_shift HS4.out;have HL4 : Hid (w1.heap.size + 1 < w4.heap.size) := Nat.lt_of_lt_of_le HL3b.out k4.size;have HSZ4 : Hid (w.heap.size + 1 ≤ (w4.alloc (.cells #[.int .i64 v1.start,.int .i64 0,.slice (some ⟨w1.heap.size,0,none⟩) 1 1] 45)).heap.size) := (by show _ ≤ _;have := HL4.out;have := HLw1.out;simp;omega);have HAP4 : Hid (Apt (.slice (some ⟨w1.heap.size + 1,0,none⟩) 0 (m + 2)) (.slice (some ⟨w1.heap.size,0,none⟩) 1 1)) := (fun g hg hg' => by have := own_blk hg;have := own_blk hg';omega);clear k4 HR3 HS3) | (go_at_call 74;refine (H74.out _ HBW.out).mono ?_;rintro e w1 ⟨rfl,k1⟩;have E1 := hide k1;obtain ⟨c0,c1,c2,c3,c4,c5,c6,c7,c8,c9⟩ := Mn.c10 (fun j => ((bcell k1).1 _ j HLW.out).trans (HC.out j));have nw1 : ¬ w.heap.size = w1.heap.size := (by have := HLW.out;have := k1.size;omega);have lw1 : w.heap.size < w1.heap.size := (by have := HLW.out;have := k1.size;omega);have HLw1 := hide lw1;clear k1) | (at_make;refine make_row info45 Try.underlying132 (.const (.int .i64 0)) (.tmp 14) rfl rfl (n := m + 2) rfl rfl (by omega) (by omega) (by omega) ?_;intro w3 k3a k3b k3c;have hsz : (w1.alloc (.cells #[.int .i64 v1.shift.1,.int .i64 v1.shift.2] 61)).heap.size = w1.heap.size + 1 := (by simp);rw [hsz] at k3a k3c ⊢;have HL3b := hide k3c;have HL3 : Hid (w1.heap.size < w3.heap.size) := Nat.lt_of_succ_lt k3c;have HR3 : Hid (RowS 45 3 stpE (fun w y s => WinsV w y s.wins) w3 (w.heap.size + 1) (.slice (some ⟨w1.heap.size + 1,0,none⟩) 0 (m + 2)) [] []) := RowS.nil (own_mono k3a (by omega));have E3 := hide (below_on E1.out (below_on ((Below.refl _ _).alloc (Nat.le_refl _) _) k3b));have HS3 : Hid (w3.heap[w1.heap.size]? = some (.cells #[.int .i64 v1.shift.1,.int .i64 v1.shift.2] 61)) := (k3b.block _ (by simp)).trans (new_block _ _);obtain ⟨d0,d1,d2,d3,d4,d5,d6,d7,d8,d9⟩ := Mn.c10 (fun j => ((bcell E3.out).1 _ j HLW.out).trans (HC.out j));clear k3a k3b k3c hsz) | fail)
 clear HSH4 HAP4 HR4 HSZ4 HL3 HL3b HS4 E4 E3 G5 hfd4 hfd0
 clear c0 c1 c2 c3 c4 c5 c6 c7 c8 c9 d0 d1 d2 d3 d4 d5 d6 d7 d8 d9 b0 b1 b2 b3 b4 b5 b6 b7 b8 b9 e9 nw1 lw1
 go_loopw [27,4] (fun vi v4 wr => ∃ (q n1 ga gc : Nat) (ys : List Value),vi = .int .i64 q ∧ v4 = .slice (some ⟨ga,0,none⟩) n1 gc ∧ q ≤ m ∧ Hid (n1 = q + 1) ∧ Hid (RowS 45 3 stpE (fun w y s => WinsV w y s.wins) wr (w.heap.size + 1) (.slice (some ⟨ga,0,none⟩) n1 gc) (stopsP p v1 (V.take q)) ys) ∧ Hid (Below (w.heap.size + 1) W wr) ∧ Hid (wr.heap[w1.heap.size]? = some (.cells #[.int .i64 v1.shift.1,.int .i64 v1.shift.2] 61)) ∧ Hid (ga ≠ w1.heap.size)) (fun vi _ _ => m - (intOf vi).toNat)
 case atStart => exact ⟨0,1,g5,cp5,[.slice (some ⟨w1.heap.size,0,none⟩) 1 1],rfl,rfl,Nat.zero_le _,rfl,HR5.out,E5.out,HS5.out,HN5.out⟩
 case round =>
  clear HR5 E5 HS5 HN5 HL4
  obtain ⟨q,n1,ga,gc,ys,rfl,rfl,hq,HN1,HR,HB,HS,HN⟩ := hrel
  have hn1 : n1 ≤ 111 := by have := HN1.out;omega
  have HBw : Hid (Below w.heap.size w wr) := HBW.out.trans (HB.out.mono (Nat.le_succ _))
  have HSZ : Hid (w.heap.size < wr.heap.size) := Nat.lt_of_lt_of_le HLW.out HB.out.size
  by_cases hqm : q < m
  ·have i1 : (q : Int) < (m : Int) := by omega
   have i2 : (0 : Int) ≤ (q : Int) := by omega
   have i3 : ¬ (m : Int) ≤ (q : Int) := by omega
   have i4 : (q : Int) < (n1 : Int) := by have := HN1.out;omega
   have i5 : ¬ (n1 : Int) ≤ (q : Int) := by have := HN1.out;omega
   obtain ⟨⟨kd,it⟩,hu⟩ : ∃ u,V[q]? = some u := ⟨_,List.getElem?_eq_getElem (by rw [HM.out];exact hqm)⟩
   have HBK : Hid (kd = 4 → ∃ j : Nat,it = j ∧ j < v1.brks.length) := HBR.out (kd,it) (List.mem_of_getElem? hu)
   obtain ⟨b,off,rfl,hb,c1,c2,_⟩ := vs_cells HV.out hu
   simp only at c1 c2
   have d1 : wr.cell? ⟨b,off + q * 2,none⟩ = some (.int .i64 kd) := ((bcell HBw.out).1 _ _ hb).trans c1
   have d2 : wr.cell? ⟨b,off + q * 2 + 1,none⟩ = some (.int .i64 it) := ((bcell HBw.out).1 _ _ hb).trans c2
   have hlen : (stopsP p v1 (V.take q)).length = n1 := by rw [stopsP_len,List.length_take,HM.out,Nat.min_eq_left hq];exact HN1.out.symm
   obtain ⟨sp,hsp⟩ : ∃ sp,(stopsP p v1 (V.take q)).getD q sz = sp := ⟨_,rfl⟩
   have hx : (stopsP p v1 (V.take q))[q]? = some sp := by rw [← hsp,List.getD_eq_getElem?_getD,List.getElem?_eq_getElem (by have := HN1.out;omega)];rfl
   obtain ⟨pl,hpl⟩ : ∃ pl,sp.place = pl := ⟨_,rfl⟩
   obtain ⟨s,hs⟩ : ∃ s,stopW p v1 pl (kd,it) = s := ⟨_,rfl⟩
   have HAPP : Hid (stopsP p v1 (V.take (q + 1)) = stopsP p v1 (V.take q) ++ [s]) := by show _ = _;rw [stopsP_app hu,hsp,hpl,hs]
   obtain ⟨yq,_,_,hyq,-,-,-⟩ := RowS.some HR.out hx
   have rpl : wr.cell? ⟨ga,q * 3,none⟩ = some (.int .i64 pl) := by have h9 := RowS.cells (z := 3) (enc := stpE) (fun _ _ => rfl) HR.out hx hyq 0 (by decide);rw [Nat.add_zero] at h9;rw [h9,← hpl];rfl
   have HST := hide hs
   have HLEN := hide hlen
   have H11 : Hid (∀ W2,Below w.heap.size w W2 → Calls Try.prog 111 #[.agg #[.int .i64 p.dims,.int .i64 p.time.n,.slice ta p.time.cells.length tc,.int .i64 p.dist.n,.slice da p.dist.cells.length dc,.slice va' p.vs.length vc',.slice ja p.js.length jc,.slice sa p.ss.length sc,.int .i64 k,.slice (some ⟨b,off,none⟩) m vc],.agg #[.int .i64 kd,.int .i64 it],.int .i64 pl] W2 fun e w' => ∃ y,e = .returned (.agg #[.int .i64 s.place,.int .i64 s.serv,y]) ∧ WinsV w' y s.wins ∧ InH w' y ∧ (∀ g,y.ownBlock = some g → g < w.heap.size ∨ W2.heap.size ≤ g) ∧ Below W2.heap.size W2 w') := fun W2 hf => by have h9 := H111.out W2 kd it pl hf HBK.out;rw [HST.out] at h9;exact h9
   have lg : ga < wr.heap.size := (World.ownsRow.lt HR.out.own ga rfl).2
   have HGB : Hid (w.heap.size + 1 ≤ ga) := (World.ownsRow.lt HR.out.own ga rfl).1
   have lb : w.heap.size < wr.heap.size := HSZ.out
   clear c1 c2 hu hb hlen hsp hx hpl hs hyq
   go_wp2_with fail
   obtain ⟨X,hX⟩ : ∃ X,X = wr.alloc (.cells #[.int .i64 kd,.int .i64 it] 34) := ⟨_,rfl⟩
   rw [← hX]
   have HX : Hid (Below wr.heap.size wr X) := by rw [hX];exact (Below.refl _ _).alloc (Nat.le_refl _) _
   have lXr : wr.heap.size < X.heap.size := by rw [hX];simp
   have lX0 : w.heap.size < X.heap.size := by omega
   have lXg : ga < X.heap.size := by omega
   have xv0 : X.cell? ⟨wr.heap.size,0,none⟩ = some (.int .i64 kd) := by rw [hX];exact cell_of_row _ _ _ _ _ _ (heap_alloc_new wr _)
   have xv1 : X.cell? ⟨wr.heap.size,1,none⟩ = some (.int .i64 it) := by rw [hX];exact cell_of_row _ _ _ _ _ _ (heap_alloc_new wr _)
   have xpl : X.cell? ⟨ga,q * 3,none⟩ = some (.int .i64 pl) := ((bcell HX.out).1 _ _ lg).trans rpl
   have xa0 : X.cell? ⟨w.heap.size,0,none⟩ = some (.int .i64 p.dims) := ((bcell HX.out).1 _ 0 lb).trans ((HB.out.cell (p := ⟨w.heap.size,0,none⟩) (Nat.lt_succ_self _)).trans (HC.out 0))
   have xa1 : X.cell? ⟨w.heap.size,1,none⟩ = some (.int .i64 p.time.n) := ((bcell HX.out).1 _ 1 lb).trans ((HB.out.cell (p := ⟨w.heap.size,1,none⟩) (Nat.lt_succ_self _)).trans (HC.out 1))
   have xa2 : X.cell? ⟨w.heap.size,2,none⟩ = some (.slice ta p.time.cells.length tc) := ((bcell HX.out).1 _ 2 lb).trans ((HB.out.cell (p := ⟨w.heap.size,2,none⟩) (Nat.lt_succ_self _)).trans (HC.out 2))
   have xa3 : X.cell? ⟨w.heap.size,3,none⟩ = some (.int .i64 p.dist.n) := ((bcell HX.out).1 _ 3 lb).trans ((HB.out.cell (p := ⟨w.heap.size,3,none⟩) (Nat.lt_succ_self _)).trans (HC.out 3))
   have xa4 : X.cell? ⟨w.heap.size,4,none⟩ = some (.slice da p.dist.cells.length dc) := ((bcell HX.out).1 _ 4 lb).trans ((HB.out.cell (p := ⟨w.heap.size,4,none⟩) (Nat.lt_succ_self _)).trans (HC.out 4))
   have xa5 : X.cell? ⟨w.heap.size,5,none⟩ = some (.slice va' p.vs.length vc') := ((bcell HX.out).1 _ 5 lb).trans ((HB.out.cell (p := ⟨w.heap.size,5,none⟩) (Nat.lt_succ_self _)).trans (HC.out 5))
   have xa6 : X.cell? ⟨w.heap.size,6,none⟩ = some (.slice ja p.js.length jc) := ((bcell HX.out).1 _ 6 lb).trans ((HB.out.cell (p := ⟨w.heap.size,6,none⟩) (Nat.lt_succ_self _)).trans (HC.out 6))
   have xa7 : X.cell? ⟨w.heap.size,7,none⟩ = some (.slice sa p.ss.length sc) := ((bcell HX.out).1 _ 7 lb).trans ((HB.out.cell (p := ⟨w.heap.size,7,none⟩) (Nat.lt_succ_self _)).trans (HC.out 7))
   have xa8 : X.cell? ⟨w.heap.size,8,none⟩ = some (.int .i64 k) := ((bcell HX.out).1 _ 8 lb).trans ((HB.out.cell (p := ⟨w.heap.size,8,none⟩) (Nat.lt_succ_self _)).trans (HC.out 8))
   have xa9 : X.cell? ⟨w.heap.size,9,none⟩ = some (.slice (some ⟨b,off,none⟩) m vc) := ((bcell HX.out).1 _ 9 lb).trans ((HB.out.cell (p := ⟨w.heap.size,9,none⟩) (Nat.lt_succ_self _)).trans (HC.out 9))
   have HRX := hide (RowS.on HR.out loc_wins HX.out)
   have HBX : Hid (Below w.heap.size w X) := below_on HBw.out HX.out
   have nrw : ¬ w.heap.size = wr.heap.size := by omega
   have ngr : ¬ ga = wr.heap.size := by omega
   clear hX rpl d1 d2
   go_region_held3 (fun w' => w'.cell? ⟨w.heap.size,0,none⟩ = some (.int .i64 p.dims) ∧ w'.cell? ⟨w.heap.size,1,none⟩ = some (.int .i64 p.time.n) ∧ w'.cell? ⟨w.heap.size,2,none⟩ = some (.slice ta p.time.cells.length tc) ∧ w'.cell? ⟨w.heap.size,3,none⟩ = some (.int .i64 p.dist.n) ∧ w'.cell? ⟨w.heap.size,4,none⟩ = some (.slice da p.dist.cells.length dc) ∧ w'.cell? ⟨w.heap.size,5,none⟩ = some (.slice va' p.vs.length vc') ∧ w'.cell? ⟨w.heap.size,6,none⟩ = some (.slice ja p.js.length jc) ∧ w'.cell? ⟨w.heap.size,7,none⟩ = some (.slice sa p.ss.length sc) ∧ w'.cell? ⟨w.heap.size,8,none⟩ = some (.int .i64 k) ∧ w'.cell? ⟨w.heap.size,9,none⟩ = some (.slice (some ⟨b,off,none⟩) m vc) ∧ w'.cell? ⟨wr.heap.size,0,none⟩ = some (.int .i64 kd) ∧ w'.cell? ⟨wr.heap.size,1,none⟩ = some (.int .i64 it) ∧ w'.cell? ⟨ga,q * 3,none⟩ = some (.int .i64 pl)) (go_keep) (first | (go_at_call 111;refine (H11.out _ (below_on HBX.out (Below.refl _ _).drew)).mono ?_;rintro e w2 ⟨y,rfl,y1,y2,y3,kk⟩;obtain ⟨ya,yc,rfl⟩ := y1.shape;have E2 := hide (below_on ((Below.refl _ _).drew) kk);have HY := hide y1;have HYI := hide y2;have HYB : Hid (Apt (.slice (some ⟨ga,0,none⟩) n1 gc) (.slice ya s.wins.length yc)) := (fun g hg hg' => by have e1 := own_blk hg;have e2 := HGB.out;exact (y3 g hg').elim (fun h9 => by omega) (fun h9 => by have h9 : X.heap.size ≤ g := h9;omega));have HR2 := hide (RowS.on HRX.out loc_wins E2.out);have l2 : w.heap.size < w2.heap.size := (by have := E2.out.size;omega);have l2r : wr.heap.size < w2.heap.size := (by have := E2.out.size;omega);have l2g : ga < w2.heap.size := (by have := E2.out.size;omega);have sa0 : w2.cell? ⟨w.heap.size,0,none⟩ = some (.int .i64 p.dims) := ((bcell E2.out).1 _ 0 lX0).trans xa0;have sa1 : w2.cell? ⟨w.heap.size,1,none⟩ = some (.int .i64 p.time.n) := ((bcell E2.out).1 _ 1 lX0).trans xa1;have sa2 : w2.cell? ⟨w.heap.size,2,none⟩ = some (.slice ta p.time.cells.length tc) := ((bcell E2.out).1 _ 2 lX0).trans xa2;have sa3 : w2.cell? ⟨w.heap.size,3,none⟩ = some (.int .i64 p.dist.n) := ((bcell E2.out).1 _ 3 lX0).trans xa3;have sa4 : w2.cell? ⟨w.heap.size,4,none⟩ = some (.slice da p.dist.cells.length dc) := ((bcell E2.out).1 _ 4 lX0).trans xa4;have sa5 : w2.cell? ⟨w.heap.size,5,none⟩ = some (.slice va' p.vs.length vc') := ((bcell E2.out).1 _ 5 lX0).trans xa5;have sa6 : w2.cell? ⟨w.heap.size,6,none⟩ = some (.slice ja p.js.length jc) := ((bcell E2.out).1 _ 6 lX0).trans xa6;have sa7 : w2.cell? ⟨w.heap.size,7,none⟩ = some (.slice sa p.ss.length sc) := ((bcell E2.out).1 _ 7 lX0).trans xa7;have sa8 : w2.cell? ⟨w.heap.size,8,none⟩ = some (.int .i64 k) := ((bcell E2.out).1 _ 8 lX0).trans xa8;have sa9 : w2.cell? ⟨w.heap.size,9,none⟩ = some (.slice (some ⟨b,off,none⟩) m vc) := ((bcell E2.out).1 _ 9 lX0).trans xa9;have sv0 : w2.cell? ⟨wr.heap.size,0,none⟩ = some (.int .i64 kd) := ((bcell E2.out).1 _ 0 lXr).trans xv0;have sv1 : w2.cell? ⟨wr.heap.size,1,none⟩ = some (.int .i64 it) := ((bcell E2.out).1 _ 1 lXr).trans xv1;have spl : w2.cell? ⟨ga,q * 3,none⟩ = some (.int .i64 pl) := ((bcell E2.out).1 _ _ lXg).trans xpl;clear y1 y2 y3 kk) | (refine step_app_row (e := 45) (z := 3) (enc := stpE) (Sat := fun w y s => WinsV w y s.wins) (fun _ _ => rfl) (by decide) loc_wins info45 rfl Try.underlying132 (w := w2.alloc (.cells #[.int .i64 s.place,.int .i64 s.serv,.slice ya s.wins.length yc] 45)) (B := w2.heap.size) (base := w.heap.size + 1) (L := stopsP p v1 (V.take q)) (ys := ys) (x := s) (y := .slice ya s.wins.length yc) (.tmp 32) (.tmp 41) rfl rfl rfl rfl (new_block w2 _) (RowS.alloc HR2.out loc_wins _) HLEN.out (by omega) (by omega) (by simp;omega) rfl (by intro u hu;simp [stpE] at hu;rcases hu with rfl | rfl | rfl <;> rfl) (HY.out.on ((Below.refl _ _).alloc (Nat.le_refl _) _)) (HYI.out.on ((Below.refl _ _).alloc (Nat.le_refl _) _)) HYB.out ?_;intro g3 cp3 w3 r1 r2 r3;have hg : ∀ b o,b < w2.heap.size → b ≠ ga → w3.cell? ⟨b,o,none⟩ = w2.cell? ⟨b,o,none⟩ := (fun b o hb hn => (World.cell?_of_block (a := ⟨b,o,none⟩) (r2.block b (by simp;omega) (fun e => hn (by injection e)))).trans ((bcell ((Below.refl w2.heap.size w2).alloc (Nat.le_refl _) _)).1 b o hb));have ta0 : w3.cell? ⟨w.heap.size,0,none⟩ = some (.int .i64 p.dims) := (hg _ 0 l2 (by have := HGB.out;omega)).trans sa0;have ta1 : w3.cell? ⟨w.heap.size,1,none⟩ = some (.int .i64 p.time.n) := (hg _ 1 l2 (by have := HGB.out;omega)).trans sa1;have ta2 : w3.cell? ⟨w.heap.size,2,none⟩ = some (.slice ta p.time.cells.length tc) := (hg _ 2 l2 (by have := HGB.out;omega)).trans sa2;have ta3 : w3.cell? ⟨w.heap.size,3,none⟩ = some (.int .i64 p.dist.n) := (hg _ 3 l2 (by have := HGB.out;omega)).trans sa3;have ta4 : w3.cell? ⟨w.heap.size,4,none⟩ = some (.slice da p.dist.cells.length dc) := (hg _ 4 l2 (by have := HGB.out;omega)).trans sa4;have ta5 : w3.cell? ⟨w.heap.size,5,none⟩ = some (.slice va' p.vs.length vc') := (hg _ 5 l2 (by have := HGB.out;omega)).trans sa5;have ta6 : w3.cell? ⟨w.heap.size,6,none⟩ = some (.slice ja p.js.length jc) := (hg _ 6 l2 (by have := HGB.out;omega)).trans sa6;have ta7 : w3.cell? ⟨w.heap.size,7,none⟩ = some (.slice sa p.ss.length sc) := (hg _ 7 l2 (by have := HGB.out;omega)).trans sa7;have ta8 : w3.cell? ⟨w.heap.size,8,none⟩ = some (.int .i64 k) := (hg _ 8 l2 (by have := HGB.out;omega)).trans sa8;have ta9 : w3.cell? ⟨w.heap.size,9,none⟩ = some (.slice (some ⟨b,off,none⟩) m vc) := (hg _ 9 l2 (by have := HGB.out;omega)).trans sa9;have tv0 : w3.cell? ⟨wr.heap.size,0,none⟩ = some (.int .i64 kd) := (hg _ 0 l2r (by omega)).trans sv0;have tv1 : w3.cell? ⟨wr.heap.size,1,none⟩ = some (.int .i64 it) := (hg _ 1 l2r (by omega)).trans sv1;have tpl : w3.cell? ⟨ga,q * 3,none⟩ = some (.int .i64 pl) := (rowS_keep (z := 3) (enc := stpE) (fun _ _ => rfl) (RowS.alloc HR2.out loc_wins _) r1 r3 (k := q) (j := 0) (by rw [HLEN.out];have := HN1.out;omega) (by decide)).trans (((bcell ((Below.refl w2.heap.size w2).alloc (Nat.le_refl _) _)).1 ga _ l2g).trans spl);have HR3 := hide r1;have HB3 : Hid (Below (w.heap.size + 1) W w3) := ((HB.out.trans ((HX.out.mono HSZ.out).trans (E2.out.mono (by omega)))).alloc (by omega) _).grown r2 (by simp;omega) (fun q hq => by have e : some ga = some q := hq;injection e with e;have := HGB.out;omega);have HS3 : Hid (w3.heap[w1.heap.size]? = some (.cells #[.int .i64 v1.shift.1,.int .i64 v1.shift.2] 61)) := (r2.block _ (by have := lt_of_block HS.out;simp;omega) (fun e => HN.out (by injection e with e;exact e.symm))).trans ((Below.heap_alloc w2 _ _ (by have := lt_of_block HS.out;omega)).trans ((E2.out.block _ (by have := lt_of_block HS.out;omega)).trans ((HX.out.block _ (lt_of_block HS.out)).trans HS.out)));have HN3 : Hid (g3 ≠ w1.heap.size) := blk_ne r3 (fun g hg => by rw [← own_blk hg];exact HN.out) (by have := lt_of_block HS.out;simp;omega);clear r1 r2 r3 hg) | fail)
   rename_i hHeld
   clear hHeld
   go_wp2_with fail
   go_roundw
   case rel => exact ⟨q + 1,n1 + 1,g3,cp3,ys ++ [.slice ya s.wins.length yc],by go_num,rfl,by omega,by have := HN1.out;show _ = _;omega,by rw [HAPP.out];exact HR3.out,HB3.out,HS3.out,HN3.out⟩
   case measure => simp [intOf];omega
  ·have i1 : ¬ (q : Int) < (m : Int) := by omega
   have hqe : q = m := by omega
   subst hqe
   have HPS : Hid (stopsP p v1 (V.take q) = stopsP p v1 V) := by show _ = _;rw [List.take_of_length_le (by rw [HM.out];omega)]
   have HLEN : Hid ((stopsP p v1 V).length = n1) := by show _ = _;rw [stopsP_len,HM.out];exact HN1.out.symm
   have HRV : Hid (RowS 45 3 stpE (fun w y s => WinsV w y s.wins) wr (w.heap.size + 1) (.slice (some ⟨ga,0,none⟩) n1 gc) (stopsP p v1 V) ys) := by have h9 := HR.out;rw [HPS.out] at h9;exact h9
   have HGB : Hid (w.heap.size + 1 ≤ ga) := (World.ownsRow.lt HR.out.own ga rfl).1
   clear HR HPS
   have r0 : wr.cell? ⟨w.heap.size,0,none⟩ = some (.int .i64 p.dims) := (HB.out.cell (p := ⟨w.heap.size,0,none⟩) (Nat.lt_succ_self _)).trans (HC.out 0)
   have r1 : wr.cell? ⟨w.heap.size,1,none⟩ = some (.int .i64 p.time.n) := (HB.out.cell (p := ⟨w.heap.size,1,none⟩) (Nat.lt_succ_self _)).trans (HC.out 1)
   have r2 : wr.cell? ⟨w.heap.size,2,none⟩ = some (.slice ta p.time.cells.length tc) := (HB.out.cell (p := ⟨w.heap.size,2,none⟩) (Nat.lt_succ_self _)).trans (HC.out 2)
   have r3 : wr.cell? ⟨w.heap.size,3,none⟩ = some (.int .i64 p.dist.n) := (HB.out.cell (p := ⟨w.heap.size,3,none⟩) (Nat.lt_succ_self _)).trans (HC.out 3)
   have r4 : wr.cell? ⟨w.heap.size,4,none⟩ = some (.slice da p.dist.cells.length dc) := (HB.out.cell (p := ⟨w.heap.size,4,none⟩) (Nat.lt_succ_self _)).trans (HC.out 4)
   have r5 : wr.cell? ⟨w.heap.size,5,none⟩ = some (.slice va' p.vs.length vc') := (HB.out.cell (p := ⟨w.heap.size,5,none⟩) (Nat.lt_succ_self _)).trans (HC.out 5)
   have r6 : wr.cell? ⟨w.heap.size,6,none⟩ = some (.slice ja p.js.length jc) := (HB.out.cell (p := ⟨w.heap.size,6,none⟩) (Nat.lt_succ_self _)).trans (HC.out 6)
   have r7 : wr.cell? ⟨w.heap.size,7,none⟩ = some (.slice sa p.ss.length sc) := (HB.out.cell (p := ⟨w.heap.size,7,none⟩) (Nat.lt_succ_self _)).trans (HC.out 7)
   have r8 : wr.cell? ⟨w.heap.size,8,none⟩ = some (.int .i64 k) := (HB.out.cell (p := ⟨w.heap.size,8,none⟩) (Nat.lt_succ_self _)).trans (HC.out 8)
   have r9 : wr.cell? ⟨w.heap.size,9,none⟩ = some (.slice va q vc) := (HB.out.cell (p := ⟨w.heap.size,9,none⟩) (Nat.lt_succ_self _)).trans (HC.out 9)
   go_wp2_with (first | (at_builtin;refine wpList_app_row (e := 45) (z := 3) (enc := stpE) (Sat := fun w y s => WinsV w y s.wins) (fun _ _ => rfl) (by decide) loc_wins info45 rfl Try.underlying132 (w := w4.alloc (.cells #[.int .i64 v1.stop,.int .i64 0,.slice (some ⟨w1.heap.size,0,none⟩) 1 1] 45)) (B := w4.heap.size) (base := w.heap.size + 1) (L := stopsP p v1 V) (ys := ys) (x := endS v1 v1.stop) (y := .slice (some ⟨w1.heap.size,0,none⟩) 1 1) (.tmp 44) (.tmp 50) rfl rfl rfl rfl (new_block w4 _) (RowS.alloc HR4.out loc_wins _) HLEN.out (by omega) (by omega) HSZ4.out rfl (by intro u hu;simp [stpE,endS] at hu;rcases hu with rfl | rfl | rfl <;> rfl) (HSH4.out.1.on ((Below.refl _ _).alloc (Nat.le_refl _) _)) (HSH4.out.2.on ((Below.refl _ _).alloc (Nat.le_refl _) _)) HAP4.out ?_;intro g5 cp5 w5 r5 r6 r7;have HR5 := hide r5;have E5 : Hid (Below w.heap.size w w5) := (E4.out.alloc (by have := HSZ.out;have := S4.out;omega) _).grown r6 (by have := HSZ.out;have := S4.out;simp;omega) (fun q hq => by have e : some ga = some q := hq;injection e with e;have := HGB.out;omega);clear r5 r6 r7) | (go_at_call 74;refine (H74.out _ HBw.out).mono ?_;rintro e w4 ⟨rfl,k4⟩;have S4 := hide k4.size;have HR4 := hide (RowS.on HRV.out loc_wins k4);have E4 := hide (below_on HBw.out k4);have HSH4 : Hid (WinsV w4 (.slice (some ⟨w1.heap.size,0,none⟩) 1 1) [(v1.shift.1,v1.shift.2)] ∧ InH w4 (.slice (some ⟨w1.heap.size,0,none⟩) 1 1)) := own_shift ((k4.block _ (lt_of_block HS.out)).trans HS.out);have HSZ4 : Hid (w.heap.size + 1 ≤ (w4.alloc (.cells #[.int .i64 v1.stop,.int .i64 0,.slice (some ⟨w1.heap.size,0,none⟩) 1 1] 45)).heap.size) := (by show _ ≤ _;have := HSZ.out;have := S4.out;simp;omega);have HAP4 : Hid (Apt (.slice (some ⟨ga,0,none⟩) n1 gc) (.slice (some ⟨w1.heap.size,0,none⟩) 1 1)) := (fun g hg hg' => HN.out ((own_blk hg).trans (own_blk hg').symm));clear k4) | fail)
   go_ret
   refine ⟨_,rfl,?_,E5.out⟩
   exact StS.stps (HR5.out : StS w5 (w.heap.size + 1) _ (stopsM p v1 V) _) (by rw [stopsM_len,HM.out];omega)
end Go.Proofs.Ytgjpkpmikbpcnaa
