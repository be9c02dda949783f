/-
  Several texts in one: SkF Sk1 Sk2.
-/
import Derived.BigRegion
import Derived.Deep.RegionHeld3
import Derived.Test.YtndbikoccdjafaaBCBrkPG
import Derived.Test.YtndbikoccdjafaaBSk11
import Derived.Test.YtndbikoccdjafaaBCHCallG
import Derived.Test.YtndbikoccdjafaaBCChkAG
import Derived.Test.YtndbikoccdjafaaBCPlBG
namespace Go.Proofs.Ytndbikoccdjafaa
open Go.RowKit
structure MadeF (p : Prb) (vi : Int) (V : List Vst) (k : Nat) (L : List StepT) (G : List Stg) (l : List Int) (e9 : Int) : Prop where
 law : lawM p = true
 man : vi = k
 veh : k < p.vs.length
 steps : (fitP p vi V).steps = L
 pveh : (fitP p vi V).veh = k
 rt : Rout p k L G
 lat : latG (p.vs.getD k vz).shift.2 G = some l
 arr : ∀ (j : Nat) (s : StepT),L[j]? = some s → -1 ≤ s.arr ∧ s.arr ≤ 34000000
 own : ∀ (j : Nat) (s : StepT),L[j]? = some s → endG (p.vs.getD k vz).shift.2 (G.drop j) s.arr = some e9
 last : ∀ s : StepT,L[L.length - 1]? = some s → s.arr = e9
theorem made_facts {p : Prb} {vi : Int} {V : List Vst} (h : madeB p vi V = true) : ∃ k L G l e9,MadeF p vi V k L G l e9 := by
 unfold madeB at h
 simp only [Bool.and_eq_true,decide_eq_true_eq] at h
 obtain ⟨⟨hl,hV⟩,he⟩ := h
 obtain ⟨hm,U,_,hUl,hE,hP⟩ := (fit_form (V := V) (vi := vi) hl).2 he
 obtain ⟨k,rfl,hk⟩ := man_nat (show (decide (0 ≤ vi) && decide (vi < (p.vs.length : Int))) = true from hm)
 rw [Int.toNat_natCast] at hE hP hUl
 have hv := veh_ok (law_veh hl hk)
 have h2 := hv.two
 have F := lat_facts hl hv hE
 have hst : ∀ (j : Nat) (s : StepT),(planM p k (p.vs.getD k vz) U).steps[j]? = some s → j < U.length + 2 ∧ s.arr = arrM p.time (stopsM p (p.vs.getD k vz) U) (p.vs.getD k vz).shift.1 j := fun j s hs => by
  have hj : j < U.length + 2 := by rw [← plan_len (p := p) (v := p.vs.getD k vz) (U := U) (vi := k)];exact (List.getElem?_eq_some_iff.1 hs).1
  rw [plan_step hj] at hs
  injection hs with hs
  exact ⟨hj,by rw [← hs];rfl⟩
 refine ⟨k,(planM p k (p.vs.getD k vz) U).steps,stgM p (p.vs.getD k vz) U,latL p (p.vs.getD k vz) U,arrM p.time (stopsM p (p.vs.getD k vz) U) (p.vs.getD k vz).shift.1 (U.length + 1),hl,rfl,hk,by rw [hP],by rw [hP];rfl,rout_plan hl hk hE (by omega),F.lat,fun j s hs => ?_,fun j s hs => ?_,fun s hs => ?_⟩
 ·rw [(hst j s hs).2]
  exact arr_ok (ways_ok hl).mt (stops_ok hl hv U) ⟨hv.shift.1,by have := hv.shift;omega⟩ j
 ·obtain ⟨hj,e⟩ := hst j s hs
  rw [e]
  exact own_end hv hE (U.length + 1 - j) j (by omega)
 ·rw [(hst _ s hs).2,plan_len]
  rfl
theorem slk_made {w : World} {p : Prb} {vi : Int} {V : List Vst} {k b : Nat} {L : List StepT} {G : List Stg} {l : List Int} {e9 : Int} {v : Value} (F : MadeF p vi V k L G l e9) (hp : PlanW w b v (fitP p vi V)) : ∃ a n c tm ds wt sv co,v = .agg (planC k (.slice a n c) tm ds wt sv co) ∧ StpC w a n L ∧ ∀ (W2 : World) (x2 : PrbS),Below w.heap.size w W2 → PrbV W2 x2 p → SlkV W2 x2 p k a n L G := by
 obtain ⟨a,n,c,ys,rfl,hr,hn⟩ := hp
 have hs := stpR_read hr hn
 rw [F.steps] at hs
 exact ⟨a,n,c,_,_,_,_,_,by rw [F.pveh],hs,fun W2 x2 hb h => ⟨h,F.law,F.veh,hs.on hb,F.rt⟩⟩
def StpD (w : World) (a : Option Addr) (L : List StepT) : Prop := ∀ i s,L[i]? = some s → ∃ g ya yn yc,a = some ⟨g,0,none⟩ ∧ g < w.heap.size ∧ ∀ j,j < 9 → w.cell? ⟨g,i * 9 + j,none⟩ = (encS s (.slice ya yn yc))[j]?
theorem StpD.on {w w' : World} {a : Option Addr} {L : List StepT} (h : StpD w a L) (f : Below w.heap.size w w') : StpD w' a L := fun i s hs => by
 obtain ⟨g,ya,yn,yc,e,hg,hc⟩ := h i s hs
 exact ⟨g,ya,yn,yc,e,Nat.lt_of_lt_of_le hg f.size,fun j hj => ((bcell f).1 _ _ hg).trans (hc j hj)⟩
theorem slk_madeD {w : World} {p : Prb} {vi : Int} {V : List Vst} {k b : Nat} {L : List StepT} {G : List Stg} {l : List Int} {e9 : Int} {v : Value} (F : MadeF p vi V k L G l e9) (hp : PlanW w b v (fitP p vi V)) : ∃ a n c tm ds wt sv co,v = .agg (planC k (.slice a n c) tm ds wt sv co) ∧ (StpC w a n L ∧ StpD w a L) ∧ ∀ (W2 : World) (x2 : PrbS),Below w.heap.size w W2 → PrbV W2 x2 p → SlkV W2 x2 p k a n L G := by
 obtain ⟨a,n,c,ys,rfl,hr,hn⟩ := hp
 have hs := stpR_read hr hn
 rw [F.steps] at hs hr
 exact ⟨a,n,c,_,_,_,_,_,by rw [F.pveh],⟨hs,fun i s h => by
  obtain ⟨g,y1,yc,e,hg,hc,_⟩ := stp_get hr h
  exact ⟨g,y1,_,yc,e,hg,hc⟩⟩,fun W2 x2 hb h => ⟨h,F.law,F.veh,hs.on hb,F.rt⟩⟩
end Go.Proofs.Ytndbikoccdjafaa
namespace Go.Proofs.Ytndbikoccdjafaa
open Go.RowKit
set_option maxRecDepth 100000 in
set_option maxHeartbeats 3200000 in
theorem smanned_any {w : World} {x : PrbS} {p : Prb} {n c : Nat} {a : Option Addr} (h : PrbV w x p) (vi tm ds wt sv co : Int) : Calls Try.prog 35 #[.agg (prbE p x),.agg (planC vi (.slice a n c) tm ds wt sv co)] w fun e w' => e = .returned (.bool (manB p vi)) ∧ Below w.heap.size w w' := by
 obtain ⟨ta,tc,da,dc,va,vc,ja,jc,sa,sc,rfl⟩ := h.open
 unfold prbE planC manB
 obtain ⟨nv,hnv⟩ : ∃ z,p.vs.length = z := ⟨_,rfl⟩
 rw [hnv]
 have HB : Hid (∀ A B,Below w.heap.size w ((w.alloc A).alloc B)) := fun A B => ((Below.refl _ _).alloc (Nat.le_refl _) A).alloc (by simp) B
 clear h hnv
 by_cases h0 : (0 : Int) ≤ vi
 ·by_cases h1 : vi < (nv : Int)
  ·rw [decide_eq_true h0,decide_eq_true h1]
   go_enter Try.func35,Try.ntmps35
   go_wp2
   go_ret
   exact ⟨rfl,HB.out _ _⟩
  ·rw [decide_eq_true h0,decide_eq_false h1]
   go_enter Try.func35,Try.ntmps35
   go_wp2
   go_ret
   exact ⟨rfl,HB.out _ _⟩
 ·rw [decide_eq_false h0]
  go_enter Try.func35,Try.ntmps35
  go_wp2
  go_ret
  exact ⟨rfl,HB.out _ _⟩
end Go.Proofs.Ytndbikoccdjafaa
namespace Go.Proofs.Ytndbikoccdjafaa
open Go.RowKit
set_option maxRecDepth 100000 in
set_option maxHeartbeats 6400000 in
theorem onward_c {w : World} {x : PrbS} {p : Prb} {n c i : Nat} {a : Option Addr} {L : List StepT} {s t : StepT} (h : PrbV w x p) (hl : lawM p = true) (hR : StpC w a n L) (hs : L[i]? = some s) (ht : L[i + 1]? = some t) (hi : i + 1 < n) (hn : n ≤ 1000) (hb : -1000000000000 ≤ s.serv ∧ s.serv ≤ 1000000000000) (vi tm ds wt sv co : Int) : Calls Try.prog 37 #[.agg (prbE p x), .agg (planC vi (.slice a n c) tm ds wt sv co), .int .i64 i] w fun e w' => e = .returned (.int .i64 (s.serv + cellM p.time s.place t.place)) ∧ Below w.heap.size w w' := by
  have HP := hide h
  have HL := hide hl
  obtain ⟨ta, tc, da, dc, va, vc, ja, jc, sa, sc, rfl⟩ := h.open
  obtain ⟨g, y1, rfl, hg, c1⟩ := hR.2 i s hs
  obtain ⟨g2, y2, hg2, _, c2⟩ := hR.2 (i + 1) t ht
  injection hg2 with hg2
  injection hg2 with hg2
  subst hg2
  obtain ⟨sp, hsp⟩ : ∃ z, s.place = z := ⟨_, rfl⟩
  obtain ⟨tp, htp⟩ : ∃ z, t.place = z := ⟨_, rfl⟩
  obtain ⟨se, hse⟩ : ∃ z, s.serv = z := ⟨_, rfl⟩
  have d2 : w.cell? ⟨g, i * 9 + 2, none⟩ = some (.int .i64 sp) := by rw [← hsp]; exact c1 2 (by decide)
  have d5 : w.cell? ⟨g, i * 9 + 5, none⟩ = some (.int .i64 se) := by rw [← hse]; exact c1 5 (by decide)
  have e2 : w.cell? ⟨g, (i + 1) * 9 + 2, none⟩ = some (.int .i64 tp) := by rw [← htp]; exact c2 2 (by decide)
  rw [hsp, htp, hse]
  rw [hse] at hb
  have hc := (ways_ok hl).mt sp tp
  obtain ⟨cc, hcc⟩ : ∃ z, cellM p.time sp tp = z := ⟨_, rfl⟩
  have H60 : Hid (∀ W2, Below w.heap.size w W2 → Calls Try.prog 60 #[.agg #[.int .i64 p.time.n, .slice ta p.time.cells.length tc], .int .i64 sp, .int .i64 tp] W2 fun e w' => e = .returned (.int .i64 cc) ∧ Below W2.heap.size W2 w') := fun W2 hf => by
    have h9 := cell_any (HP.out.on hf).t (ways_ok HL.out).st sp tp
    rw [hcc] at h9
    exact h9
  rw [hcc] at hc ⊢
  clear h hl hR hs ht c1 c2 hsp htp hse hcc
  unfold prbE planC
  have i1 : (0 : Int) ≤ (i : Int) := by omega
  have i2 : (i : Int) < (n : Int) := by omega
  obtain ⟨j, hj⟩ : ∃ z, i + 1 = z := ⟨_, rfl⟩
  have i3 : IntKind.i64.wrap ((i : Int) + 1) = (j : Int) := by rw [IntKind.wrap_i64]; omega
  have i4 : (0 : Int) ≤ (j : Int) := by omega
  have i5 : (j : Int) < (n : Int) := by omega
  have i6 : IntKind.i64.wrap (se + cc) = se + cc := by rw [IntKind.wrap_i64]; omega
  rw [hj] at e2
  have hgn : ¬ g = w.heap.size := by omega
  have hgn1 : ¬ g = w.heap.size + 1 := by omega
  clear hj hi
  obtain ⟨W, hW⟩ : ∃ W, (w.alloc (.cells #[.int .i64 p.dims, .int .i64 p.time.n, .slice ta p.time.cells.length tc, .int .i64 p.dist.n, .slice da p.dist.cells.length dc, .slice va p.vs.length vc, .slice ja p.js.length jc, .slice sa p.ss.length sc] 29)).alloc (.cells #[.int .i64 vi, .slice (some ⟨g, 0, none⟩) n c, .int .i64 tm, .int .i64 ds, .int .i64 wt, .int .i64 sv, .int .i64 co] 34) = W := ⟨_, rfl⟩
  have HB : Hid (Below w.heap.size w W) := by show Below _ _ _; rw [← hW]; exact ((Below.refl _ _).alloc (Nat.le_refl _) _).alloc (by simp) _
  have HX1 : Hid (W.heap[w.heap.size]? = some (.cells #[.int .i64 p.dims, .int .i64 p.time.n, .slice ta p.time.cells.length tc, .int .i64 p.dist.n, .slice da p.dist.cells.length dc, .slice va p.vs.length vc, .slice ja p.js.length jc, .slice sa p.ss.length sc] 29 (0, 0))) := by
    show _ = _
    rw [← hW, heap_alloc_old _ _ (by simp)]
    exact new_block _ _
  have HX2 : Hid (W.heap[w.heap.size + 1]? = some (.cells #[.int .i64 vi, .slice (some ⟨g, 0, none⟩) n c, .int .i64 tm, .int .i64 ds, .int .i64 wt, .int .i64 sv, .int .i64 co] 34 (0, 0))) := by
    show _ = _
    rw [← hW]
    have h9 := new_block (w.alloc (.cells #[.int .i64 p.dims, .int .i64 p.time.n, .slice ta p.time.cells.length tc, .int .i64 p.dist.n, .slice da p.dist.cells.length dc, .slice va p.vs.length vc, .slice ja p.js.length jc, .slice sa p.ss.length sc] 29)) (.cells #[.int .i64 vi, .slice (some ⟨g, 0, none⟩) n c, .int .i64 tm, .int .i64 ds, .int .i64 wt, .int .i64 sv, .int .i64 co] 34)
    rw [show (w.alloc (.cells #[.int .i64 p.dims, .int .i64 p.time.n, .slice ta p.time.cells.length tc, .int .i64 p.dist.n, .slice da p.dist.cells.length dc, .slice va p.vs.length vc, .slice ja p.js.length jc, .slice sa p.ss.length sc] 29)).heap.size = w.heap.size + 1 from by simp] at h9
    exact h9
  have HS : Hid (∀ w', Below W.heap.size W w' → w'.cell? ⟨w.heap.size, 1, none⟩ = some (.int .i64 p.time.n) ∧ w'.cell? ⟨w.heap.size, 2, none⟩ = some (.slice ta p.time.cells.length tc) ∧ w'.cell? ⟨w.heap.size + 1, 1, none⟩ = some (.slice (some ⟨g, 0, none⟩) n c) ∧ w'.cell? ⟨g, i * 9 + 2, none⟩ = some (.int .i64 sp) ∧ w'.cell? ⟨g, i * 9 + 5, none⟩ = some (.int .i64 se) ∧ w'.cell? ⟨g, j * 9 + 2, none⟩ = some (.int .i64 tp)) := fun w' hf => ⟨((bcell hf).1 _ _ (lt_of_block HX1.out)).trans (cell_of_row _ _ _ _ _ _ HX1.out), ((bcell hf).1 _ _ (lt_of_block HX1.out)).trans (cell_of_row _ _ _ _ _ _ HX1.out), ((bcell hf).1 _ _ (lt_of_block HX2.out)).trans (cell_of_row _ _ _ _ _ _ HX2.out), ((bcell (below_on HB.out hf)).1 _ _ hg).trans d2, ((bcell (below_on HB.out hf)).1 _ _ hg).trans d5, ((bcell (below_on HB.out hf)).1 _ _ hg).trans e2⟩
  go_enter Try.func37, Try.ntmps37
  go_wp2
  obtain ⟨k1, k2, k3, k4, k5, k6⟩ := HS.out W (Below.refl _ _)
  first | (go_region_held3 (fun w' => w'.cell? ⟨w.heap.size, 1, none⟩ = some (.int .i64 p.time.n) ∧ w'.cell? ⟨w.heap.size, 2, none⟩ = some (.slice ta p.time.cells.length tc) ∧ w'.cell? ⟨w.heap.size + 1, 1, none⟩ = some (.slice (some ⟨g, 0, none⟩) n c) ∧ w'.cell? ⟨g, i * 9 + 2, none⟩ = some (.int .i64 sp) ∧ w'.cell? ⟨g, i * 9 + 5, none⟩ = some (.int .i64 se) ∧ w'.cell? ⟨g, j * 9 + 2, none⟩ = some (.int .i64 tp)) (go_keep) (first | (go_at_call 60; refine (H60.out _ (below_on HB.out (Below.refl _ _).drew)).mono ?_; rintro e w2 ⟨rfl, kk⟩; have K2 := hide (below_on (Below.refl W.heap.size W).drew kk); clear kk; obtain ⟨m1, m2, m3, m4, m5, m6⟩ := HS.out w2 K2.out) | fail)) | fail
  rename_i hHeld
  clear hHeld
  go_wp2
  go_ret
  exact ⟨rfl, below_on HB.out K2.out⟩
theorem onward_any {w : World} {x : PrbS} {p : Prb} {k n i : Nat} {a : Option Addr} {L : List StepT} {G : List Stg} (h : SlkV w x p k a n L G) (hi : i < G.length) (c : Nat) (tm ds wt sv co : Int) : ∃ s t, L[i]? = some s ∧ L[i + 1]? = some t ∧ Calls Try.prog 37 #[.agg (prbE p x), .agg (planC k (.slice a n c) tm ds wt sv co), .int .i64 i] w fun e w' => e = .returned (.int .i64 (s.serv + cellM p.time s.place t.place)) ∧ Below w.heap.size w w' := by
  obtain ⟨s, t, hs, ht, hG, h1, h2, _⟩ := h.rt.step i hi
  have hn := h.stp.1
  have hlen := h.rt.len
  have hhi := h.rt.high
  exact ⟨s, t, hs, ht, onward_c h.prb h.law h.stp hs ht (by omega) (by omega) (by omega) _ _ _ _ _ _⟩
end Go.Proofs.Ytndbikoccdjafaa
