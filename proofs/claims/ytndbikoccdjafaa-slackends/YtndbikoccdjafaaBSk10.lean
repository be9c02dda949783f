/-
  The document's Ends 16: when a plan ends, if one of its steps is come to at a time.
-/
import Derived.Test.YtndbikoccdjafaaBSk9
import Derived.Test.YtndbikoccdjafaaBCRof
namespace Go.Proofs.Ytndbikoccdjafaa
open Go.RowKit
theorem hs38 (args : Array Value) (w : World) : (callFunc 38 args).run Try.prog w = .ok (.enter 38 args) w := Go.Proofs.enters_of Try.func38 (by kernel_rfl) rfl args w
theorem hs40 (args : Array Value) (w : World) : (callFunc 40 args).run Try.prog w = .ok (.enter 40 args) w := Go.Proofs.enters_of Try.func40 (by kernel_rfl) rfl args w
theorem put3 {W : World} {b ty : Nat} {c0 c1 c2 : Value} (v0 v1 v2 : Value) (h : W.heap[b]? = some (.cells #[c0, c1, c2] ty (0, 0))) :
    ∃ Z, Z = (((W.setCell ⟨b, 0, none⟩ v0).setCell ⟨b, 1, none⟩ v1).setCell ⟨b, 2, none⟩ v2) ∧ Z.heap[b]? = some (.cells #[v0, v1, v2] ty (0, 0)) ∧ W.grownBy Z (some b) := by
  refine ⟨_, rfl, ?_, ?_⟩
  · have h0 : (W.setCell ⟨b, 0, none⟩ v0).heap[b]? = some (.cells #[v0, c1, c2] ty (0, 0)) := by have := heap_setCell_same W b 0 _ _ v0 h; simpa using this
    have h1 : ((W.setCell ⟨b, 0, none⟩ v0).setCell ⟨b, 1, none⟩ v1).heap[b]? = some (.cells #[v0, v1, c2] ty (0, 0)) := by have := heap_setCell_same _ b 1 _ _ v1 h0; simpa using this
    have h2 : (((W.setCell ⟨b, 0, none⟩ v0).setCell ⟨b, 1, none⟩ v1).setCell ⟨b, 2, none⟩ v2).heap[b]? = some (.cells #[v0, v1, v2] ty (0, 0)) := by have := heap_setCell_same _ b 2 _ _ v2 h1; simpa using this
    exact h2
  · repeat (first | (with_reducible exact grw_refl _ _) | (with_reducible refine grw_set ?_ _ _))
set_option maxRecDepth 100000 in
set_option maxHeartbeats 12800000 in
theorem rends_any {w : World} {x : PrbS} {p : Prb} {k n : Nat} {a : Option Addr} {L : List StepT} {G : List Stg} (h : SlkV w x p k a n L G) {i : Nat} (hi : i < n) {t : Int} (ht : -1000000000 ≤ t ∧ t ≤ 1000000001) (c : Nat) (tm ds wt sv co : Int) : Calls Try.prog 16 #[.agg (prbE p x), .agg (planC k (.slice a n c) tm ds wt sv co), .int .i64 (i : Int), .int .i64 t] w fun e w' => ∃ r, e = .returned (.tuple #[.int .i64 r, .bool (endG (p.vs.getD k vz).shift.2 (G.drop i) t).isSome]) ∧ (∀ z, endG (p.vs.getD k vz).shift.2 (G.drop i) t = some z → r = z) ∧ Below w.heap.size w w' := by
  have HV := hide h
  have hlen := h.rt.len
  have hlow := h.rt.low
  have hhi := h.rt.high
  have hn := h.stp.1
  have hk := h.veh
  have hsh := (veh_ok (law_veh h.law hk)).shift
  obtain ⟨b, off, vcz, xc, xb, hxv, hb, hcv, hxc, hbk⟩ := veh_cells h.prb.v hk
  obtain ⟨ta, tc, da, dc, va, vc, ja, jc, sa, sc, rfl⟩ := h.prb.open
  simp only at hxv
  injection hxv with hx1 _ hx3
  subst hx1
  subst hx3
  obtain ⟨s0, t0, hs0, _, _⟩ := h.rt.step 0 hlow
  obtain ⟨g, y0, rfl, hg, _⟩ := h.stp.2 0 s0 hs0
  obtain ⟨v, hvv⟩ : ∃ z, p.vs.getD k vz = z := ⟨_, rfl⟩
  rw [hvv] at hcv hxc hbk hsh ⊢
  obtain ⟨ca, lc, cc, rfl⟩ : ∃ a l c, xc = .slice a l c := by obtain ⟨a1, b1, e1, _⟩ := hxc; exact ⟨a1, _, b1, e1⟩
  obtain ⟨ba, lb, bc, rfl⟩ : ∃ a l c, xb = .slice a l c := by obtain ⟨a1, b1, e1, _⟩ := hbk; exact ⟨a1, _, b1, e1⟩
  have hlb : lb = v.brks.length := by obtain ⟨a1, b1, e1, _⟩ := hbk; injection e1
  have e0 : w.cell? ⟨b, off + k * 11, none⟩ = some (.int .i64 v.start) := hcv 0 (by decide)
  have e1 : w.cell? ⟨b, off + k * 11 + 1, none⟩ = some (.int .i64 v.stop) := hcv 1 (by decide)
  have e2 : w.cell? ⟨b, off + k * 11 + 2, none⟩ = some (.slice ca lc cc) := hcv 2 (by decide)
  have e3 : w.cell? ⟨b, off + k * 11 + 3, none⟩ = some (.int .u64 v.skills) := hcv 3 (by decide)
  have e4 : w.cell? ⟨b, off + k * 11 + 4, none⟩ = some (.int .i64 v.shift.1) := hcv 4 (by decide)
  have e5 : w.cell? ⟨b, off + k * 11 + 5, none⟩ = some (.int .i64 v.shift.2) := hcv 5 (by decide)
  have e6 : w.cell? ⟨b, off + k * 11 + 6, none⟩ = some (.int .i64 v.fixed) := hcv 6 (by decide)
  have e7 : w.cell? ⟨b, off + k * 11 + 7, none⟩ = some (.int .i64 v.perT) := hcv 7 (by decide)
  have e8 : w.cell? ⟨b, off + k * 11 + 8, none⟩ = some (.int .i64 v.perD) := hcv 8 (by decide)
  have e9 : w.cell? ⟨b, off + k * 11 + 9, none⟩ = some (.int .i64 v.maxT) := hcv 9 (by decide)
  have e10 : w.cell? ⟨b, off + k * 11 + 10, none⟩ = some (.slice ba lb bc) := hcv 10 (by decide)
  obtain ⟨cl, hcl⟩ : ∃ z, v.shift.2 = z := ⟨_, rfl⟩
  rw [hcl]
  have HCL := hide hcl
  obtain ⟨m, hm⟩ : ∃ z, G.length = z := ⟨_, rfl⟩
  have hnm : n = m + 1 := by omega
  have HBK := hide hbk
  have HLB := hide hlb
  have HVV := hide hvv
  have HM := hide hm
  have H38 : Hid (∀ W2, Below w.heap.size w W2 → ∀ kd it : Int, Calls Try.prog 38 #[.agg #[.int .i64 p.dims, .int .i64 p.time.n, .slice ta p.time.cells.length tc, .int .i64 p.dist.n, .slice da p.dist.cells.length dc, .slice (some ⟨b, off, none⟩) p.vs.length vc, .slice ja p.js.length jc, .slice sa p.ss.length sc], .agg #[.int .i64 kd, .int .i64 it]] W2 fun e w' => ∃ ya yc, e = .returned (.tuple #[.agg #[.int .i64 (stpM p kd it).place, .int .i64 (stpM p kd it).serv, .slice ya (stpM p kd it).wins.length yc], .bool (thereV p kd it)]) ∧ WinsV w (.slice ya (stpM p kd it).wins.length yc) (stpM p kd it).wins ∧ Below W2.heap.size W2 w') := fun W2 hf kd it => by
    refine (rstopO_any HV.out.prb hf kd it).mono ?_
    rintro e w' ⟨y, rfl, ⟨ya, yc, rfl, h2, h3⟩, k9⟩
    exact ⟨ya, yc, rfl, ⟨ya, yc, rfl, h2, h3⟩, k9⟩
  have H40 : Hid (∀ W2, Below w.heap.size w W2 → ∀ f t : Int, Calls Try.prog 40 #[.agg #[.int .i64 p.time.n, .slice ta p.time.cells.length tc], .int .i64 f, .int .i64 t] W2 fun e w' => e = .returned (.int .i64 (cellM p.time f t)) ∧ Below W2.heap.size W2 w') := fun W2 hf f t => rcell_any (HV.out.prb.on hf).t (ways_ok HV.out.law).st f t
  have H39 : Hid (∀ W2, Below w.heap.size w W2 → ∀ ya yc (L : List Win), WinsV w (.slice ya L.length yc) L → Hr.Lw L → ∀ t : Int, Calls Try.prog 39 #[.slice ya L.length yc, .int .i64 t] W2 fun e w' => e = .returned (.tuple #[.int .i64 (Hr.startM t L).1, .bool (Hr.startM t L).2]) ∧ Below W2.heap.size W2 w') := fun W2 hf ya yc L hw hlw t => by
    obtain ⟨a1, c1, e1, _, hA⟩ := hw.on hf
    injection e1 with e1 _ e3
    subst e1 e3
    have h9 := Hr.rstart_any (c := yc) t (hr_wins hA)
    rw [← Hr.rst_eq hlw] at h9
    refine h9.mono ?_
    rintro e w' ⟨rfl, rfl⟩
    exact ⟨rfl, Below.refl _ _⟩
  have HST : Hid (∀ W2, Below w.heap.size w W2 → ∀ (j : Nat) (s : StepT), L[j]? = some s → W2.cell? ⟨g, j * 9, none⟩ = some (.int .i64 s.kind) ∧ W2.cell? ⟨g, j * 9 + 1, none⟩ = some (.int .i64 s.item) ∧ W2.cell? ⟨g, j * 9 + 2, none⟩ = some (.int .i64 s.place)) := fun W2 hf j s hs => by
    obtain ⟨g2, y2, e2, _, hc2⟩ := (HV.out.on hf).stp.2 j s hs
    injection e2 with e2
    injection e2 with e2
    subst e2
    exact ⟨hc2 0 (by decide), hc2 1 (by decide), hc2 2 (by decide)⟩
  have HHI := hide (show m ≤ 40 by omega)
  have HNM := hide hnm
  have HIM : Hid (i ≤ m) := by show _ ≤ _; omega
  have HT := hide ht
  have HG := hide hg
  have HB0 := hide hb
  obtain ⟨E, hE⟩ : ∃ z, endG cl (G.drop i) t = z := ⟨_, rfl⟩
  rw [hE]
  have HE := hide hE
  have i7 : (0 : Int) ≤ (k : Int) := by omega
  have i8 : (k : Int) < (p.vs.length : Int) := by omega
  have n0 : ¬ b = w.heap.size := by omega
  have n1 : ¬ b = w.heap.size + 1 := by omega
  clear h hlen hlow hhi hn hk hsh hcv hxc hbk hlb hvv hcl hs0 hE hm ht hi hnm
  unfold prbE planC
  simp only
  obtain ⟨W, hW⟩ : ∃ W, ((w.alloc (.cells #[.int .i64 p.dims, .int .i64 p.time.n, .slice ta p.time.cells.length tc, .int .i64 p.dist.n, .slice da p.dist.cells.length dc, .slice (some ⟨b, off, none⟩) p.vs.length vc, .slice ja p.js.length jc, .slice sa p.ss.length sc] 29)).alloc (.cells #[.int .i64 (k : Int), .slice (some ⟨g, 0, none⟩) n c, .int .i64 tm, .int .i64 ds, .int .i64 wt, .int .i64 sv, .int .i64 co] 34)).alloc (.cells #[.int .i64 v.start, .int .i64 v.stop, .slice ca lc cc, .int .u64 v.skills, .int .i64 v.shift.1, .int .i64 v.shift.2, .int .i64 v.fixed, .int .i64 v.perT, .int .i64 v.perD, .int .i64 v.maxT, .slice ba lb bc] 58) = W := ⟨_, rfl⟩
  have HB : Hid (Below w.heap.size w W) := by show Below _ _ _; rw [← hW]; exact (((Below.refl _ _).alloc (Nat.le_refl _) _).alloc (by simp) _).alloc (by simp; omega) _
  have HX1 : Hid (W.heap[w.heap.size]? = some (.cells #[.int .i64 p.dims, .int .i64 p.time.n, .slice ta p.time.cells.length tc, .int .i64 p.dist.n, .slice da p.dist.cells.length dc, .slice (some ⟨b, off, none⟩) p.vs.length vc, .slice ja p.js.length jc, .slice sa p.ss.length sc] 29 (0, 0))) := by
    show _ = _
    rw [← hW, heap_alloc_old _ _ (by simp; omega), heap_alloc_old _ _ (by simp)]
    exact new_block _ _
  have HX2 : Hid (W.heap[w.heap.size + 1]? = some (.cells #[.int .i64 (k : Int), .slice (some ⟨g, 0, none⟩) n c, .int .i64 tm, .int .i64 ds, .int .i64 wt, .int .i64 sv, .int .i64 co] 34 (0, 0))) := by
    show _ = _
    rw [← hW, heap_alloc_old _ _ (by simp)]
    have h9 := new_block (w.alloc (.cells #[.int .i64 p.dims, .int .i64 p.time.n, .slice ta p.time.cells.length tc, .int .i64 p.dist.n, .slice da p.dist.cells.length dc, .slice (some ⟨b, off, none⟩) p.vs.length vc, .slice ja p.js.length jc, .slice sa p.ss.length sc] 29)) (.cells #[.int .i64 (k : Int), .slice (some ⟨g, 0, none⟩) n c, .int .i64 tm, .int .i64 ds, .int .i64 wt, .int .i64 sv, .int .i64 co] 34)
    simp only [World.size_alloc] at h9
    exact h9
  have HX3 : Hid (W.heap[w.heap.size + 1 + 1]? = some (.cells #[.int .i64 v.start, .int .i64 v.stop, .slice ca lc cc, .int .u64 v.skills, .int .i64 v.shift.1, .int .i64 v.shift.2, .int .i64 v.fixed, .int .i64 v.perT, .int .i64 v.perD, .int .i64 v.maxT, .slice ba lb bc] 58 (0, 0))) := by
    show _ = _
    rw [← hW]
    have h9 := new_block ((w.alloc (.cells #[.int .i64 p.dims, .int .i64 p.time.n, .slice ta p.time.cells.length tc, .int .i64 p.dist.n, .slice da p.dist.cells.length dc, .slice (some ⟨b, off, none⟩) p.vs.length vc, .slice ja p.js.length jc, .slice sa p.ss.length sc] 29)).alloc (.cells #[.int .i64 (k : Int), .slice (some ⟨g, 0, none⟩) n c, .int .i64 tm, .int .i64 ds, .int .i64 wt, .int .i64 sv, .int .i64 co] 34)) (.cells #[.int .i64 v.start, .int .i64 v.stop, .slice ca lc cc, .int .u64 v.skills, .int .i64 v.shift.1, .int .i64 v.shift.2, .int .i64 v.fixed, .int .i64 v.perT, .int .i64 v.perD, .int .i64 v.maxT, .slice ba lb bc] 58)
    simp only [World.size_alloc] at h9
    exact h9
  go_enter Try.func16, Try.ntmps16
  go_wp2_with fail
  clear hW e0 e1 e2 e3 e4 e5 e6 e7 e8 e9 e10 n0 n1 i7 i8
  go_loopw [2, 3] (fun vi vt wr => ∃ (q : Nat) (tq : Int), vi = .int .i64 q ∧ vt = .int .i64 tq ∧ q ≤ m ∧ Hid (endG cl (G.drop q) tq = E ∧ -1000000000 ≤ tq ∧ (tq ≤ 1000000001 ∨ 1 ≤ q ∧ tq ≤ 1100000000)) ∧ Hid (Below W.heap.size W wr)) (fun vi _ _ => m - (intOf vi).toNat)
  case atStart => exact ⟨i, t, rfl, rfl, HIM.out, ⟨HE.out, HT.out.1, .inl HT.out.2⟩, Below.refl _ _⟩
  case round =>
    rename World => wr
    obtain ⟨q, tq, rfl, rfl, hq, HI, HNwr⟩ := hrel
    have HBR : Hid (∀ wx, Below wr.heap.size wr wx → Below w.heap.size w wx) := fun wx hx => below_on HB.out (below_on HNwr.out hx)
    have HY1 := hide ((HNwr.out.block _ (lt_of_block HX1.out)).trans HX1.out)
    have HY2 := hide ((HNwr.out.block _ (lt_of_block HX2.out)).trans HX2.out)
    have HY3 := hide ((HNwr.out.block _ (lt_of_block HX3.out)).trans HX3.out)
    have c21 : wr.cell? ⟨w.heap.size + 1, 1, none⟩ = some (.slice (some ⟨g, 0, none⟩) n c) := cell_of_row _ _ _ _ _ _ HY2.out
    have j1 : IntKind.i64.wrap ((n : Int) - 1) = (m : Int) := by rw [IntKind.wrap_i64]; have h1 := HNM.out; have h2 := HHI.out; omega
    by_cases hqm : q < m
    · obtain ⟨s, t1, hs, hs1, hG, hsv, hce, hz0, hz1⟩ := HV.out.rt.step q (by have h1 := HM.out; omega)
      rw [HVV.out] at hG hz1
      have hes : endG cl (G.drop q) tq = _ := end_stop hG (t := tq)
      rw [HI.out.1] at hes
      obtain ⟨hc0, hc1, hc2⟩ := HST.out wr (HBR.out _ (Below.refl _ _)) q s hs
      obtain ⟨_, _, hc3⟩ := HST.out wr (HBR.out _ (Below.refl _ _)) (q + 1) t1 hs1
      obtain ⟨kd, hkd⟩ : ∃ z, s.kind = z := ⟨_, rfl⟩
      obtain ⟨it, hit⟩ : ∃ z, s.item = z := ⟨_, rfl⟩
      obtain ⟨p1, hp1⟩ : ∃ z, s.place = z := ⟨_, rfl⟩
      obtain ⟨p2, hp2⟩ : ∃ z, t1.place = z := ⟨_, rfl⟩
      obtain ⟨se, hse⟩ : ∃ z, s.serv = z := ⟨_, rfl⟩
      rw [hkd] at hc0 hz0 hz1 hes hG
      rw [hit] at hc1 hz0 hz1 hes hG
      rw [hp1] at hc2 hce hes hG
      rw [hp2] at hc3 hce hes hG
      rw [hse] at hsv hz0 hz1 hes hG
      obtain ⟨cm, hcm⟩ : ∃ z, cellM p.time p1 p2 = z := ⟨_, rfl⟩
      have HCM := hide hcm
      rw [hcm] at hce hes hG
      have HG9 := hide hG
      have HES := hide hes
      have HZ0 := hide hz0
      have HZ1 := hide hz1
      clear hs hs1 hG hes hkd hit hp1 hp2 hse hz0 hz1 hcm
      have hgw : g < wr.heap.size := by have h1 := HG.out; have h2 := (HBR.out _ (Below.refl _ _)).size; omega
      obtain ⟨S0, hS0⟩ : ∃ z, stpM p kd it = z := ⟨_, rfl⟩
      obtain ⟨is0, his0⟩ : ∃ z, thereV p kd it = z := ⟨_, rfl⟩
      have HS0 := hide hS0
      have HIS0 := hide his0
      have H38q : Hid (∀ W2, Below wr.heap.size wr W2 → Calls Try.prog 38 #[.agg #[.int .i64 p.dims, .int .i64 p.time.n, .slice ta p.time.cells.length tc, .int .i64 p.dist.n, .slice da p.dist.cells.length dc, .slice (some ⟨b, off, none⟩) p.vs.length vc, .slice ja p.js.length jc, .slice sa p.ss.length sc], .agg #[.int .i64 kd, .int .i64 it]] W2 fun e w' => ∃ ya yc, e = .returned (.tuple #[.agg #[.int .i64 S0.place, .int .i64 S0.serv, .slice ya S0.wins.length yc], .bool is0]) ∧ WinsV w (.slice ya S0.wins.length yc) S0.wins ∧ Below W2.heap.size W2 w') := fun W2 hf => by
        have h9 := H38.out W2 (HBR.out _ hf) kd it
        rw [hS0, his0] at h9
        exact h9
      clear hS0 his0
      have j2 : (q : Int) < (m : Int) := by omega
      have j3 : (0 : Int) ≤ (q : Int) := by omega
      have j4 : (q : Int) < (n : Int) := by have h1 := HNM.out; omega
      have HS4 : Hid (∀ w', Below wr.heap.size wr w' → w'.cell? ⟨w.heap.size, 0, none⟩ = some (.int .i64 p.dims) ∧ w'.cell? ⟨w.heap.size, 1, none⟩ = some (.int .i64 p.time.n) ∧ w'.cell? ⟨w.heap.size, 2, none⟩ = some (.slice ta p.time.cells.length tc) ∧ w'.cell? ⟨w.heap.size, 3, none⟩ = some (.int .i64 p.dist.n) ∧ w'.cell? ⟨w.heap.size, 4, none⟩ = some (.slice da p.dist.cells.length dc) ∧ w'.cell? ⟨w.heap.size, 5, none⟩ = some (.slice (some ⟨b, off, none⟩) p.vs.length vc) ∧ w'.cell? ⟨w.heap.size, 6, none⟩ = some (.slice ja p.js.length jc) ∧ w'.cell? ⟨w.heap.size, 7, none⟩ = some (.slice sa p.ss.length sc) ∧ w'.cell? ⟨w.heap.size + 1, 1, none⟩ = some (.slice (some ⟨g, 0, none⟩) n c) ∧ w'.cell? ⟨g, q * 9, none⟩ = some (.int .i64 kd) ∧ w'.cell? ⟨g, q * 9 + 1, none⟩ = some (.int .i64 it)) := fun w' hf => ⟨((bcell hf).1 _ _ (lt_of_block HY1.out)).trans (cell_of_row _ _ _ _ _ _ HY1.out), ((bcell hf).1 _ _ (lt_of_block HY1.out)).trans (cell_of_row _ _ _ _ _ _ HY1.out), ((bcell hf).1 _ _ (lt_of_block HY1.out)).trans (cell_of_row _ _ _ _ _ _ HY1.out), ((bcell hf).1 _ _ (lt_of_block HY1.out)).trans (cell_of_row _ _ _ _ _ _ HY1.out), ((bcell hf).1 _ _ (lt_of_block HY1.out)).trans (cell_of_row _ _ _ _ _ _ HY1.out), ((bcell hf).1 _ _ (lt_of_block HY1.out)).trans (cell_of_row _ _ _ _ _ _ HY1.out), ((bcell hf).1 _ _ (lt_of_block HY1.out)).trans (cell_of_row _ _ _ _ _ _ HY1.out), ((bcell hf).1 _ _ (lt_of_block HY1.out)).trans (cell_of_row _ _ _ _ _ _ HY1.out), ((bcell hf).1 _ _ (lt_of_block HY2.out)).trans (cell_of_row _ _ _ _ _ _ HY2.out), ((bcell hf).1 _ _ hgw).trans hc0, ((bcell hf).1 _ _ hgw).trans hc1⟩
      obtain ⟨bq, hbq⟩ : ∃ z, decide (q ≠ 0) = z := ⟨_, rfl⟩
      have HBQ := hide hbq
      clear hbq
      go_upto_region 4 with fail
      go_cut [11, 12] from 30 to 41 (fun va vb wx => ∃ (x11 : Nat) (ya : Option Addr) (yc : Nat), va = .pointer (some ⟨x11, 0, none⟩) ∧ vb = .bool is0 ∧ wr.heap.size ≤ x11 ∧ Hid (wx.heap[x11]? = some (.cells #[.int .i64 S0.place, .int .i64 S0.serv, .slice ya S0.wins.length yc] 86 (0, 0))) ∧ Hid (WinsV w (.slice ya S0.wins.length yc) S0.wins) ∧ Hid (Below wr.heap.size wr wx))
      case first =>
        refine wp_region_held_drew (S := (fun w' => w'.cell? ⟨w.heap.size, 0, none⟩ = some (.int .i64 p.dims) ∧ w'.cell? ⟨w.heap.size, 1, none⟩ = some (.int .i64 p.time.n) ∧ w'.cell? ⟨w.heap.size, 2, none⟩ = some (.slice ta p.time.cells.length tc) ∧ w'.cell? ⟨w.heap.size, 3, none⟩ = some (.int .i64 p.dist.n) ∧ w'.cell? ⟨w.heap.size, 4, none⟩ = some (.slice da p.dist.cells.length dc) ∧ w'.cell? ⟨w.heap.size, 5, none⟩ = some (.slice (some ⟨b, off, none⟩) p.vs.length vc) ∧ w'.cell? ⟨w.heap.size, 6, none⟩ = some (.slice ja p.js.length jc) ∧ w'.cell? ⟨w.heap.size, 7, none⟩ = some (.slice sa p.ss.length sc) ∧ w'.cell? ⟨w.heap.size + 1, 1, none⟩ = some (.slice (some ⟨g, 0, none⟩) n c) ∧ w'.cell? ⟨g, q * 9, none⟩ = some (.int .i64 kd) ∧ w'.cell? ⟨g, q * 9 + 1, none⟩ = some (.int .i64 it))) (by kernel_rfl) ?_ (fun hHeld0 => ?_)
        · (try dsimp only); first | fail | exact HS4.out _ (Below.refl _ _) | exact HS4.out _ ((Below.refl _ _).drew) | (go_keep; done)
        obtain ⟨u0, hu0⟩ : ∃ u, wr.drew = u := ⟨_, rfl⟩
        rw [hu0]
        rw [hu0] at hHeld0
        have K0 : Hid (Below wr.heap.size wr u0) := by show Below _ _ _; rw [← hu0]; exact ((Below.refl _ _).drew)
        clear hu0
        refine wpAnyH_take (i := 0) (oi := { dst := some 31, op := Op.load 29 (Operand.tmp 4), type := 29, pos := "ref.go:232", after := #[], guard := none }) (v := ?_) rfl (by kernel_rfl) (by kernel_rfl) (by kernel_rfl) (fun _ _ _ h => h) (Or.inl ⟨by rfl, ?_⟩) (by assumption) ?_
        rotate_left
        · intro w hSw; (try dsimp only at hSw); first | (go_simp; done) | (go_simp; with_reducible rfl) | with_reducible rfl | rfl
        try simp only [Act.put, List.setIfInBounds_toArray, List.set_cons_succ, List.set_cons_zero]
        refine wpAnyH_take (i := 1) (oi := { dst := some 32, op := Op.fieldAddr 34 (Operand.tmp 5) 1, type := 0, pos := "ref.go:232", after := #[], guard := none }) (v := ?_) rfl (by kernel_rfl) (by kernel_rfl) (by kernel_rfl) (fun _ _ _ h => h) (Or.inl ⟨by rfl, ?_⟩) (by assumption) ?_
        rotate_left
        · intro w hSw; (try dsimp only at hSw); first | (go_simp; done) | (go_simp; with_reducible rfl) | with_reducible rfl | rfl
        try simp only [Act.put, List.setIfInBounds_toArray, List.set_cons_succ, List.set_cons_zero]
        refine wpAnyH_take (i := 2) (oi := { dst := some 33, op := Op.load 32 (Operand.tmp 32), type := 32, pos := "ref.go:232", after := #[{ on := 1, ground := Ground.data }], guard := none }) (v := ?_) rfl (by kernel_rfl) (by kernel_rfl) (by kernel_rfl) (fun _ _ _ h => h) (Or.inl ⟨by rfl, ?_⟩) (by assumption) ?_
        rotate_left
        · intro w hSw; (try dsimp only at hSw); first | (go_simp; done) | (go_simp; with_reducible rfl) | with_reducible rfl | rfl
        try simp only [Act.put, List.setIfInBounds_toArray, List.set_cons_succ, List.set_cons_zero]
        refine wpAnyH_take (i := 3) (oi := { dst := some 34, op := Op.move (Operand.tmp 2), type := 3, pos := "ref.go:232", after := #[], guard := none }) (v := ?_) rfl (by kernel_rfl) (by kernel_rfl) (by kernel_rfl) (fun _ _ _ h => h) (Or.inl ⟨by rfl, ?_⟩) (by assumption) ?_
        rotate_left
        · intro w hSw; (try dsimp only at hSw); first | (go_simp; done) | (go_simp; with_reducible rfl) | with_reducible rfl | rfl
        try simp only [Act.put, List.setIfInBounds_toArray, List.set_cons_succ, List.set_cons_zero]
        refine wpAnyH_take (i := 4) (oi := { dst := some 35, op := Op.indexAddr 32 (Operand.tmp 33) (Operand.tmp 34), type := 0, pos := "ref.go:232", after := #[{ on := 2, ground := Ground.data }, { on := 3, ground := Ground.data }], guard := none }) (v := ?_) rfl (by kernel_rfl) (by kernel_rfl) (by kernel_rfl) (fun _ _ _ h => h) (Or.inl ⟨by rfl, ?_⟩) (by assumption) ?_
        rotate_left
        · intro w hSw; (try dsimp only at hSw); first | (go_simp; done) | (go_simp; with_reducible rfl) | with_reducible rfl | rfl
        try simp only [Act.put, List.setIfInBounds_toArray, List.set_cons_succ, List.set_cons_zero]
        refine wpAnyH_take (i := 5) (oi := { dst := some 36, op := Op.fieldAddr 45 (Operand.tmp 35) 0, type := 0, pos := "ref.go:232", after := #[{ on := 4, ground := Ground.data }], guard := none }) (v := ?_) rfl (by kernel_rfl) (by kernel_rfl) (by kernel_rfl) (fun _ _ _ h => h) (Or.inl ⟨by rfl, ?_⟩) (by assumption) ?_
        rotate_left
        · intro w hSw; (try dsimp only at hSw); first | (go_simp; done) | (go_simp; with_reducible rfl) | with_reducible rfl | rfl
        try simp only [Act.put, List.setIfInBounds_toArray, List.set_cons_succ, List.set_cons_zero]
        refine wpAnyH_take (i := 6) (oi := { dst := some 37, op := Op.load 43 (Operand.tmp 36), type := 43, pos := "ref.go:232", after := #[{ on := 5, ground := Ground.data }], guard := none }) (v := ?_) rfl (by kernel_rfl) (by kernel_rfl) (by kernel_rfl) (fun _ _ _ h => h) (Or.inl ⟨by rfl, ?_⟩) (by assumption) ?_
        rotate_left
        · intro w hSw; (try dsimp only at hSw); first | (go_simp; done) | (go_simp; with_reducible rfl) | with_reducible rfl | rfl
        try simp only [Act.put, List.setIfInBounds_toArray, List.set_cons_succ, List.set_cons_zero]
        refine wpAnyH_ready (rs := [7, 11]) (by kernel_rfl) (by simp) ?_
        refine AllReadyH.cons (o := { dst := some 38, op := Op.call { callee := Callee.value (Operand.func 38), args := #[Operand.tmp 31, Operand.tmp 37], argTypes := #[29, 43] }, type := 100, pos := "ref.go:232", after := #[{ on := 0, ground := Ground.data }, { on := 6, ground := Ground.data }], guard := none }) rfl (fun K hK => ?_) ?_
        · refine held_call (by rfl) 38 _ _ (by rfl) hs38 [.agg #[.int .i64 p.dims, .int .i64 p.time.n, .slice ta p.time.cells.length tc, .int .i64 p.dist.n, .slice da p.dist.cells.length dc, .slice (some ⟨b, off, none⟩) p.vs.length vc, .slice ja p.js.length jc, .slice sa p.ss.length sc], .agg #[.int .i64 kd, .int .i64 it]] (by rfl) ?_; refine (H38q.out _ K0.out).mono ?_; rintro e u1 ⟨ya, yc, rfl, hwy, k9⟩; refine ⟨_, rfl, ?_⟩; have E1 := hide k9; have K1 := hide (below_on K0.out k9); clear k9
          have HWY1 := hide (hwy)
          refine hK.out _ _ ?_ (fun hHeld1 => ?_)
          · (try dsimp only); exact HS4.out _ K1.out
          clear hK K
          try simp only [Act.put, List.setIfInBounds_toArray, List.set_cons_succ, List.set_cons_zero]
          clear hHeld0
          refine wpAnyH_take (i := 8) (oi := { dst := some 30, op := Op.move (Operand.tmp 38), type := 100, pos := "ref.go:232", after := #[{ on := 7, ground := Ground.data }], guard := none }) (v := ?_) rfl (by kernel_rfl) (by kernel_rfl) (by kernel_rfl) (fun _ _ _ h => h) (Or.inl ⟨by rfl, ?_⟩) (by assumption) ?_
          rotate_left
          · intro w hSw; (try dsimp only at hSw); first | (go_simp; done) | (go_simp; with_reducible rfl) | with_reducible rfl | rfl
          try simp only [Act.put, List.setIfInBounds_toArray, List.set_cons_succ, List.set_cons_zero]
          refine wpAnyH_take (i := 9) (oi := { dst := some 39, op := Op.extract (Operand.tmp 30) 0, type := 86, pos := "ref.go:232", after := #[{ on := 8, ground := Ground.data }], guard := none }) (v := ?_) rfl (by kernel_rfl) (by kernel_rfl) (by kernel_rfl) (fun _ _ _ h => h) (Or.inl ⟨by rfl, ?_⟩) (by assumption) ?_
          rotate_left
          · intro w hSw; (try dsimp only at hSw); first | (go_simp; done) | (go_simp; with_reducible rfl) | with_reducible rfl | rfl
          try simp only [Act.put, List.setIfInBounds_toArray, List.set_cons_succ, List.set_cons_zero]
          refine wpAnyH_take (i := 10) (oi := { dst := some 40, op := Op.extract (Operand.tmp 30) 1, type := 4, pos := "ref.go:232", after := #[{ on := 8, ground := Ground.data }, { on := 12, ground := Ground.gcOnly Departure.lateStores }], guard := none }) (v := ?_) rfl (by kernel_rfl) (by kernel_rfl) (by kernel_rfl) (fun _ _ _ h => h) (Or.inl ⟨by rfl, ?_⟩) (by assumption) ?_
          rotate_left
          · intro w hSw; (try dsimp only at hSw); first | (go_simp; done) | (go_simp; with_reducible rfl) | with_reducible rfl | rfl
          try simp only [Act.put, List.setIfInBounds_toArray, List.set_cons_succ, List.set_cons_zero]
          refine wpAnyH_ready (rs := [11]) (by kernel_rfl) (by simp) ?_
          refine AllReadyH.cons (o := { dst := some 11, op := Op.alloc 86, type := 0, pos := "ref.go:232", after := #[], guard := none }) rfl (fun K hK => ?_) ?_
          · go_simp
            refine hK.out _ _ ?_ (fun hHeld2 => ?_)
            · (try dsimp only); exact HS4.out _ (below_on K1.out ((Below.refl _ _).alloc (Nat.le_refl _) _))
            clear hK K
            try simp only [Act.put, List.setIfInBounds_toArray, List.set_cons_succ, List.set_cons_zero]
            clear hHeld1
            have LT2 : Hid (u1.heap.size < (u1.alloc (.cells #[.int .i64 0, .int .i64 0, .slice none 0 0] 86)).heap.size) := (by show _ < _; simp)
            obtain ⟨u2, hu2⟩ : ∃ u, u1.alloc (.cells #[.int .i64 0, .int .i64 0, .slice none 0 0] 86) = u := ⟨_, rfl⟩
            rw [hu2]
            rw [hu2] at hHeld2 LT2
            have E2 : Hid (Below u1.heap.size u1 u2) := by show Below _ _ _; rw [← hu2]; exact ((Below.refl _ _).alloc (Nat.le_refl _) _)
            have K2 := hide (below_on K1.out E2.out)
            have HWY2 := hide (HWY1.out)
            clear HWY1
            have HX2 : Hid (u2.heap[u1.heap.size]? = some (.cells #[.int .i64 0, .int .i64 0, .slice none 0 0] 86)) := by show _ = _; rw [← hu2]; exact new_block _ _
            clear hu2
            refine wpAnyH_ready (rs := [12]) (by kernel_rfl) (by simp) ?_
            refine AllReadyH.cons (o := { dst := none, op := Op.store 86 (Operand.tmp 11) (Operand.tmp 39), type := 0, pos := "ref.go:232", after := #[{ on := 11, ground := Ground.data }, { on := 9, ground := Ground.data }, { on := 7, ground := Ground.chain }, { on := 0, ground := Ground.phase }, { on := 1, ground := Ground.phase }, { on := 2, ground := Ground.phase }, { on := 3, ground := Ground.phase }, { on := 4, ground := Ground.phase }, { on := 5, ground := Ground.phase }, { on := 6, ground := Ground.phase }, { on := 7, ground := Ground.phase }, { on := 8, ground := Ground.phase }, { on := 9, ground := Ground.phase }, { on := 10, ground := Ground.textOnly Departure.lateStores }, { on := 11, ground := Ground.phase }], guard := none }) rfl (fun K hK => ?_) ?_
            · refine held_store (by rfl) 86 (.tmp 11) (.tmp 39) (by rfl) (u1.heap.size) #[.int .i64 S0.place, .int .i64 S0.serv, .slice ya S0.wins.length yc] (by rfl) (by rfl) 86 _ HX2.out (by kernel_rfl) (by rfl) (by simp [Value.oneCell']) ?_
              obtain ⟨wz, hwz⟩ : ∃ z, (u2).setRow (u1.heap.size) #[.int .i64 S0.place, .int .i64 S0.serv, .slice ya S0.wins.length yc] = z := ⟨_, rfl⟩
              have hz1 : wz.heap[u1.heap.size]? = some (.cells #[.int .i64 S0.place, .int .i64 S0.serv, .slice ya S0.wins.length yc] 86 (0, 0)) := by rw [← hwz]; exact setRow_heap _ _ _ _ _ _ HX2.out
              have hz2 : (u2).grownBy wz (some (u1.heap.size)) := by rw [← hwz]; exact grw_row _ _ _
              rw [hwz]
              have HZ1 := hide hz1
              have HZ2 := hide hz2
              clear hwz hz1 hz2
              refine hK.out _ _ ?_ (fun hHeld3 => ?_)
              · (try dsimp only); exact HS4.out _ (K2.out.trans (grw_low HZ2.out K1.out.size K2.out.size))
              clear hK K
              try simp only [Act.put]
              clear hHeld2
              refine wpAnyH_take (i := 13) (oi := { dst := some 12, op := Op.assign (Operand.tmp 40), type := 4, pos := "ref.go:232", after := #[{ on := 10, ground := Ground.data }, { on := 12, ground := Ground.chain }, { on := 0, ground := Ground.phase }, { on := 1, ground := Ground.phase }, { on := 2, ground := Ground.phase }, { on := 3, ground := Ground.phase }, { on := 4, ground := Ground.phase }, { on := 5, ground := Ground.phase }, { on := 6, ground := Ground.phase }, { on := 7, ground := Ground.phase }, { on := 8, ground := Ground.phase }, { on := 9, ground := Ground.phase }, { on := 10, ground := Ground.phase }, { on := 11, ground := Ground.phase }, { on := 12, ground := Ground.phase }], guard := none }) (v := ?_) rfl (by kernel_rfl) (by kernel_rfl) (by kernel_rfl) (fun _ _ _ h => h) (Or.inl ⟨by rfl, ?_⟩) (by assumption) ?_
              rotate_left
              · intro w hSw; (try dsimp only at hSw); first | (go_simp; done) | (go_simp; with_reducible rfl) | with_reducible rfl | rfl
              try simp only [Act.put, List.setIfInBounds_toArray, List.set_cons_succ, List.set_cons_zero]
              refine wpAnyH_done (by kernel_rfl) ?_ _
              clear hHeld3
              go_wp2_with fail
              go_meet
              case rel => exact ⟨u1.heap.size, ya, yc, rfl, rfl, K1.out.size, HZ1.out, HWY2.out, K2.out.trans (grw_low HZ2.out K1.out.size K2.out.size)⟩
            exact AllReadyH.nil
          exact AllReadyH.nil
        refine AllReadyH.cons (o := { dst := some 11, op := Op.alloc 86, type := 0, pos := "ref.go:232", after := #[], guard := none }) rfl (fun K hK => ?_) ?_
        · go_simp
          refine hK.out _ _ ?_ (fun hHeld4 => ?_)
          · (try dsimp only); exact HS4.out _ (below_on K0.out ((Below.refl _ _).alloc (Nat.le_refl _) _))
          clear hK K
          try simp only [Act.put, List.setIfInBounds_toArray, List.set_cons_succ, List.set_cons_zero]
          clear hHeld0
          have LT1 : Hid (u0.heap.size < (u0.alloc (.cells #[.int .i64 0, .int .i64 0, .slice none 0 0] 86)).heap.size) := (by show _ < _; simp)
          obtain ⟨u1, hu1⟩ : ∃ u, u0.alloc (.cells #[.int .i64 0, .int .i64 0, .slice none 0 0] 86) = u := ⟨_, rfl⟩
          rw [hu1]
          rw [hu1] at hHeld4 LT1
          have E1 : Hid (Below u0.heap.size u0 u1) := by show Below _ _ _; rw [← hu1]; exact ((Below.refl _ _).alloc (Nat.le_refl _) _)
          have K1 := hide (below_on K0.out E1.out)
          have HX1 : Hid (u1.heap[u0.heap.size]? = some (.cells #[.int .i64 0, .int .i64 0, .slice none 0 0] 86)) := by show _ = _; rw [← hu1]; exact new_block _ _
          clear hu1
          refine wpAnyH_ready (rs := [7]) (by kernel_rfl) (by simp) ?_
          refine AllReadyH.cons (o := { dst := some 38, op := Op.call { callee := Callee.value (Operand.func 38), args := #[Operand.tmp 31, Operand.tmp 37], argTypes := #[29, 43] }, type := 100, pos := "ref.go:232", after := #[{ on := 0, ground := Ground.data }, { on := 6, ground := Ground.data }], guard := none }) rfl (fun K hK => ?_) ?_
          · refine held_call (by rfl) 38 _ _ (by rfl) hs38 [.agg #[.int .i64 p.dims, .int .i64 p.time.n, .slice ta p.time.cells.length tc, .int .i64 p.dist.n, .slice da p.dist.cells.length dc, .slice (some ⟨b, off, none⟩) p.vs.length vc, .slice ja p.js.length jc, .slice sa p.ss.length sc], .agg #[.int .i64 kd, .int .i64 it]] (by rfl) ?_; refine (H38q.out _ K1.out).mono ?_; rintro e u2 ⟨ya, yc, rfl, hwy, k9⟩; refine ⟨_, rfl, ?_⟩; have E2 := hide k9; have K2 := hide (below_on K1.out k9); clear k9
            have HX2 := hide ((E2.out.block _ (lt_of_block HX1.out)).trans HX1.out)
            clear HX1
            have HWY2 := hide (hwy)
            refine hK.out _ _ ?_ (fun hHeld5 => ?_)
            · (try dsimp only); exact HS4.out _ K2.out
            clear hK K
            try simp only [Act.put, List.setIfInBounds_toArray, List.set_cons_succ, List.set_cons_zero]
            clear hHeld4
            refine wpAnyH_take (i := 8) (oi := { dst := some 30, op := Op.move (Operand.tmp 38), type := 100, pos := "ref.go:232", after := #[{ on := 7, ground := Ground.data }], guard := none }) (v := ?_) rfl (by kernel_rfl) (by kernel_rfl) (by kernel_rfl) (fun _ _ _ h => h) (Or.inl ⟨by rfl, ?_⟩) (by assumption) ?_
            rotate_left
            · intro w hSw; (try dsimp only at hSw); first | (go_simp; done) | (go_simp; with_reducible rfl) | with_reducible rfl | rfl
            try simp only [Act.put, List.setIfInBounds_toArray, List.set_cons_succ, List.set_cons_zero]
            refine wpAnyH_take (i := 9) (oi := { dst := some 39, op := Op.extract (Operand.tmp 30) 0, type := 86, pos := "ref.go:232", after := #[{ on := 8, ground := Ground.data }], guard := none }) (v := ?_) rfl (by kernel_rfl) (by kernel_rfl) (by kernel_rfl) (fun _ _ _ h => h) (Or.inl ⟨by rfl, ?_⟩) (by assumption) ?_
            rotate_left
            · intro w hSw; (try dsimp only at hSw); first | (go_simp; done) | (go_simp; with_reducible rfl) | with_reducible rfl | rfl
            try simp only [Act.put, List.setIfInBounds_toArray, List.set_cons_succ, List.set_cons_zero]
            refine wpAnyH_take (i := 10) (oi := { dst := some 40, op := Op.extract (Operand.tmp 30) 1, type := 4, pos := "ref.go:232", after := #[{ on := 8, ground := Ground.data }, { on := 12, ground := Ground.gcOnly Departure.lateStores }], guard := none }) (v := ?_) rfl (by kernel_rfl) (by kernel_rfl) (by kernel_rfl) (fun _ _ _ h => h) (Or.inl ⟨by rfl, ?_⟩) (by assumption) ?_
            rotate_left
            · intro w hSw; (try dsimp only at hSw); first | (go_simp; done) | (go_simp; with_reducible rfl) | with_reducible rfl | rfl
            try simp only [Act.put, List.setIfInBounds_toArray, List.set_cons_succ, List.set_cons_zero]
            refine wpAnyH_ready (rs := [12]) (by kernel_rfl) (by simp) ?_
            refine AllReadyH.cons (o := { dst := none, op := Op.store 86 (Operand.tmp 11) (Operand.tmp 39), type := 0, pos := "ref.go:232", after := #[{ on := 11, ground := Ground.data }, { on := 9, ground := Ground.data }, { on := 7, ground := Ground.chain }, { on := 0, ground := Ground.phase }, { on := 1, ground := Ground.phase }, { on := 2, ground := Ground.phase }, { on := 3, ground := Ground.phase }, { on := 4, ground := Ground.phase }, { on := 5, ground := Ground.phase }, { on := 6, ground := Ground.phase }, { on := 7, ground := Ground.phase }, { on := 8, ground := Ground.phase }, { on := 9, ground := Ground.phase }, { on := 10, ground := Ground.textOnly Departure.lateStores }, { on := 11, ground := Ground.phase }], guard := none }) rfl (fun K hK => ?_) ?_
            · refine held_store (by rfl) 86 (.tmp 11) (.tmp 39) (by rfl) (u0.heap.size) #[.int .i64 S0.place, .int .i64 S0.serv, .slice ya S0.wins.length yc] (by rfl) (by rfl) 86 _ HX2.out (by kernel_rfl) (by rfl) (by simp [Value.oneCell']) ?_
              obtain ⟨wz, hwz⟩ : ∃ z, (u2).setRow (u0.heap.size) #[.int .i64 S0.place, .int .i64 S0.serv, .slice ya S0.wins.length yc] = z := ⟨_, rfl⟩
              have hz1 : wz.heap[u0.heap.size]? = some (.cells #[.int .i64 S0.place, .int .i64 S0.serv, .slice ya S0.wins.length yc] 86 (0, 0)) := by rw [← hwz]; exact setRow_heap _ _ _ _ _ _ HX2.out
              have hz2 : (u2).grownBy wz (some (u0.heap.size)) := by rw [← hwz]; exact grw_row _ _ _
              rw [hwz]
              have HZ1 := hide hz1
              have HZ2 := hide hz2
              clear hwz hz1 hz2
              refine hK.out _ _ ?_ (fun hHeld6 => ?_)
              · (try dsimp only); exact HS4.out _ (K2.out.trans (grw_low HZ2.out K0.out.size K2.out.size))
              clear hK K
              try simp only [Act.put]
              clear hHeld5
              refine wpAnyH_take (i := 13) (oi := { dst := some 12, op := Op.assign (Operand.tmp 40), type := 4, pos := "ref.go:232", after := #[{ on := 10, ground := Ground.data }, { on := 12, ground := Ground.chain }, { on := 0, ground := Ground.phase }, { on := 1, ground := Ground.phase }, { on := 2, ground := Ground.phase }, { on := 3, ground := Ground.phase }, { on := 4, ground := Ground.phase }, { on := 5, ground := Ground.phase }, { on := 6, ground := Ground.phase }, { on := 7, ground := Ground.phase }, { on := 8, ground := Ground.phase }, { on := 9, ground := Ground.phase }, { on := 10, ground := Ground.phase }, { on := 11, ground := Ground.phase }, { on := 12, ground := Ground.phase }], guard := none }) (v := ?_) rfl (by kernel_rfl) (by kernel_rfl) (by kernel_rfl) (fun _ _ _ h => h) (Or.inl ⟨by rfl, ?_⟩) (by assumption) ?_
              rotate_left
              · intro w hSw; (try dsimp only at hSw); first | (go_simp; done) | (go_simp; with_reducible rfl) | with_reducible rfl | rfl
              try simp only [Act.put, List.setIfInBounds_toArray, List.set_cons_succ, List.set_cons_zero]
              refine wpAnyH_done (by kernel_rfl) ?_ _
              clear hHeld6
              go_wp2_with fail
              go_meet
              case rel => exact ⟨u0.heap.size, ya, yc, rfl, rfl, K0.out.size, HZ1.out, HWY2.out, K2.out.trans (grw_low HZ2.out K0.out.size K2.out.size)⟩
            exact AllReadyH.nil
          exact AllReadyH.nil
        exact AllReadyH.nil
      case rest =>
      obtain ⟨x11, ya, yc, rfl, rfl, hx11, HX4, HWY, K4⟩ := hcut
      rename World => z4
      clear HS4 H38q
      have m21 : z4.cell? ⟨w.heap.size + 1, 1, none⟩ = some (.slice (some ⟨g, 0, none⟩) n c) := ((bcell K4.out).1 _ _ (lt_of_block HY2.out)).trans c21
      have mk0 : z4.cell? ⟨g, q * 9, none⟩ = some (.int .i64 kd) := ((bcell K4.out).1 _ _ hgw).trans hc0
      have mk1 : z4.cell? ⟨g, q * 9 + 1, none⟩ = some (.int .i64 it) := ((bcell K4.out).1 _ _ hgw).trans hc1
      have x40 : z4.cell? ⟨x11, 0, none⟩ = some (.int .i64 S0.place) := cell_of_row _ _ _ _ _ _ HX4.out
      have x41 : z4.cell? ⟨x11, 1, none⟩ = some (.int .i64 S0.serv) := cell_of_row _ _ _ _ _ _ HX4.out
      have x42 : z4.cell? ⟨x11, 2, none⟩ = some (.slice ya S0.wins.length yc) := cell_of_row _ _ _ _ _ _ HX4.out
      have f40 : z4.frozen? ⟨x11, 0, none⟩ = false := frozen_of_row _ _ _ _ _ HX4.out
      have f41 : z4.frozen? ⟨x11, 1, none⟩ = false := frozen_of_row _ _ _ _ _ HX4.out
      have f42 : z4.frozen? ⟨x11, 2, none⟩ = false := frozen_of_row _ _ _ _ _ HX4.out
      have HX11 := hide hx11
      go_upto_if 48 with fail
      go_cut [12, 13] from 41 to 65 (fun v12 v13 wx => ∃ (pl2 sv2 : Int) (ya : Option Addr) (yn yc : Nat), v12 = .bool bq ∧ Hid (wx.heap[x11]? = some (.cells #[.int .i64 pl2, .int .i64 sv2, .slice ya yn yc] 86 (0, 0))) ∧ Hid (q ≠ 0 → sv2 = se ∧ yn = (winS p v kd it).length ∧ WinsV w (.slice ya yn yc) (winS p v kd it)) ∧ Hid (Below wr.heap.size wr wx))
      case first =>
        by_cases hq0 : q = 0
        · obtain ⟨hk5, hi0, _⟩ := HZ0.out hq0
          have his : is0 = false := by rw [← HIS0.out, hk5, hi0]; rfl
          have hqd : bq = false := by rw [← HBQ.out]; exact decide_eq_false (fun h => h hq0)
          subst hqd
          subst hk5
          subst hi0
          subst his
          have HNQ : Hid (¬ q ≠ 0) := fun h => h hq0
          clear hq0
          go_wp2_with fail
          go_meet
          case rel => exact ⟨_, _, _, _, _, rfl, HX4.out, fun h => absurd h HNQ.out, K4.out⟩
        · have hqd : bq = true := by rw [← HBQ.out]; exact decide_eq_true hq0
          subst hqd
          have HNQ : Hid (q ≠ 0) := hq0
          clear hq0
          by_cases h4 : kd = 4
          · subst h4
            obtain ⟨bi, hbi, hbl, hse⟩ : ∃ bi : Nat, it = bi ∧ bi < v.brks.length ∧ se = (v.brks.getD bi bz).serv := by
              rcases HZ1.out HNQ.out with ⟨_, bi, h1, h2, h3⟩ | ⟨h1, _⟩
              · exact ⟨bi, h1, h2, h3⟩
              · exact absurd rfl h1
            subst hbi
            obtain ⟨b2, off2, y2, e2, e3, hb2, f0, f1, hwy⟩ := brk_cells HBK.out hbl
            subst e2
            rw [← hse] at f1
            obtain ⟨y2a, y2c, rfl, hy2n, hy2A⟩ := hwy
            have HWY2 : Hid (WinsV w (.slice y2a (v.brks.getD bi bz).wins.length y2c) (v.brks.getD bi bz).wins) := ⟨y2a, y2c, rfl, hy2n, hy2A⟩
            obtain ⟨y2n, hy2⟩ : ∃ z, (v.brks.getD bi bz).wins.length = z := ⟨_, rfl⟩
            rw [hy2] at f0 HWY2
            have HY2N := hide hy2
            have hlt1 : (bi : Int) < (lb : Int) := by omega
            have hlt0 : (0 : Int) ≤ (bi : Int) := by omega
            have m10 : z4.cell? ⟨w.heap.size + 1 + 1, 10, none⟩ = some (.slice (some ⟨b2, off2, none⟩) lb bc) := ((bcell K4.out).1 _ _ (lt_of_block HY3.out)).trans (cell_of_row _ _ _ _ _ _ HY3.out)
            have g0 : z4.cell? ⟨b2, off2 + bi * 2, none⟩ = some (.slice y2a y2n y2c) := ((bcell (HBR.out _ K4.out)).1 _ _ hb2).trans f0
            have g1 : z4.cell? ⟨b2, off2 + bi * 2 + 1, none⟩ = some (.int .i64 se) := ((bcell (HBR.out _ K4.out)).1 _ _ hb2).trans f1
            have hb2z : b2 < z4.heap.size := by have h1 := (HBR.out _ K4.out).size; omega
            have hgz : g < z4.heap.size := by have h1 := K4.out.size; omega
            clear f0 f1 hy2n hy2A e3 hy2 hse
            have HS6 : Hid (∀ w', Below z4.heap.size z4 w' → w'.cell? ⟨w.heap.size + 1 + 1, 10, none⟩ = some (.slice (some ⟨b2, off2, none⟩) lb bc) ∧ w'.cell? ⟨w.heap.size + 1, 1, none⟩ = some (.slice (some ⟨g, 0, none⟩) n c) ∧ w'.cell? ⟨g, q * 9 + 1, none⟩ = some (.int .i64 (bi : Int)) ∧ w'.cell? ⟨b2, off2 + bi * 2, none⟩ = some (.slice y2a y2n y2c) ∧ w'.cell? ⟨b2, off2 + bi * 2 + 1, none⟩ = some (.int .i64 se)) := fun w' hf => ⟨((bcell hf).1 _ _ (Nat.lt_of_lt_of_le (lt_of_block HY3.out) K4.out.size)).trans m10, ((bcell hf).1 _ _ (Nat.lt_of_lt_of_le (lt_of_block HY2.out) K4.out.size)).trans m21, ((bcell hf).1 _ _ hgz).trans mk1, ((bcell hf).1 _ _ hb2z).trans g0, ((bcell hf).1 _ _ hb2z).trans g1⟩
            go_upto_region 6 with fail
            refine wp_region_held_drew (S := (fun w' => w'.cell? ⟨w.heap.size + 1 + 1, 10, none⟩ = some (.slice (some ⟨b2, off2, none⟩) lb bc) ∧ w'.cell? ⟨w.heap.size + 1, 1, none⟩ = some (.slice (some ⟨g, 0, none⟩) n c) ∧ w'.cell? ⟨g, q * 9 + 1, none⟩ = some (.int .i64 (bi : Int)) ∧ w'.cell? ⟨b2, off2 + bi * 2, none⟩ = some (.slice y2a y2n y2c) ∧ w'.cell? ⟨b2, off2 + bi * 2 + 1, none⟩ = some (.int .i64 se))) (by kernel_rfl) ?_ (fun hHeld0 => ?_)
            · (try dsimp only); first | fail | exact HS6.out _ (Below.refl _ _) | exact HS6.out _ ((Below.refl _ _).drew) | (go_keep; done)
            obtain ⟨u0, hu0⟩ : ∃ u, z4.drew = u := ⟨_, rfl⟩
            rw [hu0]
            rw [hu0] at hHeld0
            have K0 : Hid (Below z4.heap.size z4 u0) := by show Below _ _ _; rw [← hu0]; exact ((Below.refl _ _).drew)
            clear hu0
            refine wpAnyH_take (i := 0) (oi := { dst := some 49, op := Op.fieldAddr 58 (Operand.tmp 10) 9, type := 0, pos := "ref.go:234", after := #[], guard := none }) (v := ?_) rfl (by kernel_rfl) (by kernel_rfl) (by kernel_rfl) (fun _ _ _ h => h) (Or.inl ⟨by rfl, ?_⟩) (by assumption) ?_
            rotate_left
            · intro w hSw; (try dsimp only at hSw); first | (go_simp; done) | (go_simp; with_reducible rfl) | with_reducible rfl | rfl
            try simp only [Act.put, List.setIfInBounds_toArray, List.set_cons_succ, List.set_cons_zero]
            refine wpAnyH_take (i := 1) (oi := { dst := some 50, op := Op.load 56 (Operand.tmp 49), type := 56, pos := "ref.go:234", after := #[{ on := 0, ground := Ground.data }], guard := none }) (v := ?_) rfl (by kernel_rfl) (by kernel_rfl) (by kernel_rfl) (fun _ _ _ h => h) (Or.inl ⟨by rfl, ?_⟩) (by assumption) ?_
            rotate_left
            · intro w hSw; (try dsimp only at hSw); first | (go_simp; done) | (go_simp; with_reducible rfl) | with_reducible rfl | rfl
            try simp only [Act.put, List.setIfInBounds_toArray, List.set_cons_succ, List.set_cons_zero]
            refine wpAnyH_take (i := 2) (oi := { dst := some 51, op := Op.fieldAddr 34 (Operand.tmp 5) 1, type := 0, pos := "ref.go:234", after := #[], guard := none }) (v := ?_) rfl (by kernel_rfl) (by kernel_rfl) (by kernel_rfl) (fun _ _ _ h => h) (Or.inl ⟨by rfl, ?_⟩) (by assumption) ?_
            rotate_left
            · intro w hSw; (try dsimp only at hSw); first | (go_simp; done) | (go_simp; with_reducible rfl) | with_reducible rfl | rfl
            try simp only [Act.put, List.setIfInBounds_toArray, List.set_cons_succ, List.set_cons_zero]
            refine wpAnyH_take (i := 3) (oi := { dst := some 52, op := Op.load 32 (Operand.tmp 51), type := 32, pos := "ref.go:234", after := #[{ on := 2, ground := Ground.data }], guard := none }) (v := ?_) rfl (by kernel_rfl) (by kernel_rfl) (by kernel_rfl) (fun _ _ _ h => h) (Or.inl ⟨by rfl, ?_⟩) (by assumption) ?_
            rotate_left
            · intro w hSw; (try dsimp only at hSw); first | (go_simp; done) | (go_simp; with_reducible rfl) | with_reducible rfl | rfl
            try simp only [Act.put, List.setIfInBounds_toArray, List.set_cons_succ, List.set_cons_zero]
            refine wpAnyH_take (i := 4) (oi := { dst := some 53, op := Op.move (Operand.tmp 2), type := 3, pos := "ref.go:234", after := #[], guard := none }) (v := ?_) rfl (by kernel_rfl) (by kernel_rfl) (by kernel_rfl) (fun _ _ _ h => h) (Or.inl ⟨by rfl, ?_⟩) (by assumption) ?_
            rotate_left
            · intro w hSw; (try dsimp only at hSw); first | (go_simp; done) | (go_simp; with_reducible rfl) | with_reducible rfl | rfl
            try simp only [Act.put, List.setIfInBounds_toArray, List.set_cons_succ, List.set_cons_zero]
            refine wpAnyH_take (i := 5) (oi := { dst := some 54, op := Op.indexAddr 32 (Operand.tmp 52) (Operand.tmp 53), type := 0, pos := "ref.go:234", after := #[{ on := 3, ground := Ground.data }, { on := 4, ground := Ground.data }], guard := none }) (v := ?_) rfl (by kernel_rfl) (by kernel_rfl) (by kernel_rfl) (fun _ _ _ h => h) (Or.inl ⟨by rfl, ?_⟩) (by assumption) ?_
            rotate_left
            · intro w hSw; (try dsimp only at hSw); first | (go_simp; done) | (go_simp; with_reducible rfl) | with_reducible rfl | rfl
            try simp only [Act.put, List.setIfInBounds_toArray, List.set_cons_succ, List.set_cons_zero]
            refine wpAnyH_take (i := 6) (oi := { dst := some 55, op := Op.fieldAddr 45 (Operand.tmp 54) 0, type := 0, pos := "ref.go:234", after := #[{ on := 5, ground := Ground.data }], guard := none }) (v := ?_) rfl (by kernel_rfl) (by kernel_rfl) (by kernel_rfl) (fun _ _ _ h => h) (Or.inl ⟨by rfl, ?_⟩) (by assumption) ?_
            rotate_left
            · intro w hSw; (try dsimp only at hSw); first | (go_simp; done) | (go_simp; with_reducible rfl) | with_reducible rfl | rfl
            try simp only [Act.put, List.setIfInBounds_toArray, List.set_cons_succ, List.set_cons_zero]
            refine wpAnyH_take (i := 7) (oi := { dst := some 56, op := Op.fieldAddr 43 (Operand.tmp 55) 1, type := 0, pos := "ref.go:234", after := #[{ on := 6, ground := Ground.data }], guard := none }) (v := ?_) rfl (by kernel_rfl) (by kernel_rfl) (by kernel_rfl) (fun _ _ _ h => h) (Or.inl ⟨by rfl, ?_⟩) (by assumption) ?_
            rotate_left
            · intro w hSw; (try dsimp only at hSw); first | (go_simp; done) | (go_simp; with_reducible rfl) | with_reducible rfl | rfl
            try simp only [Act.put, List.setIfInBounds_toArray, List.set_cons_succ, List.set_cons_zero]
            refine wpAnyH_take (i := 8) (oi := { dst := some 57, op := Op.load 3 (Operand.tmp 56), type := 3, pos := "ref.go:234", after := #[{ on := 7, ground := Ground.data }], guard := none }) (v := ?_) rfl (by kernel_rfl) (by kernel_rfl) (by kernel_rfl) (fun _ _ _ h => h) (Or.inl ⟨by rfl, ?_⟩) (by assumption) ?_
            rotate_left
            · intro w hSw; (try dsimp only at hSw); first | (go_simp; done) | (go_simp; with_reducible rfl) | with_reducible rfl | rfl
            try simp only [Act.put, List.setIfInBounds_toArray, List.set_cons_succ, List.set_cons_zero]
            refine wpAnyH_take (i := 9) (oi := { dst := some 58, op := Op.indexAddr 56 (Operand.tmp 50) (Operand.tmp 57), type := 0, pos := "ref.go:234", after := #[{ on := 1, ground := Ground.data }, { on := 8, ground := Ground.data }], guard := none }) (v := ?_) rfl (by kernel_rfl) (by kernel_rfl) (by kernel_rfl) (fun _ _ _ h => h) (Or.inl ⟨by rfl, ?_⟩) (by assumption) ?_
            rotate_left
            · intro w hSw; (try dsimp only at hSw); first | (go_simp; done) | (go_simp; with_reducible rfl) | with_reducible rfl | rfl
            try simp only [Act.put, List.setIfInBounds_toArray, List.set_cons_succ, List.set_cons_zero]
            refine wpAnyH_take (i := 10) (oi := { dst := some 59, op := Op.load 95 (Operand.tmp 58), type := 95, pos := "ref.go:234", after := #[{ on := 9, ground := Ground.data }], guard := none }) (v := ?_) rfl (by kernel_rfl) (by kernel_rfl) (by kernel_rfl) (fun _ _ _ h => h) (Or.inl ⟨by rfl, ?_⟩) (by assumption) ?_
            rotate_left
            · intro w hSw; (try dsimp only at hSw); first | (go_simp; done) | (go_simp; with_reducible rfl) | with_reducible rfl | rfl
            try simp only [Act.put, List.setIfInBounds_toArray, List.set_cons_succ, List.set_cons_zero]
            refine wpAnyH_ready (rs := [11]) (by kernel_rfl) (by simp) ?_
            refine AllReadyH.cons (o := { dst := some 13, op := Op.alloc 95, type := 0, pos := "ref.go:234", after := #[], guard := none }) rfl (fun K hK => ?_) ?_
            · go_simp
              refine hK.out _ _ ?_ (fun hHeld1 => ?_)
              · (try dsimp only); exact HS6.out _ (below_on K0.out ((Below.refl _ _).alloc (Nat.le_refl _) _))
              clear hK K
              try simp only [Act.put, List.setIfInBounds_toArray, List.set_cons_succ, List.set_cons_zero]
              clear hHeld0
              have LT1 : Hid (u0.heap.size < (u0.alloc (.cells #[.slice none 0 0, .int .i64 0] 95)).heap.size) := (by show _ < _; simp)
              obtain ⟨u1, hu1⟩ : ∃ u, u0.alloc (.cells #[.slice none 0 0, .int .i64 0] 95) = u := ⟨_, rfl⟩
              rw [hu1]
              rw [hu1] at hHeld1 LT1
              have E1 : Hid (Below u0.heap.size u0 u1) := by show Below _ _ _; rw [← hu1]; exact ((Below.refl _ _).alloc (Nat.le_refl _) _)
              have K1 := hide (below_on K0.out E1.out)
              have HX1 : Hid (u1.heap[u0.heap.size]? = some (.cells #[.slice none 0 0, .int .i64 0] 95)) := by show _ = _; rw [← hu1]; exact new_block _ _
              clear hu1
              refine wpAnyH_ready (rs := [12]) (by kernel_rfl) (by simp) ?_
              refine AllReadyH.cons (o := { dst := none, op := Op.store 95 (Operand.tmp 13) (Operand.tmp 59), type := 0, pos := "ref.go:234", after := #[{ on := 11, ground := Ground.data }, { on := 10, ground := Ground.data }, { on := 0, ground := Ground.phase }, { on := 1, ground := Ground.phase }, { on := 2, ground := Ground.phase }, { on := 3, ground := Ground.phase }, { on := 4, ground := Ground.phase }, { on := 5, ground := Ground.phase }, { on := 6, ground := Ground.phase }, { on := 7, ground := Ground.phase }, { on := 8, ground := Ground.phase }, { on := 9, ground := Ground.phase }, { on := 10, ground := Ground.phase }, { on := 11, ground := Ground.phase }], guard := none }) rfl (fun K hK => ?_) ?_
              · refine held_store (by rfl) 95 (.tmp 13) (.tmp 59) (by rfl) (u0.heap.size) #[.slice y2a y2n y2c, .int .i64 se] (by rfl) (by rfl) 95 _ HX1.out (by kernel_rfl) (by rfl) (by simp [Value.oneCell']) ?_
                obtain ⟨wz, hwz⟩ : ∃ z, (u1).setRow (u0.heap.size) #[.slice y2a y2n y2c, .int .i64 se] = z := ⟨_, rfl⟩
                have hz1 : wz.heap[u0.heap.size]? = some (.cells #[.slice y2a y2n y2c, .int .i64 se] 95 (0, 0)) := by rw [← hwz]; exact setRow_heap _ _ _ _ _ _ HX1.out
                have hz2 : (u1).grownBy wz (some (u0.heap.size)) := by rw [← hwz]; exact grw_row _ _ _
                rw [hwz]
                have HZ1 := hide hz1
                have HZ2 := hide hz2
                clear hwz hz1 hz2
                refine hK.out _ _ ?_ (fun hHeld2 => ?_)
                · (try dsimp only); exact HS6.out _ (K1.out.trans (grw_low HZ2.out K0.out.size K1.out.size))
                clear hK K
                try simp only [Act.put]
                clear hHeld1
                refine wpAnyH_done (by kernel_rfl) ?_ _
                clear hHeld2
                have KZ := hide (K1.out.trans (grw_low HZ2.out K0.out.size K1.out.size))
                have hx11z := lt_of_block HX4.out
                have HX6 := hide ((KZ.out.block _ hx11z).trans HX4.out)
                have x60 : wz.cell? ⟨x11, 0, none⟩ = some (.int .i64 S0.place) := cell_of_row _ _ _ _ _ _ HX6.out
                have x61 : wz.cell? ⟨x11, 1, none⟩ = some (.int .i64 S0.serv) := cell_of_row _ _ _ _ _ _ HX6.out
                have x62 : wz.cell? ⟨x11, 2, none⟩ = some (.slice ya S0.wins.length yc) := cell_of_row _ _ _ _ _ _ HX6.out
                have y60 : wz.frozen? ⟨x11, 0, none⟩ = false := frozen_of_row _ _ _ _ _ HX6.out
                have y61 : wz.frozen? ⟨x11, 1, none⟩ = false := frozen_of_row _ _ _ _ _ HX6.out
                have y62 : wz.frozen? ⟨x11, 2, none⟩ = false := frozen_of_row _ _ _ _ _ HX6.out
                have q60 : wz.cell? ⟨u0.heap.size, 0, none⟩ = some (.slice y2a y2n y2c) := cell_of_row _ _ _ _ _ _ HZ1.out
                have q61 : wz.cell? ⟨u0.heap.size, 1, none⟩ = some (.int .i64 se) := cell_of_row _ _ _ _ _ _ HZ1.out
                clear x40 f40 x41 f41 x42 f42
                go_wp2_with fail
                go_meet
                case rel =>
                 obtain ⟨wy, hwy, hy1, hy2⟩ := put3 (.int .i64 0) (.int .i64 se) (.slice y2a y2n y2c) HX6.out
                 rw [← hwy]
                 refine ⟨0, se, y2a, y2n, y2c, rfl, hy1, fun _ => ⟨rfl, ?_, ?_⟩, (below_on K4.out KZ.out).trans (grw_low hy2 HX11.out (below_on K4.out KZ.out).size)⟩
                 · unfold winS; rw [if_pos rfl, Int.toNat_natCast]; exact HY2N.out.symm
                 · unfold winS; rw [if_pos rfl, Int.toNat_natCast]; exact HWY2.out
              exact AllReadyH.nil
            exact AllReadyH.nil
          · obtain ⟨hth, hse⟩ : thereV p kd it = true ∧ se = (stpM p kd it).serv := by
              rcases HZ1.out HNQ.out with ⟨h1, _⟩ | ⟨_, h2, h3⟩
              · exact absurd h1 h4
              · exact ⟨h2, h3⟩
            have his : is0 = true := by rw [← HIS0.out]; exact hth
            subst his
            have hkd : (kd == 4) = false := by simpa using h4
            have HW9 : Hid (S0.serv = se ∧ S0.wins.length = (winS p v kd it).length ∧ WinsV w (.slice ya S0.wins.length yc) (winS p v kd it)) := by
              have e9 : winS p v kd it = S0.wins := by unfold winS; rw [if_neg h4, HS0.out]
              rw [e9]
              exact ⟨by rw [← HS0.out]; exact hse.symm, rfl, HWY.out⟩
            clear hth hse
            go_wp2_with fail
            go_meet
            case rel => exact ⟨_, _, _, _, _, rfl, HX4.out, fun _ => HW9.out, K4.out⟩
      case rest =>
      obtain ⟨pl2, sv2, ya, yn, yc, rfl, HX5, HW5, K5⟩ := hcut
      rename World => z5
      clear m21 mk0 mk1 x40 f40 x41 f41 x42 f42
      have x50 : z5.cell? ⟨x11, 0, none⟩ = some (.int .i64 pl2) := cell_of_row _ _ _ _ _ _ HX5.out
      have x51 : z5.cell? ⟨x11, 1, none⟩ = some (.int .i64 sv2) := cell_of_row _ _ _ _ _ _ HX5.out
      have x52 : z5.cell? ⟨x11, 2, none⟩ = some (.slice ya yn yc) := cell_of_row _ _ _ _ _ _ HX5.out
      go_upto_if 65 with fail
      go_cut [3, 14, 15] from 65 to 79 (fun v3 v14 v15 wx => ∃ tb : Int, v3 = .int .i64 tb ∧ (-1000000000 ≤ tb ∧ (tb = tq ∧ q = 0 ∨ tb ≤ 2000000)) ∧ Hid (endG cl (G.drop (q + 1)) (tb + cm) = E) ∧ Hid (Below wr.heap.size wr wx))
      case first =>
        obtain ⟨hE1, htl, hth⟩ := HI.out
        by_cases hq0 : q = 0
        · have hqd : bq = false := by rw [← HBQ.out]; exact decide_eq_false (fun h => h hq0)
          subst hqd
          obtain ⟨_, _, hse0⟩ := HZ0.out hq0
          have HEE : Hid (endG cl (G.drop (q + 1)) (tq + cm) = E) := by
            have h9 := HES.out
            rw [if_pos hq0] at h9
            show _ = _
            rw [h9, hse0, Int.zero_add]
            rfl
          have HQ0 := hide hq0
          clear hq0
          go_wp2_with fail
          go_meet
          case rel => exact ⟨tq, rfl, ⟨htl, .inl ⟨rfl, HQ0.out⟩⟩, HEE.out, K5.out⟩
        · have hqd : bq = true := by rw [← HBQ.out]; exact decide_eq_true hq0
          subst hqd
          obtain ⟨rfl, hyn, hwv⟩ := HW5.out hq0
          obtain ⟨LW, hLW⟩ : ∃ z, winS p v kd it = z := ⟨_, rfl⟩
          have h9 := HES.out
          have hg9 := HG9.out
          rw [if_neg hq0, hLW] at h9 hg9
          rw [hLW] at hyn hwv
          subst hyn
          have hok := HV.out.rt.ok _ (List.mem_of_getElem? hg9) LW rfl
          have H39q : Hid (Calls Try.prog 39 #[.slice ya LW.length yc, .int .i64 tq] z5 fun e w' => e = .returned (.tuple #[.int .i64 (Hr.startM tq LW).1, .bool (Hr.startM tq LW).2]) ∧ Below z5.heap.size z5 w') := H39.out z5 (HBR.out _ K5.out) ya yc LW hwv hok tq
          have hE9 : E = (if (Hr.startM tq LW).2 = true then endG cl (G.drop (q + 1)) ((Hr.startM tq LW).1 + (sv2 + cm)) else none) := h9
          have hsg := Hr.start_ge hok tq
          obtain ⟨r1, hr1⟩ : ∃ z, (Hr.startM tq LW).1 = z := ⟨_, rfl⟩
          obtain ⟨r2, hr2⟩ : ∃ z, (Hr.startM tq LW).2 = z := ⟨_, rfl⟩
          rw [hr1, hr2] at H39q hE9 hsg
          obtain ⟨lw, hlw⟩ : ∃ z, LW.length = z := ⟨_, rfl⟩
          rw [hlw] at x52 HX5 H39q
          clear h9 hg9 hr1 hr2 hwv hok hlw hLW
          cases r2 with
          | false =>
            have HEN : Hid (E = none) := by show _ = _; rw [hE9]; rfl
            clear hE9 hsg
            go_wp2_with (first | (go_at_call 39; refine H39q.out.mono ?_; rintro e z6 ⟨rfl, kk⟩; have K6 := hide (below_on K5.out kk); clear kk) | fail)
            go_ret2
            exact ⟨0, by rw [HEN.out]; rfl, fun z hz => by rw [HEN.out] at hz; (first | cases hz | skip), HBR.out _ K6.out⟩
          | true =>
            obtain ⟨q1, q2, q3⟩ := hsg rfl
            rw [if_pos rfl] at hE9
            have HEE : Hid (endG cl (G.drop (q + 1)) ((r1 + sv2) + cm) = E) := by show _ = _; rw [hE9, Int.add_assoc]
            have jw : IntKind.i64.wrap (r1 + sv2) = r1 + sv2 := by rw [IntKind.wrap_i64]; omega
            have jb : -1000000000 ≤ r1 + sv2 ∧ r1 + sv2 ≤ 2000000 := by omega
            clear hE9 hsg
            go_wp2_with (first | (go_at_call 39; refine H39q.out.mono ?_; rintro e z6 ⟨rfl, kk⟩; have K6 := hide (below_on K5.out kk); have x61 : z6.cell? ⟨x11, 1, none⟩ = some (.int .i64 sv2) := ((bcell kk).1 _ _ (lt_of_block HX5.out)).trans x51; clear kk) | fail)
            go_meet
            case rel => exact ⟨r1 + sv2, rfl, ⟨jb.1, .inr jb.2⟩, HEE.out, K6.out⟩
      case rest =>
      obtain ⟨tb, rfl, htb, HE7, K7⟩ := hcut
      rename World => z7
      clear x50 x51 x52 HX5 HW5 K5 HX4 K4
      obtain ⟨hE1, htl, hth⟩ := HI.out
      obtain ⟨q9, hq9⟩ : ∃ z, q + 1 = z := ⟨_, rfl⟩
      rw [hq9] at hc3 HE7
      have HQ9 := hide hq9
      have HS13 : Hid (∀ w', Below wr.heap.size wr w' → w'.cell? ⟨w.heap.size, 1, none⟩ = some (.int .i64 p.time.n) ∧ w'.cell? ⟨w.heap.size, 2, none⟩ = some (.slice ta p.time.cells.length tc) ∧ w'.cell? ⟨w.heap.size + 1, 1, none⟩ = some (.slice (some ⟨g, 0, none⟩) n c) ∧ w'.cell? ⟨g, q * 9 + 2, none⟩ = some (.int .i64 p1) ∧ w'.cell? ⟨g, q9 * 9 + 2, none⟩ = some (.int .i64 p2)) := fun w' hf => ⟨((bcell hf).1 _ _ (lt_of_block HY1.out)).trans (cell_of_row _ _ _ _ _ _ HY1.out), ((bcell hf).1 _ _ (lt_of_block HY1.out)).trans (cell_of_row _ _ _ _ _ _ HY1.out), ((bcell hf).1 _ _ (lt_of_block HY2.out)).trans (cell_of_row _ _ _ _ _ _ HY2.out), ((bcell hf).1 _ _ hgw).trans hc2, ((bcell hf).1 _ _ hgw).trans hc3⟩
      have HS7 : Hid (∀ w', Below z7.heap.size z7 w' → w'.cell? ⟨w.heap.size, 1, none⟩ = some (.int .i64 p.time.n) ∧ w'.cell? ⟨w.heap.size, 2, none⟩ = some (.slice ta p.time.cells.length tc) ∧ w'.cell? ⟨w.heap.size + 1, 1, none⟩ = some (.slice (some ⟨g, 0, none⟩) n c) ∧ w'.cell? ⟨g, q * 9 + 2, none⟩ = some (.int .i64 p1) ∧ w'.cell? ⟨g, q9 * 9 + 2, none⟩ = some (.int .i64 p2)) := fun w' hf => HS13.out w' (below_on K7.out hf)
      have H40q : Hid (∀ W2, Below z7.heap.size z7 W2 → Calls Try.prog 40 #[.agg #[.int .i64 p.time.n, .slice ta p.time.cells.length tc], .int .i64 p1, .int .i64 p2] W2 fun e w' => e = .returned (.int .i64 cm) ∧ Below W2.heap.size W2 w') := fun W2 hf => by
        have h9 := H40.out W2 (HBR.out _ (below_on K7.out hf)) p1 p2
        rw [HCM.out] at h9
        exact h9
      have HTB : Hid (-1000000000 ≤ tb + cm ∧ tb + cm ≤ 1100000000) := by
        show _ ∧ _
        rcases htb with ⟨h1, ⟨h2, h3⟩ | h2⟩
        · subst h2; omega
        · omega
      have jw : IntKind.i64.wrap (tb + cm) = tb + cm := by rw [IntKind.wrap_i64]; have h1 := HTB.out; omega
      have jq : IntKind.i64.wrap ((q : Int) + 1) = (q9 : Int) := by rw [IntKind.wrap_i64]; have h1 := HHI.out; omega
      have jq2 : (q9 : Int) < (n : Int) := by have h1 := HNM.out; omega
      have jq3 : (0 : Int) ≤ (q9 : Int) := by omega
      clear hq9 hc0 hc1 hc2 hc3 c21 hce hsv htb
      go_upto_region 13 with fail
      refine wp_region_held_drew (S := (fun w' => w'.cell? ⟨w.heap.size, 1, none⟩ = some (.int .i64 p.time.n) ∧ w'.cell? ⟨w.heap.size, 2, none⟩ = some (.slice ta p.time.cells.length tc) ∧ w'.cell? ⟨w.heap.size + 1, 1, none⟩ = some (.slice (some ⟨g, 0, none⟩) n c) ∧ w'.cell? ⟨g, q * 9 + 2, none⟩ = some (.int .i64 p1) ∧ w'.cell? ⟨g, q9 * 9 + 2, none⟩ = some (.int .i64 p2))) (by kernel_rfl) ?_ (fun hHeld0 => ?_)
      · (try dsimp only); first | fail | exact HS7.out _ (Below.refl _ _) | exact HS7.out _ ((Below.refl _ _).drew) | (go_keep; done)
      obtain ⟨u0, hu0⟩ : ∃ u, z7.drew = u := ⟨_, rfl⟩
      rw [hu0]
      rw [hu0] at hHeld0
      have K0 : Hid (Below z7.heap.size z7 u0) := by show Below _ _ _; rw [← hu0]; exact ((Below.refl _ _).drew)
      clear hu0
      refine wpAnyH_take (i := 0) (oi := { dst := some 79, op := Op.move (Operand.tmp 3), type := 3, pos := "ref.go:244", after := #[], guard := none }) (v := ?_) rfl (by kernel_rfl) (by kernel_rfl) (by kernel_rfl) (fun _ _ _ h => h) (Or.inl ⟨by rfl, ?_⟩) (by assumption) ?_
      rotate_left
      · intro w hSw; (try dsimp only at hSw); first | (go_simp; done) | (go_simp; with_reducible rfl) | with_reducible rfl | rfl
      try simp only [Act.put, List.setIfInBounds_toArray, List.set_cons_succ, List.set_cons_zero]
      refine wpAnyH_take (i := 1) (oi := { dst := some 80, op := Op.fieldAddr 29 (Operand.tmp 4) 1, type := 0, pos := "ref.go:244", after := #[], guard := none }) (v := ?_) rfl (by kernel_rfl) (by kernel_rfl) (by kernel_rfl) (fun _ _ _ h => h) (Or.inl ⟨by rfl, ?_⟩) (by assumption) ?_
      rotate_left
      · intro w hSw; (try dsimp only at hSw); first | (go_simp; done) | (go_simp; with_reducible rfl) | with_reducible rfl | rfl
      try simp only [Act.put, List.setIfInBounds_toArray, List.set_cons_succ, List.set_cons_zero]
      refine wpAnyH_take (i := 2) (oi := { dst := some 81, op := Op.load 24 (Operand.tmp 80), type := 24, pos := "ref.go:244", after := #[{ on := 1, ground := Ground.data }], guard := none }) (v := ?_) rfl (by kernel_rfl) (by kernel_rfl) (by kernel_rfl) (fun _ _ _ h => h) (Or.inl ⟨by rfl, ?_⟩) (by assumption) ?_
      rotate_left
      · intro w hSw; (try dsimp only at hSw); first | (go_simp; done) | (go_simp; with_reducible rfl) | with_reducible rfl | rfl
      try simp only [Act.put, List.setIfInBounds_toArray, List.set_cons_succ, List.set_cons_zero]
      refine wpAnyH_take (i := 3) (oi := { dst := some 82, op := Op.fieldAddr 34 (Operand.tmp 5) 1, type := 0, pos := "ref.go:244", after := #[], guard := none }) (v := ?_) rfl (by kernel_rfl) (by kernel_rfl) (by kernel_rfl) (fun _ _ _ h => h) (Or.inl ⟨by rfl, ?_⟩) (by assumption) ?_
      rotate_left
      · intro w hSw; (try dsimp only at hSw); first | (go_simp; done) | (go_simp; with_reducible rfl) | with_reducible rfl | rfl
      try simp only [Act.put, List.setIfInBounds_toArray, List.set_cons_succ, List.set_cons_zero]
      refine wpAnyH_take (i := 4) (oi := { dst := some 83, op := Op.load 32 (Operand.tmp 82), type := 32, pos := "ref.go:244", after := #[{ on := 3, ground := Ground.data }], guard := none }) (v := ?_) rfl (by kernel_rfl) (by kernel_rfl) (by kernel_rfl) (fun _ _ _ h => h) (Or.inl ⟨by rfl, ?_⟩) (by assumption) ?_
      rotate_left
      · intro w hSw; (try dsimp only at hSw); first | (go_simp; done) | (go_simp; with_reducible rfl) | with_reducible rfl | rfl
      try simp only [Act.put, List.setIfInBounds_toArray, List.set_cons_succ, List.set_cons_zero]
      refine wpAnyH_take (i := 5) (oi := { dst := some 84, op := Op.move (Operand.tmp 2), type := 3, pos := "ref.go:244", after := #[], guard := none }) (v := ?_) rfl (by kernel_rfl) (by kernel_rfl) (by kernel_rfl) (fun _ _ _ h => h) (Or.inl ⟨by rfl, ?_⟩) (by assumption) ?_
      rotate_left
      · intro w hSw; (try dsimp only at hSw); first | (go_simp; done) | (go_simp; with_reducible rfl) | with_reducible rfl | rfl
      try simp only [Act.put, List.setIfInBounds_toArray, List.set_cons_succ, List.set_cons_zero]
      refine wpAnyH_take (i := 6) (oi := { dst := some 85, op := Op.indexAddr 32 (Operand.tmp 83) (Operand.tmp 84), type := 0, pos := "ref.go:244", after := #[{ on := 4, ground := Ground.data }, { on := 5, ground := Ground.data }], guard := none }) (v := ?_) rfl (by kernel_rfl) (by kernel_rfl) (by kernel_rfl) (fun _ _ _ h => h) (Or.inl ⟨by rfl, ?_⟩) (by assumption) ?_
      rotate_left
      · intro w hSw; (try dsimp only at hSw); first | (go_simp; done) | (go_simp; with_reducible rfl) | with_reducible rfl | rfl
      try simp only [Act.put, List.setIfInBounds_toArray, List.set_cons_succ, List.set_cons_zero]
      refine wpAnyH_take (i := 7) (oi := { dst := some 86, op := Op.fieldAddr 45 (Operand.tmp 85) 1, type := 0, pos := "ref.go:244", after := #[{ on := 6, ground := Ground.data }], guard := none }) (v := ?_) rfl (by kernel_rfl) (by kernel_rfl) (by kernel_rfl) (fun _ _ _ h => h) (Or.inl ⟨by rfl, ?_⟩) (by assumption) ?_
      rotate_left
      · intro w hSw; (try dsimp only at hSw); first | (go_simp; done) | (go_simp; with_reducible rfl) | with_reducible rfl | rfl
      try simp only [Act.put, List.setIfInBounds_toArray, List.set_cons_succ, List.set_cons_zero]
      refine wpAnyH_take (i := 8) (oi := { dst := some 87, op := Op.load 3 (Operand.tmp 86), type := 3, pos := "ref.go:244", after := #[{ on := 7, ground := Ground.data }], guard := none }) (v := ?_) rfl (by kernel_rfl) (by kernel_rfl) (by kernel_rfl) (fun _ _ _ h => h) (Or.inl ⟨by rfl, ?_⟩) (by assumption) ?_
      rotate_left
      · intro w hSw; (try dsimp only at hSw); first | (go_simp; done) | (go_simp; with_reducible rfl) | with_reducible rfl | rfl
      try simp only [Act.put, List.setIfInBounds_toArray, List.set_cons_succ, List.set_cons_zero]
      refine wpAnyH_take (i := 9) (oi := { dst := some 88, op := Op.fieldAddr 34 (Operand.tmp 5) 1, type := 0, pos := "ref.go:244", after := #[], guard := none }) (v := ?_) rfl (by kernel_rfl) (by kernel_rfl) (by kernel_rfl) (fun _ _ _ h => h) (Or.inl ⟨by rfl, ?_⟩) (by assumption) ?_
      rotate_left
      · intro w hSw; (try dsimp only at hSw); first | (go_simp; done) | (go_simp; with_reducible rfl) | with_reducible rfl | rfl
      try simp only [Act.put, List.setIfInBounds_toArray, List.set_cons_succ, List.set_cons_zero]
      refine wpAnyH_take (i := 10) (oi := { dst := some 89, op := Op.load 32 (Operand.tmp 88), type := 32, pos := "ref.go:244", after := #[{ on := 9, ground := Ground.data }], guard := none }) (v := ?_) rfl (by kernel_rfl) (by kernel_rfl) (by kernel_rfl) (fun _ _ _ h => h) (Or.inl ⟨by rfl, ?_⟩) (by assumption) ?_
      rotate_left
      · intro w hSw; (try dsimp only at hSw); first | (go_simp; done) | (go_simp; with_reducible rfl) | with_reducible rfl | rfl
      try simp only [Act.put, List.setIfInBounds_toArray, List.set_cons_succ, List.set_cons_zero]
      refine wpAnyH_take (i := 11) (oi := { dst := some 90, op := Op.move (Operand.tmp 2), type := 3, pos := "ref.go:244", after := #[], guard := none }) (v := ?_) rfl (by kernel_rfl) (by kernel_rfl) (by kernel_rfl) (fun _ _ _ h => h) (Or.inl ⟨by rfl, ?_⟩) (by assumption) ?_
      rotate_left
      · intro w hSw; (try dsimp only at hSw); first | (go_simp; done) | (go_simp; with_reducible rfl) | with_reducible rfl | rfl
      try simp only [Act.put, List.setIfInBounds_toArray, List.set_cons_succ, List.set_cons_zero]
      refine wpAnyH_take (i := 12) (oi := { dst := some 91, op := Op.binOp BinOp.add 3 (Operand.tmp 90) (Operand.const (Value.int IntKind.i64 1)) 3, type := 3, pos := "ref.go:244", after := #[{ on := 11, ground := Ground.data }], guard := none }) (v := ?_) rfl (by kernel_rfl) (by kernel_rfl) (by kernel_rfl) (fun _ _ _ h => h) (Or.inl ⟨by rfl, ?_⟩) (by assumption) ?_
      rotate_left
      · intro w hSw; (try dsimp only at hSw); first | (go_simp; done) | (go_simp; with_reducible rfl) | with_reducible rfl | rfl
      try simp only [Act.put, List.setIfInBounds_toArray, List.set_cons_succ, List.set_cons_zero]
      refine wpAnyH_take (i := 13) (oi := { dst := some 92, op := Op.indexAddr 32 (Operand.tmp 89) (Operand.tmp 91), type := 0, pos := "ref.go:244", after := #[{ on := 10, ground := Ground.data }, { on := 12, ground := Ground.data }], guard := none }) (v := ?_) rfl (by kernel_rfl) (by kernel_rfl) (by kernel_rfl) (fun _ _ _ h => h) (Or.inl ⟨by rfl, ?_⟩) (by assumption) ?_
      rotate_left
      · intro w hSw; (try dsimp only at hSw); first | (go_simp; done) | (go_simp; with_reducible rfl) | with_reducible rfl | rfl
      try simp only [Act.put, List.setIfInBounds_toArray, List.set_cons_succ, List.set_cons_zero]
      refine wpAnyH_take (i := 14) (oi := { dst := some 93, op := Op.fieldAddr 45 (Operand.tmp 92) 1, type := 0, pos := "ref.go:244", after := #[{ on := 13, ground := Ground.data }], guard := none }) (v := ?_) rfl (by kernel_rfl) (by kernel_rfl) (by kernel_rfl) (fun _ _ _ h => h) (Or.inl ⟨by rfl, ?_⟩) (by assumption) ?_
      rotate_left
      · intro w hSw; (try dsimp only at hSw); first | (go_simp; done) | (go_simp; with_reducible rfl) | with_reducible rfl | rfl
      try simp only [Act.put, List.setIfInBounds_toArray, List.set_cons_succ, List.set_cons_zero]
      refine wpAnyH_take (i := 15) (oi := { dst := some 94, op := Op.load 3 (Operand.tmp 93), type := 3, pos := "ref.go:244", after := #[{ on := 14, ground := Ground.data }], guard := none }) (v := ?_) rfl (by kernel_rfl) (by kernel_rfl) (by kernel_rfl) (fun _ _ _ h => h) (Or.inl ⟨by rfl, ?_⟩) (by assumption) ?_
      rotate_left
      · intro w hSw; (try dsimp only at hSw); first | (go_simp; done) | (go_simp; with_reducible rfl) | with_reducible rfl | rfl
      try simp only [Act.put, List.setIfInBounds_toArray, List.set_cons_succ, List.set_cons_zero]
      refine wpAnyH_ready (rs := [16]) (by kernel_rfl) (by simp) ?_
      refine AllReadyH.cons (o := { dst := some 95, op := Op.call { callee := Callee.value (Operand.func 40), args := #[Operand.tmp 81, Operand.tmp 87, Operand.tmp 94], argTypes := #[24, 3, 3] }, type := 3, pos := "ref.go:244", after := #[{ on := 2, ground := Ground.data }, { on := 8, ground := Ground.data }, { on := 15, ground := Ground.data }], guard := none }) rfl (fun K hK => ?_) ?_
      · refine held_call (by rfl) 40 _ _ (by rfl) hs40 [.agg #[.int .i64 p.time.n, .slice ta p.time.cells.length tc], .int .i64 p1, .int .i64 p2] (by rfl) ?_; refine (H40q.out _ K0.out).mono ?_; rintro e u1 ⟨rfl, k9⟩; refine ⟨_, rfl, ?_⟩; have E1 := hide k9; have K1 := hide (below_on K0.out k9); clear k9
        refine hK.out _ _ ?_ (fun hHeld1 => ?_)
        · (try dsimp only); exact HS7.out _ K1.out
        clear hK K
        try simp only [Act.put, List.setIfInBounds_toArray, List.set_cons_succ, List.set_cons_zero]
        clear hHeld0
        refine wpAnyH_take (i := 17) (oi := { dst := some 96, op := Op.binOp BinOp.add 3 (Operand.tmp 79) (Operand.tmp 95) 3, type := 3, pos := "ref.go:244", after := #[{ on := 0, ground := Ground.data }, { on := 16, ground := Ground.data }], guard := none }) (v := ?_) rfl (by kernel_rfl) (by kernel_rfl) (by kernel_rfl) (fun _ _ _ h => h) (Or.inl ⟨by rfl, ?_⟩) (by assumption) ?_
        rotate_left
        · intro w hSw; (try dsimp only at hSw); first | (go_simp; done) | (go_simp; with_reducible rfl) | with_reducible rfl | rfl
        try simp only [Act.put, List.setIfInBounds_toArray, List.set_cons_succ, List.set_cons_zero]
        refine wpAnyH_take (i := 18) (oi := { dst := some 3, op := Op.assign (Operand.tmp 96), type := 3, pos := "ref.go:244", after := #[{ on := 17, ground := Ground.data }, { on := 16, ground := Ground.chain }, { on := 0, ground := Ground.phase }, { on := 1, ground := Ground.phase }, { on := 2, ground := Ground.phase }, { on := 3, ground := Ground.phase }, { on := 4, ground := Ground.phase }, { on := 5, ground := Ground.phase }, { on := 6, ground := Ground.phase }, { on := 7, ground := Ground.phase }, { on := 8, ground := Ground.phase }, { on := 9, ground := Ground.phase }, { on := 10, ground := Ground.phase }, { on := 11, ground := Ground.phase }, { on := 12, ground := Ground.phase }, { on := 13, ground := Ground.phase }, { on := 14, ground := Ground.phase }, { on := 15, ground := Ground.phase }, { on := 16, ground := Ground.phase }, { on := 17, ground := Ground.phase }], guard := none }) (v := ?_) rfl (by kernel_rfl) (by kernel_rfl) (by kernel_rfl) (fun _ _ _ h => h) (Or.inl ⟨by rfl, ?_⟩) (by assumption) ?_
        rotate_left
        · intro w hSw; (try dsimp only at hSw); first | (go_simp; done) | (go_simp; with_reducible rfl) | with_reducible rfl | rfl
        try simp only [Act.put, List.setIfInBounds_toArray, List.set_cons_succ, List.set_cons_zero]
        refine wpAnyH_done (by kernel_rfl) ?_ _
        clear hHeld1
        go_wp2_with fail
        go_roundw
        case rel => exact ⟨q9, tb + cm, rfl, rfl, by have h1 := HQ9.out; omega, ⟨HE7.out, HTB.out.1, .inr ⟨by have h1 := HQ9.out; omega, HTB.out.2⟩⟩, below_on HNwr.out (below_on K7.out K1.out)⟩
        case measure => simp [intOf]; have h1 := HQ9.out; omega
      exact AllReadyH.nil
    · obtain rfl : q = m := by omega
      have hze : (if tq ≤ cl then some tq else none) = E := by
        have h9 := HI.out.1
        rw [List.drop_eq_nil_of_le (by have h1 := HM.out; omega)] at h9
        exact h9
      have j2 : ¬ (q : Int) < (q : Int) := by omega
      have c35 : wr.cell? ⟨w.heap.size + 1 + 1, 5, none⟩ = some (.int .i64 v.shift.2) := cell_of_row _ _ _ _ _ _ HY3.out
      rw [HCL.out] at c35
      have HZE := hide hze
      clear hze
      go_wp2_with fail
      have HS9 : Hid (∀ w', Below wr.heap.size wr w' → w'.cell? ⟨w.heap.size + 1 + 1, 5, none⟩ = some (.int .i64 cl)) := fun w' hf => ((bcell hf).1 _ _ (lt_of_block HY3.out)).trans c35
      refine wp_region_held_drew (S := (fun w' => w'.cell? ⟨w.heap.size + 1 + 1, 5, none⟩ = some (.int .i64 cl))) (by kernel_rfl) ?_ (fun hHeld0 => ?_)
      · (try dsimp only); first | fail | exact HS9.out _ (Below.refl _ _) | exact HS9.out _ ((Below.refl _ _).drew) | (go_keep; done)
      obtain ⟨u0, hu0⟩ : ∃ u, wr.drew = u := ⟨_, rfl⟩
      rw [hu0]
      rw [hu0] at hHeld0
      have K0 : Hid (Below wr.heap.size wr u0) := by show Below _ _ _; rw [← hu0]; exact ((Below.refl _ _).drew)
      clear hu0
      refine wpAnyH_take (i := 0) (oi := { dst := some 97, op := Op.move (Operand.tmp 3), type := 3, pos := "ref.go:246", after := #[], guard := none }) (v := ?_) rfl (by kernel_rfl) (by kernel_rfl) (by kernel_rfl) (fun _ _ _ h => h) (Or.inl ⟨by rfl, ?_⟩) (by assumption) ?_
      rotate_left
      · intro w hSw; (try dsimp only at hSw); first | (go_simp; done) | (go_simp; with_reducible rfl) | with_reducible rfl | rfl
      try simp only [Act.put, List.setIfInBounds_toArray, List.set_cons_succ, List.set_cons_zero]
      refine wpAnyH_take (i := 1) (oi := { dst := some 98, op := Op.move (Operand.tmp 3), type := 3, pos := "ref.go:246", after := #[{ on := 6, ground := Ground.gcOnly Departure.lateStores }], guard := none }) (v := ?_) rfl (by kernel_rfl) (by kernel_rfl) (by kernel_rfl) (fun _ _ _ h => h) (Or.inl ⟨by rfl, ?_⟩) (by assumption) ?_
      rotate_left
      · intro w hSw; (try dsimp only at hSw); first | (go_simp; done) | (go_simp; with_reducible rfl) | with_reducible rfl | rfl
      try simp only [Act.put, List.setIfInBounds_toArray, List.set_cons_succ, List.set_cons_zero]
      refine wpAnyH_take (i := 2) (oi := { dst := some 99, op := Op.fieldAddr 58 (Operand.tmp 10) 4, type := 0, pos := "ref.go:246", after := #[{ on := 6, ground := Ground.gcOnly Departure.lateStores }], guard := none }) (v := ?_) rfl (by kernel_rfl) (by kernel_rfl) (by kernel_rfl) (fun _ _ _ h => h) (Or.inl ⟨by rfl, ?_⟩) (by assumption) ?_
      rotate_left
      · intro w hSw; (try dsimp only at hSw); first | (go_simp; done) | (go_simp; with_reducible rfl) | with_reducible rfl | rfl
      try simp only [Act.put, List.setIfInBounds_toArray, List.set_cons_succ, List.set_cons_zero]
      refine wpAnyH_take (i := 3) (oi := { dst := some 100, op := Op.fieldAddr 54 (Operand.tmp 99) 1, type := 0, pos := "ref.go:246", after := #[{ on := 2, ground := Ground.data }, { on := 6, ground := Ground.gcOnly Departure.lateStores }], guard := none }) (v := ?_) rfl (by kernel_rfl) (by kernel_rfl) (by kernel_rfl) (fun _ _ _ h => h) (Or.inl ⟨by rfl, ?_⟩) (by assumption) ?_
      rotate_left
      · intro w hSw; (try dsimp only at hSw); first | (go_simp; done) | (go_simp; with_reducible rfl) | with_reducible rfl | rfl
      try simp only [Act.put, List.setIfInBounds_toArray, List.set_cons_succ, List.set_cons_zero]
      refine wpAnyH_take (i := 4) (oi := { dst := some 101, op := Op.load 3 (Operand.tmp 100), type := 3, pos := "ref.go:246", after := #[{ on := 3, ground := Ground.data }, { on := 6, ground := Ground.gcOnly Departure.lateStores }], guard := none }) (v := ?_) rfl (by kernel_rfl) (by kernel_rfl) (by kernel_rfl) (fun _ _ _ h => h) (Or.inl ⟨by rfl, ?_⟩) (by assumption) ?_
      rotate_left
      · intro w hSw; (try dsimp only at hSw); first | (go_simp; done) | (go_simp; with_reducible rfl) | with_reducible rfl | rfl
      try simp only [Act.put, List.setIfInBounds_toArray, List.set_cons_succ, List.set_cons_zero]
      refine wpAnyH_take (i := 5) (oi := { dst := some 102, op := Op.binOp BinOp.leq 3 (Operand.tmp 98) (Operand.tmp 101) 3, type := 4, pos := "ref.go:246", after := #[{ on := 1, ground := Ground.data }, { on := 4, ground := Ground.data }, { on := 6, ground := Ground.gcOnly Departure.lateStores }], guard := none }) (v := ?_) rfl (by kernel_rfl) (by kernel_rfl) (by kernel_rfl) (fun _ _ _ h => h) (Or.inl ⟨by rfl, ?_⟩) (by assumption) ?_
      rotate_left
      · intro w hSw; (try dsimp only at hSw); first | (go_simp; done) | (go_simp; with_reducible rfl) | with_reducible rfl | rfl
      try simp only [Act.put, List.setIfInBounds_toArray, List.set_cons_succ, List.set_cons_zero]
      refine wpAnyH_take (i := 6) (oi := { dst := some 8, op := Op.assign (Operand.tmp 97), type := 3, pos := "ref.go:246", after := #[{ on := 0, ground := Ground.data }, { on := 0, ground := Ground.phase }, { on := 1, ground := Ground.textOnly Departure.lateStores }, { on := 2, ground := Ground.textOnly Departure.lateStores }, { on := 3, ground := Ground.textOnly Departure.lateStores }, { on := 4, ground := Ground.textOnly Departure.lateStores }, { on := 5, ground := Ground.textOnly Departure.lateStores }], guard := none }) (v := ?_) rfl (by kernel_rfl) (by kernel_rfl) (by kernel_rfl) (fun _ _ _ h => h) (Or.inl ⟨by rfl, ?_⟩) (by assumption) ?_
      rotate_left
      · intro w hSw; (try dsimp only at hSw); first | (go_simp; done) | (go_simp; with_reducible rfl) | with_reducible rfl | rfl
      try simp only [Act.put, List.setIfInBounds_toArray, List.set_cons_succ, List.set_cons_zero]
      refine wpAnyH_take (i := 7) (oi := { dst := some 9, op := Op.assign (Operand.tmp 102), type := 4, pos := "ref.go:246", after := #[{ on := 5, ground := Ground.data }, { on := 6, ground := Ground.chain }, { on := 0, ground := Ground.phase }, { on := 1, ground := Ground.phase }, { on := 2, ground := Ground.phase }, { on := 3, ground := Ground.phase }, { on := 4, ground := Ground.phase }, { on := 5, ground := Ground.phase }, { on := 6, ground := Ground.phase }], guard := none }) (v := ?_) rfl (by kernel_rfl) (by kernel_rfl) (by kernel_rfl) (fun _ _ _ h => h) (Or.inl ⟨by rfl, ?_⟩) (by assumption) ?_
      rotate_left
      · intro w hSw; (try dsimp only at hSw); first | (go_simp; done) | (go_simp; with_reducible rfl) | with_reducible rfl | rfl
      try simp only [Act.put, List.setIfInBounds_toArray, List.set_cons_succ, List.set_cons_zero]
      refine wpAnyH_done (by kernel_rfl) ?_ _
      clear hHeld0
      go_wp2_with fail
      go_ret2
      refine ⟨tq, ?_, fun z hz => ?_, HBR.out _ K0.out⟩
      · rw [← HZE.out]
        by_cases h : tq ≤ cl
        · rw [if_pos h, decide_eq_true h]; rfl
        · rw [if_neg h, decide_eq_false h]; rfl
      · rw [← HZE.out] at hz
        split at hz
        · injection hz
        · cases hz
end Go.Proofs.Ytndbikoccdjafaa
