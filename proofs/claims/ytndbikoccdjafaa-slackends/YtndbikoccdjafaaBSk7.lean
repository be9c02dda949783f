/-
  slack.Latest 13: how late one may come to each step of a plan.
-/
import Derived.Deep.RegionHeld3
import Derived.WideKeyEntry
import Derived.BigRegion
import Derived.Test.YtndbikoccdjafaaBSkFG
import Derived.Test.YtndbikoccdjafaaBSk6
namespace Go.Proofs.Ytndbikoccdjafaa
open Go.RowKit
theorem hent37 (args : Array Value) (w : World) : (callFunc 37 args).run Try.prog w = .ok (.enter 37 args) w := Go.Proofs.enters_of Try.func37 (by kernel_rfl) rfl args w
theorem hent36 (args : Array Value) (w : World) : (callFunc 36 args).run Try.prog w = .ok (.enter 36 args) w := Go.Proofs.enters_of Try.func36 (by kernel_rfl) rfl args w
/-- The row of the latest times in the making: from place r on it is whole. -/
def rowL (l : List Int) (n r : Nat) : List Int := (List.range n).map fun j => if r ≤ j then l.getD j 0 else 0
theorem rowL_len (l : List Int) (n r : Nat) : (rowL l n r).length = n := by simp [rowL]
theorem rowL_none (l : List Int) (n : Nat) : rowL l n n = List.replicate n 0 := by
  apply List.ext_getElem
  · simp [rowL]
  · intro i h1 h2
    have hi : i < n := by simpa [rowL] using h1
    simp only [rowL, List.getElem_map, List.getElem_range, List.getElem_replicate]
    rw [if_neg (by omega)]
theorem rowL_set (l : List Int) (n r : Nat) : (rowL l n (r + 1)).set r (l.getD r 0) = rowL l n r := by
  apply List.ext_getElem
  · simp [rowL]
  · intro i h1 h2
    rw [List.getElem_set]
    simp only [rowL, List.getElem_map, List.getElem_range]
    by_cases e : r = i
    · subst e; rw [if_pos rfl, if_pos (Nat.le_refl _)]
    · rw [if_neg e]
      by_cases h : r ≤ i
      · rw [if_pos h, if_pos (by omega)]
      · rw [if_neg h, if_neg (by omega)]
theorem rowL_all {l : List Int} {n : Nat} (h : l.length = n) : rowL l n 0 = l := by
  apply List.ext_getElem
  · simp [rowL, h]
  · intro i h1 h2
    simp only [rowL, List.getElem_map, List.getElem_range]
    rw [if_pos (Nat.zero_le _), List.getD_eq_getElem?_getD, List.getElem?_eq_getElem h2]; rfl
theorem rowL_at {l : List Int} {n r j : Nat} (h : r ≤ j) (hj : j < n) : (rowL l n r)[j]! = l.getD j 0 := by
  rw [getElem!_pos (rowL l n r) j (by rw [rowL_len]; exact hj)]
  simp only [rowL, List.getElem_map, List.getElem_range]
  rw [if_pos h]
set_option maxRecDepth 100000 in
set_option maxHeartbeats 6400000 in
theorem latest_any {w : World} {x : PrbS} {p : Prb} {k n : Nat} {a : Option Addr} {L : List StepT} {G : List Stg} {l : List Int} (h : SlkV w x p k a n L G) (hl : latG (p.vs.getD k vz).shift.2 G = some l) (c : Nat) (tm ds wt sv co : Int) : Calls Try.prog 13 #[.agg (prbE p x), .agg (planC k (.slice a n c) tm ds wt sv co)] w fun e w' => ∃ g, e = .returned (.slice (some ⟨g, 0, none⟩) n n) ∧ IRow w' w.heap.size (.slice (some ⟨g, 0, none⟩) n n) l ∧ Below w.heap.size w w' := by
  have HV := hide h
  have hlen := h.rt.len
  have hlow := h.rt.low
  have hhi := h.rt.high
  have hn := h.stp.1
  have hk := h.veh
  have hvo := veh_ok (law_veh h.law hk)
  have hsh := hvo.shift
  have hbd := lat_bd h.rt ⟨by omega, by omega⟩ hl
  obtain ⟨b, off, vcz, xc, xb, hxv, hb, hcv, _, _⟩ := veh_cells h.prb.v hk
  obtain ⟨ta, tc, da, dc, va, vc, ja, jc, sa, sc, rfl⟩ := h.prb.open
  simp only at hxv
  injection hxv with hx1 _ hx3
  subst hx1
  subst hx3
  obtain ⟨cl, hcl⟩ : ∃ z, (p.vs.getD k vz).shift.2 = z := ⟨_, rfl⟩
  have d0 : w.cell? ⟨b, off + k * 11 + 5, none⟩ = some (.int .i64 cl) := by rw [← hcl]; exact hcv 5 (by decide)
  rw [hcl] at hbd hl
  obtain ⟨m, hm⟩ : ∃ z, G.length = z := ⟨_, rfl⟩
  rw [hm] at hbd hlen hlow hhi
  have hnm : n = m + 1 := by omega
  have HBD := hide hbd
  have HD0 := hide d0
  have H35 : Hid (∀ W2, Below w.heap.size w W2 → Calls Try.prog 35 #[.agg #[.int .i64 p.dims, .int .i64 p.time.n, .slice ta p.time.cells.length tc, .int .i64 p.dist.n, .slice da p.dist.cells.length dc, .slice (some ⟨b, off, none⟩) p.vs.length vc, .slice ja p.js.length jc, .slice sa p.ss.length sc], .agg #[.int .i64 (k : Int), .slice a n c, .int .i64 tm, .int .i64 ds, .int .i64 wt, .int .i64 sv, .int .i64 co]] W2 fun e w' => e = .returned (.bool true) ∧ Below W2.heap.size W2 w') := fun W2 hf => by
    have h9 := smanned_any (n := n) (c := c) (a := a) (HV.out.on hf).prb (k : Int) tm ds wt sv co
    rw [show manB p (k : Int) = true from by unfold manB; rw [decide_eq_true (by omega), decide_eq_true (by omega)]; rfl] at h9
    exact h9
  have H79 : Hid (∀ j, j < m → ∃ d : Int, (0 ≤ d ∧ d ≤ 33000000) ∧ (∀ W2, Below w.heap.size w W2 → Calls Try.prog 37 #[.agg #[.int .i64 p.dims, .int .i64 p.time.n, .slice ta p.time.cells.length tc, .int .i64 p.dist.n, .slice da p.dist.cells.length dc, .slice (some ⟨b, off, none⟩) p.vs.length vc, .slice ja p.js.length jc, .slice sa p.ss.length sc], .agg #[.int .i64 (k : Int), .slice a n c, .int .i64 tm, .int .i64 ds, .int .i64 wt, .int .i64 sv, .int .i64 co], .int .i64 (j : Int)] W2 fun e w' => e = .returned (.int .i64 d) ∧ Below W2.heap.size W2 w') ∧ (∀ W2, Below w.heap.size w W2 → Calls Try.prog 36 #[.agg #[.int .i64 p.dims, .int .i64 p.time.n, .slice ta p.time.cells.length tc, .int .i64 p.dist.n, .slice da p.dist.cells.length dc, .slice (some ⟨b, off, none⟩) p.vs.length vc, .slice ja p.js.length jc, .slice sa p.ss.length sc], .agg #[.int .i64 (k : Int), .slice a n c, .int .i64 tm, .int .i64 ds, .int .i64 wt, .int .i64 sv, .int .i64 co], .int .i64 (j : Int), .int .i64 (l.getD (j + 1) 0 - d)] W2 fun e w' => e = .returned (.tuple #[.int .i64 (l.getD j 0), .bool true]) ∧ Below W2.heap.size W2 w')) := fun j hj => by
    obtain ⟨s, t, hs, ht, hG, h1, h2, _⟩ := HV.out.rt.step j (by omega)
    refine ⟨s.serv + cellM p.time s.place t.place, by omega, fun W2 hf => ?_, fun W2 hf => ?_⟩
    · obtain ⟨s2, t2, hs2, ht2, hc⟩ := onward_any (HV.out.on hf) (show j < G.length by omega) c tm ds wt sv co
      rw [hs] at hs2
      injection hs2 with hs2
      subst hs2
      rw [ht] at ht2
      injection ht2 with ht2
      subst ht2
      exact hc
    · obtain ⟨st, hst, hc⟩ := last_any (HV.out.on hf) (show j < G.length by omega) c tm ds wt sv co (l.getD (j + 1) 0 - (s.serv + cellM p.time s.place t.place))
      rw [hG] at hst
      injection hst with hst
      subst hst
      have h9 := lat_at hl hG
      simp only at h9 hc
      rw [h9] at hc
      exact hc
  clear h hl hlen hsh hvo hcv hcl hn hbd d0
  unfold prbE planC
  simp only
  obtain ⟨W, hW⟩ : ∃ W, (w.alloc (.cells #[.int .i64 p.dims, .int .i64 p.time.n, .slice ta p.time.cells.length tc, .int .i64 p.dist.n, .slice da p.dist.cells.length dc, .slice (some ⟨b, off, none⟩) p.vs.length vc, .slice ja p.js.length jc, .slice sa p.ss.length sc] 29)).alloc (.cells #[.int .i64 (k : Int), .slice a n c, .int .i64 tm, .int .i64 ds, .int .i64 wt, .int .i64 sv, .int .i64 co] 34) = W := ⟨_, rfl⟩
  have HB : Hid (Below w.heap.size w W) := by show Below _ _ _; rw [← hW]; exact ((Below.refl _ _).alloc (Nat.le_refl _) _).alloc (by simp) _
  have HX1 : Hid (W.heap[w.heap.size]? = some (.cells #[.int .i64 p.dims, .int .i64 p.time.n, .slice ta p.time.cells.length tc, .int .i64 p.dist.n, .slice da p.dist.cells.length dc, .slice (some ⟨b, off, none⟩) p.vs.length vc, .slice ja p.js.length jc, .slice sa p.ss.length sc] 29 (0, 0))) := by
    show _ = _
    rw [← hW, heap_alloc_old _ _ (by simp)]
    exact new_block _ _
  have HX2 : Hid (W.heap[w.heap.size + 1]? = some (.cells #[.int .i64 (k : Int), .slice a n c, .int .i64 tm, .int .i64 ds, .int .i64 wt, .int .i64 sv, .int .i64 co] 34 (0, 0))) := by
    show _ = _
    rw [← hW]
    have h9 := new_block (w.alloc (.cells #[.int .i64 p.dims, .int .i64 p.time.n, .slice ta p.time.cells.length tc, .int .i64 p.dist.n, .slice da p.dist.cells.length dc, .slice (some ⟨b, off, none⟩) p.vs.length vc, .slice ja p.js.length jc, .slice sa p.ss.length sc] 29)) (.cells #[.int .i64 (k : Int), .slice a n c, .int .i64 tm, .int .i64 ds, .int .i64 wt, .int .i64 sv, .int .i64 co] 34)
    rw [show (w.alloc (.cells #[.int .i64 p.dims, .int .i64 p.time.n, .slice ta p.time.cells.length tc, .int .i64 p.dist.n, .slice da p.dist.cells.length dc, .slice (some ⟨b, off, none⟩) p.vs.length vc, .slice ja p.js.length jc, .slice sa p.ss.length sc] 29)).heap.size = w.heap.size + 1 from by simp] at h9
    exact h9
  have i1 : IntKind.i64.wrap ((n : Int) - 1) = (m : Int) := by rw [IntKind.wrap_i64]; omega
  have i2 : IntKind.i64.wrap ((m : Int) + 1) = (n : Int) := by rw [IntKind.wrap_i64]; omega
  have i3 : ¬ (m : Int) < 1 := by omega
  have i4 : (0 : Int) ≤ (m : Int) := by omega
  have i5 : (m : Int) < (n : Int) := by omega
  have i6 : IntKind.i64.wrap ((m : Int) - 1) = (m : Int) - 1 := by rw [IntKind.wrap_i64]; omega
  have i7 : (0 : Int) ≤ (k : Int) := by omega
  have i8 : (k : Int) < (p.vs.length : Int) := by omega
  have hbl := hb
  have HKL := hide hk
  have HNM := hide hnm
  have HHI := hide hhi
  clear hk hnm hlow hhi hm
  have a10 : W.cell? ⟨w.heap.size, 0, none⟩ = some (.int .i64 p.dims) := cell_of_row _ _ _ _ _ _ HX1.out
  have a11 : W.cell? ⟨w.heap.size, 1, none⟩ = some (.int .i64 p.time.n) := cell_of_row _ _ _ _ _ _ HX1.out
  have a12 : W.cell? ⟨w.heap.size, 2, none⟩ = some (.slice ta p.time.cells.length tc) := cell_of_row _ _ _ _ _ _ HX1.out
  have a13 : W.cell? ⟨w.heap.size, 3, none⟩ = some (.int .i64 p.dist.n) := cell_of_row _ _ _ _ _ _ HX1.out
  have a14 : W.cell? ⟨w.heap.size, 4, none⟩ = some (.slice da p.dist.cells.length dc) := cell_of_row _ _ _ _ _ _ HX1.out
  have a15 : W.cell? ⟨w.heap.size, 5, none⟩ = some (.slice (some ⟨b, off, none⟩) p.vs.length vc) := cell_of_row _ _ _ _ _ _ HX1.out
  have a16 : W.cell? ⟨w.heap.size, 6, none⟩ = some (.slice ja p.js.length jc) := cell_of_row _ _ _ _ _ _ HX1.out
  have a17 : W.cell? ⟨w.heap.size, 7, none⟩ = some (.slice sa p.ss.length sc) := cell_of_row _ _ _ _ _ _ HX1.out
  have a20 : W.cell? ⟨w.heap.size + 1, 0, none⟩ = some (.int .i64 (k : Int)) := cell_of_row _ _ _ _ _ _ HX2.out
  have a21 : W.cell? ⟨w.heap.size + 1, 1, none⟩ = some (.slice a n c) := cell_of_row _ _ _ _ _ _ HX2.out
  have a22 : W.cell? ⟨w.heap.size + 1, 2, none⟩ = some (.int .i64 tm) := cell_of_row _ _ _ _ _ _ HX2.out
  have a23 : W.cell? ⟨w.heap.size + 1, 3, none⟩ = some (.int .i64 ds) := cell_of_row _ _ _ _ _ _ HX2.out
  have a24 : W.cell? ⟨w.heap.size + 1, 4, none⟩ = some (.int .i64 wt) := cell_of_row _ _ _ _ _ _ HX2.out
  have a25 : W.cell? ⟨w.heap.size + 1, 5, none⟩ = some (.int .i64 sv) := cell_of_row _ _ _ _ _ _ HX2.out
  have a26 : W.cell? ⟨w.heap.size + 1, 6, none⟩ = some (.int .i64 co) := cell_of_row _ _ _ _ _ _ HX2.out
  go_enter Try.func13, Try.ntmps13
  go_upto_region 5 with (first | (go_at_call 35; refine (H35.out _ HB.out).mono ?_; rintro e u1 ⟨rfl, kk⟩; have E1 := hide kk; clear kk; have hmk := Ld.made_ints n (by have h1 := HNM.out; have h2 := HHI.out; omega) u1; have b21 : u1.cell? ⟨w.heap.size + 1, 1, none⟩ = some (.slice a n c) := ((bcell E1.out).1 _ _ (lt_of_block HX2.out)).trans (cell_of_row _ _ _ _ _ _ HX2.out)) | fail)
  clear hW
  obtain ⟨wN, hwN⟩ : ∃ wN, wN = u1.alloc (.cells (Array.replicate n (.int .i64 0)) 3) := ⟨_, rfl⟩
  rw [← hwN]
  have HR0 : Hid (IRow wN u1.heap.size (.slice (some ⟨u1.heap.size, 0, none⟩) n n) (rowL l n n)) := by show IRow _ _ _ _; rw [hwN, rowL_none]; exact Ld.irow_made u1 (Nat.le_refl _) (by have h1 := HNM.out; have h2 := HHI.out; omega)
  have HN0 : Hid (Below u1.heap.size u1 wN) := by show Below _ _ _; rw [hwN]; exact (Below.refl _ _).alloc (Nat.le_refl _) _
  obtain ⟨nb, hnb⟩ : ∃ nb, nb = u1.heap.size := ⟨_, rfl⟩
  rw [← hnb] at HR0 HN0 ⊢
  have HBB : Hid (∀ wx, Below nb u1 wx → Below W.heap.size W wx) := fun wx hx => below_on E1.out (by rw [← hnb]; exact hx)
  have HNL : Hid (w.heap.size + 1 < nb) := by show _ < _; rw [hnb]; have h1 := lt_of_block HX2.out; have h2 := E1.out.size; omega
  clear hwN hmk hnb b21 a10 a11 a12 a13 a14 a15 a16 a17 a20 a21 a22 a23 a24 a25 a26
  have HNwN := HN0
  have c15 : wN.cell? ⟨w.heap.size, 5, none⟩ = some (.slice (some ⟨b, off, none⟩) p.vs.length vc) := ((bcell (HBB.out _ HNwN.out)).1 _ _ (lt_of_block HX1.out)).trans (cell_of_row _ _ _ _ _ _ HX1.out)
  have c20 : wN.cell? ⟨w.heap.size + 1, 0, none⟩ = some (.int .i64 (k : Int)) := ((bcell (HBB.out _ HNwN.out)).1 _ _ (lt_of_block HX2.out)).trans (cell_of_row _ _ _ _ _ _ HX2.out)
  have d5 : wN.cell? ⟨b, off + k * 11 + 5, none⟩ = some (.int .i64 cl) := ((bcell (below_on HB.out (HBB.out _ HNwN.out))).1 _ _ hb).trans HD0.out
  have e5 : wN.cell? ⟨nb, m, none⟩ = some (.int .i64 0) := by have h9 := HR0.out.cell m (by rw [rowL_len]; have h1 := HNM.out; omega); rw [rowL_none] at h9; rw [h9, getElem!_pos _ m (by simp; have h1 := HNM.out; omega)]; simp
  have f5 : wN.frozen? ⟨nb, m, none⟩ = false := HR0.out.frozen m
  have g1 : ¬ nb = w.heap.size := by have h1 := HNL.out; omega
  have g2 : ¬ nb = w.heap.size + 1 := by have h1 := HNL.out; omega
  go_upto_region 6 with fail
  obtain ⟨w5, hw5⟩ : ∃ z, (wN.setCell ⟨nb, m, none⟩ (.int .i64 cl)) = z := ⟨_, rfl⟩
  rw [hw5]
  have HR5 : Hid (IRow w5 nb (.slice (some ⟨nb, 0, none⟩) n n) (rowL l n m)) := by
    show IRow _ _ _ _
    rw [← hw5]
    have h9 := HR0.out.set m cl
    have e : (rowL l n n).set m cl = rowL l n m := by rw [← HBD.out.2.1]; have h1 := HNM.out; rw [show n = m + 1 from h1, rowL_set]
    rw [e] at h9
    exact h9
  have HN5 : Hid (Below nb u1 w5) := by show Below _ _ _; rw [← hw5]; exact HN0.out.setCell (Nat.le_refl _) _
  clear hw5 c15 c20 d5 e5 f5 HR0 HN0 HNwN
  go_wp2_with fail
  go_loopw [7] (fun vi wr => ∃ r : Nat, vi = .int .i64 ((r : Int) - 1) ∧ r ≤ m ∧ Hid (IRow wr nb (.slice (some ⟨nb, 0, none⟩) n n) (rowL l n r)) ∧ Hid (Below nb u1 wr)) (fun vi _ => (intOf vi + 1).toNat)
  case atStart => exact ⟨m, rfl, Nat.le_refl _, HR5.out, HN5.out⟩
  case round =>
    clear HR5 HN5
    rename World => wr
    obtain ⟨r, rfl, hr, HQ, HNwr⟩ := hrel
    by_cases hr0 : r = 0
    · subst hr0
      have e0 : ((0 : Nat) : Int) - 1 = -1 := rfl
      rw [e0]
      have HRZ : Hid (IRow wr w.heap.size (.slice (some ⟨nb, 0, none⟩) n n) l) := by
        have h9 := HQ.out.mono (show w.heap.size ≤ nb by have h1 := HNL.out; omega)
        rw [rowL_all (by have h1 := HBD.out.1; have h2 := HNM.out; omega)] at h9
        exact h9
      go_wp2_with fail
      go_ret
      exact ⟨nb, rfl, HRZ.out, below_on HB.out (HBB.out _ HNwr.out)⟩
    · obtain ⟨j, rfl⟩ : ∃ j, r = j + 1 := ⟨r - 1, by omega⟩
      have e0 : ((j + 1 : Nat) : Int) - 1 = (j : Int) := by omega
      rw [e0]
      have hjm : j < m := by omega
      obtain ⟨d, hd, H37, H36⟩ := H79.out j hjm
      have H37 := hide H37
      have H36 := hide H36
      have hb1 := HBD.out.2.2 (j + 1) (by omega)
      have hcj : wr.cell? ⟨nb, j + 1, none⟩ = some (.int .i64 (l.getD (j + 1) 0)) := by have h9 := HQ.out.cell (j + 1) (by rw [rowL_len]; have h1 := HNM.out; omega); rw [rowL_at (Nat.le_refl _) (by have h1 := HNM.out; omega)] at h9; exact h9
      obtain ⟨lj, hlj⟩ : ∃ z, l.getD (j + 1) 0 = z := ⟨_, rfl⟩
      rw [hlj] at H36 hcj hb1
      obtain ⟨lx, hlx⟩ : ∃ z, l.getD j 0 = z := ⟨_, rfl⟩
      rw [hlx] at H36
      have HLX := hide hlx
      have j1 : IntKind.i64.wrap ((j : Int) + 1) = ((j + 1 : Nat) : Int) := by rw [IntKind.wrap_i64]; have h1 := HHI.out; omega
      have j2 : IntKind.i64.wrap (lj - d) = lj - d := by rw [IntKind.wrap_i64]; omega
      have j3 : (0 : Int) ≤ (j : Int) := by omega
      have j4 : ((j + 1 : Nat) : Int) < (n : Int) := by have h1 := HNM.out; omega
      have j5 : (0 : Int) ≤ ((j + 1 : Nat) : Int) := by omega
      have j6 : (j : Int) < (n : Int) := by omega
      have j7 : IntKind.i64.wrap ((j : Int) - 1) = (j : Int) - 1 := by rw [IntKind.wrap_i64]; have h1 := HHI.out; omega
      obtain ⟨j9, hj9⟩ : ∃ z, j + 1 = z := ⟨_, rfl⟩
      rw [hj9] at j1 j4 j5 hcj
      have hnbw : nb < wr.heap.size := (World.ownsRow.lt HQ.out nb rfl).2
      have HS : Hid (∀ w', Below wr.heap.size wr w' → w'.cell? ⟨w.heap.size, 0, none⟩ = some (.int .i64 p.dims) ∧ w'.cell? ⟨w.heap.size, 1, none⟩ = some (.int .i64 p.time.n) ∧ w'.cell? ⟨w.heap.size, 2, none⟩ = some (.slice ta p.time.cells.length tc) ∧ w'.cell? ⟨w.heap.size, 3, none⟩ = some (.int .i64 p.dist.n) ∧ w'.cell? ⟨w.heap.size, 4, none⟩ = some (.slice da p.dist.cells.length dc) ∧ w'.cell? ⟨w.heap.size, 5, none⟩ = some (.slice (some ⟨b, off, none⟩) p.vs.length vc) ∧ w'.cell? ⟨w.heap.size, 6, none⟩ = some (.slice ja p.js.length jc) ∧ w'.cell? ⟨w.heap.size, 7, none⟩ = some (.slice sa p.ss.length sc) ∧ w'.cell? ⟨w.heap.size + 1, 0, none⟩ = some (.int .i64 (k : Int)) ∧ w'.cell? ⟨w.heap.size + 1, 1, none⟩ = some (.slice a n c) ∧ w'.cell? ⟨w.heap.size + 1, 2, none⟩ = some (.int .i64 tm) ∧ w'.cell? ⟨w.heap.size + 1, 3, none⟩ = some (.int .i64 ds) ∧ w'.cell? ⟨w.heap.size + 1, 4, none⟩ = some (.int .i64 wt) ∧ w'.cell? ⟨w.heap.size + 1, 5, none⟩ = some (.int .i64 sv) ∧ w'.cell? ⟨w.heap.size + 1, 6, none⟩ = some (.int .i64 co) ∧ w'.cell? ⟨nb, j9, none⟩ = some (.int .i64 lj)) := fun w' hf => ⟨((bcell (HBB.out _ (HNwr.out.trans (hf.mono (Nat.le_of_lt hnbw))))).1 _ _ (lt_of_block HX1.out)).trans (cell_of_row _ _ _ _ _ _ HX1.out), ((bcell (HBB.out _ (HNwr.out.trans (hf.mono (Nat.le_of_lt hnbw))))).1 _ _ (lt_of_block HX1.out)).trans (cell_of_row _ _ _ _ _ _ HX1.out), ((bcell (HBB.out _ (HNwr.out.trans (hf.mono (Nat.le_of_lt hnbw))))).1 _ _ (lt_of_block HX1.out)).trans (cell_of_row _ _ _ _ _ _ HX1.out), ((bcell (HBB.out _ (HNwr.out.trans (hf.mono (Nat.le_of_lt hnbw))))).1 _ _ (lt_of_block HX1.out)).trans (cell_of_row _ _ _ _ _ _ HX1.out), ((bcell (HBB.out _ (HNwr.out.trans (hf.mono (Nat.le_of_lt hnbw))))).1 _ _ (lt_of_block HX1.out)).trans (cell_of_row _ _ _ _ _ _ HX1.out), ((bcell (HBB.out _ (HNwr.out.trans (hf.mono (Nat.le_of_lt hnbw))))).1 _ _ (lt_of_block HX1.out)).trans (cell_of_row _ _ _ _ _ _ HX1.out), ((bcell (HBB.out _ (HNwr.out.trans (hf.mono (Nat.le_of_lt hnbw))))).1 _ _ (lt_of_block HX1.out)).trans (cell_of_row _ _ _ _ _ _ HX1.out), ((bcell (HBB.out _ (HNwr.out.trans (hf.mono (Nat.le_of_lt hnbw))))).1 _ _ (lt_of_block HX1.out)).trans (cell_of_row _ _ _ _ _ _ HX1.out), ((bcell (HBB.out _ (HNwr.out.trans (hf.mono (Nat.le_of_lt hnbw))))).1 _ _ (lt_of_block HX2.out)).trans (cell_of_row _ _ _ _ _ _ HX2.out), ((bcell (HBB.out _ (HNwr.out.trans (hf.mono (Nat.le_of_lt hnbw))))).1 _ _ (lt_of_block HX2.out)).trans (cell_of_row _ _ _ _ _ _ HX2.out), ((bcell (HBB.out _ (HNwr.out.trans (hf.mono (Nat.le_of_lt hnbw))))).1 _ _ (lt_of_block HX2.out)).trans (cell_of_row _ _ _ _ _ _ HX2.out), ((bcell (HBB.out _ (HNwr.out.trans (hf.mono (Nat.le_of_lt hnbw))))).1 _ _ (lt_of_block HX2.out)).trans (cell_of_row _ _ _ _ _ _ HX2.out), ((bcell (HBB.out _ (HNwr.out.trans (hf.mono (Nat.le_of_lt hnbw))))).1 _ _ (lt_of_block HX2.out)).trans (cell_of_row _ _ _ _ _ _ HX2.out), ((bcell (HBB.out _ (HNwr.out.trans (hf.mono (Nat.le_of_lt hnbw))))).1 _ _ (lt_of_block HX2.out)).trans (cell_of_row _ _ _ _ _ _ HX2.out), ((bcell (HBB.out _ (HNwr.out.trans (hf.mono (Nat.le_of_lt hnbw))))).1 _ _ (lt_of_block HX2.out)).trans (cell_of_row _ _ _ _ _ _ HX2.out), ((bcell hf).1 _ _ hnbw).trans hcj⟩
      have HF : Hid (∀ wx, Below wr.heap.size wr wx → Below w.heap.size w wx) := fun wx hx => below_on HB.out (HBB.out _ (HNwr.out.trans (hx.mono (Nat.le_of_lt hnbw))))
      clear hlj hlx hj9 hcj hb1 e0
      go_upto_region 9 with fail
      refine wp_region_held_drew (S := (fun w' => w'.cell? ⟨w.heap.size, 0, none⟩ = some (.int .i64 p.dims) ∧ w'.cell? ⟨w.heap.size, 1, none⟩ = some (.int .i64 p.time.n) ∧ w'.cell? ⟨w.heap.size, 2, none⟩ = some (.slice ta p.time.cells.length tc) ∧ w'.cell? ⟨w.heap.size, 3, none⟩ = some (.int .i64 p.dist.n) ∧ w'.cell? ⟨w.heap.size, 4, none⟩ = some (.slice da p.dist.cells.length dc) ∧ w'.cell? ⟨w.heap.size, 5, none⟩ = some (.slice (some ⟨b, off, none⟩) p.vs.length vc) ∧ w'.cell? ⟨w.heap.size, 6, none⟩ = some (.slice ja p.js.length jc) ∧ w'.cell? ⟨w.heap.size, 7, none⟩ = some (.slice sa p.ss.length sc) ∧ w'.cell? ⟨w.heap.size + 1, 0, none⟩ = some (.int .i64 (k : Int)) ∧ w'.cell? ⟨w.heap.size + 1, 1, none⟩ = some (.slice a n c) ∧ w'.cell? ⟨w.heap.size + 1, 2, none⟩ = some (.int .i64 tm) ∧ w'.cell? ⟨w.heap.size + 1, 3, none⟩ = some (.int .i64 ds) ∧ w'.cell? ⟨w.heap.size + 1, 4, none⟩ = some (.int .i64 wt) ∧ w'.cell? ⟨w.heap.size + 1, 5, none⟩ = some (.int .i64 sv) ∧ w'.cell? ⟨w.heap.size + 1, 6, none⟩ = some (.int .i64 co) ∧ w'.cell? ⟨nb, j9, none⟩ = some (.int .i64 lj))) (by kernel_rfl) ?_ (fun hHeld0 => ?_)
      · (try dsimp only); first | fail | exact HS.out _ (Below.refl _ _) | exact HS.out _ ((Below.refl _ _).drew) | (go_keep; done)
      obtain ⟨u0, hu0⟩ : ∃ u, wr.drew = u := ⟨_, rfl⟩
      rw [hu0]
      rw [hu0] at hHeld0
      have K0 : Hid (Below wr.heap.size wr u0) := by show Below _ _ _; rw [← hu0]; exact ((Below.refl _ _).drew)
      clear hu0
      refine wpAnyH_take (i := 0) (oi := { dst := some 43, op := Op.load 29 (Operand.tmp 2), type := 29, pos := "slack.go:20", after := #[], guard := none }) (v := ?_) rfl (by kernel_rfl) (by kernel_rfl) (by kernel_rfl) (fun _ _ _ h => h) (Or.inl ⟨by rfl, ?_⟩) (by assumption) ?_
      rotate_left
      · intro w hSw; (try dsimp only at hSw); first | (go_simp; done) | (go_simp; with_reducible rfl) | with_reducible rfl | rfl
      try simp only [Act.put, List.setIfInBounds_toArray, List.set_cons_succ, List.set_cons_zero]
      refine wpAnyH_take (i := 1) (oi := { dst := some 44, op := Op.load 34 (Operand.tmp 3), type := 34, pos := "slack.go:20", after := #[], guard := none }) (v := ?_) rfl (by kernel_rfl) (by kernel_rfl) (by kernel_rfl) (fun _ _ _ h => h) (Or.inl ⟨by rfl, ?_⟩) (by assumption) ?_
      rotate_left
      · intro w hSw; (try dsimp only at hSw); first | (go_simp; done) | (go_simp; with_reducible rfl) | with_reducible rfl | rfl
      try simp only [Act.put, List.setIfInBounds_toArray, List.set_cons_succ, List.set_cons_zero]
      refine wpAnyH_take (i := 2) (oi := { dst := some 45, op := Op.move (Operand.tmp 7), type := 3, pos := "slack.go:20", after := #[], guard := none }) (v := ?_) rfl (by kernel_rfl) (by kernel_rfl) (by kernel_rfl) (fun _ _ _ h => h) (Or.inl ⟨by rfl, ?_⟩) (by assumption) ?_
      rotate_left
      · intro w hSw; (try dsimp only at hSw); first | (go_simp; done) | (go_simp; with_reducible rfl) | with_reducible rfl | rfl
      try simp only [Act.put, List.setIfInBounds_toArray, List.set_cons_succ, List.set_cons_zero]
      refine wpAnyH_take (i := 3) (oi := { dst := some 46, op := Op.move (Operand.tmp 6), type := 22, pos := "slack.go:20", after := #[], guard := none }) (v := ?_) rfl (by kernel_rfl) (by kernel_rfl) (by kernel_rfl) (fun _ _ _ h => h) (Or.inl ⟨by rfl, ?_⟩) (by assumption) ?_
      rotate_left
      · intro w hSw; (try dsimp only at hSw); first | (go_simp; done) | (go_simp; with_reducible rfl) | with_reducible rfl | rfl
      try simp only [Act.put, List.setIfInBounds_toArray, List.set_cons_succ, List.set_cons_zero]
      refine wpAnyH_take (i := 4) (oi := { dst := some 47, op := Op.move (Operand.tmp 7), type := 3, pos := "slack.go:20", after := #[], guard := none }) (v := ?_) rfl (by kernel_rfl) (by kernel_rfl) (by kernel_rfl) (fun _ _ _ h => h) (Or.inl ⟨by rfl, ?_⟩) (by assumption) ?_
      rotate_left
      · intro w hSw; (try dsimp only at hSw); first | (go_simp; done) | (go_simp; with_reducible rfl) | with_reducible rfl | rfl
      try simp only [Act.put, List.setIfInBounds_toArray, List.set_cons_succ, List.set_cons_zero]
      refine wpAnyH_take (i := 5) (oi := { dst := some 48, op := Op.binOp BinOp.add 3 (Operand.tmp 47) (Operand.const (Value.int IntKind.i64 1)) 3, type := 3, pos := "slack.go:20", after := #[{ on := 4, ground := Ground.data }], guard := none }) (v := ?_) rfl (by kernel_rfl) (by kernel_rfl) (by kernel_rfl) (fun _ _ _ h => h) (Or.inl ⟨by rfl, ?_⟩) (by assumption) ?_
      rotate_left
      · intro w hSw; (try dsimp only at hSw); first | (go_simp; done) | (go_simp; with_reducible rfl) | with_reducible rfl | rfl
      try simp only [Act.put, List.setIfInBounds_toArray, List.set_cons_succ, List.set_cons_zero]
      refine wpAnyH_take (i := 6) (oi := { dst := some 49, op := Op.indexAddr 22 (Operand.tmp 46) (Operand.tmp 48), type := 0, pos := "slack.go:20", after := #[{ on := 3, ground := Ground.data }, { on := 5, ground := Ground.data }], guard := none }) (v := ?_) rfl (by kernel_rfl) (by kernel_rfl) (by kernel_rfl) (fun _ _ _ h => h) (Or.inl ⟨by rfl, ?_⟩) (by assumption) ?_
      rotate_left
      · intro w hSw; (try dsimp only at hSw); first | (go_simp; done) | (go_simp; with_reducible rfl) | with_reducible rfl | rfl
      try simp only [Act.put, List.setIfInBounds_toArray, List.set_cons_succ, List.set_cons_zero]
      refine wpAnyH_take (i := 7) (oi := { dst := some 50, op := Op.load 3 (Operand.tmp 49), type := 3, pos := "slack.go:20", after := #[{ on := 6, ground := Ground.data }], guard := none }) (v := ?_) rfl (by kernel_rfl) (by kernel_rfl) (by kernel_rfl) (fun _ _ _ h => h) (Or.inl ⟨by rfl, ?_⟩) (by assumption) ?_
      rotate_left
      · intro w hSw; (try dsimp only at hSw); first | (go_simp; done) | (go_simp; with_reducible rfl) | with_reducible rfl | rfl
      try simp only [Act.put, List.setIfInBounds_toArray, List.set_cons_succ, List.set_cons_zero]
      refine wpAnyH_take (i := 8) (oi := { dst := some 51, op := Op.load 29 (Operand.tmp 2), type := 29, pos := "slack.go:20", after := #[], guard := none }) (v := ?_) rfl (by kernel_rfl) (by kernel_rfl) (by kernel_rfl) (fun _ _ _ h => h) (Or.inl ⟨by rfl, ?_⟩) (by assumption) ?_
      rotate_left
      · intro w hSw; (try dsimp only at hSw); first | (go_simp; done) | (go_simp; with_reducible rfl) | with_reducible rfl | rfl
      try simp only [Act.put, List.setIfInBounds_toArray, List.set_cons_succ, List.set_cons_zero]
      refine wpAnyH_take (i := 9) (oi := { dst := some 52, op := Op.load 34 (Operand.tmp 3), type := 34, pos := "slack.go:20", after := #[], guard := none }) (v := ?_) rfl (by kernel_rfl) (by kernel_rfl) (by kernel_rfl) (fun _ _ _ h => h) (Or.inl ⟨by rfl, ?_⟩) (by assumption) ?_
      rotate_left
      · intro w hSw; (try dsimp only at hSw); first | (go_simp; done) | (go_simp; with_reducible rfl) | with_reducible rfl | rfl
      try simp only [Act.put, List.setIfInBounds_toArray, List.set_cons_succ, List.set_cons_zero]
      refine wpAnyH_take (i := 10) (oi := { dst := some 53, op := Op.move (Operand.tmp 7), type := 3, pos := "slack.go:20", after := #[], guard := none }) (v := ?_) rfl (by kernel_rfl) (by kernel_rfl) (by kernel_rfl) (fun _ _ _ h => h) (Or.inl ⟨by rfl, ?_⟩) (by assumption) ?_
      rotate_left
      · intro w hSw; (try dsimp only at hSw); first | (go_simp; done) | (go_simp; with_reducible rfl) | with_reducible rfl | rfl
      try simp only [Act.put, List.setIfInBounds_toArray, List.set_cons_succ, List.set_cons_zero]
      refine wpAnyH_ready (rs := [11]) (by kernel_rfl) (by simp) ?_
      refine AllReadyH.cons (o := { dst := some 54, op := Op.call { callee := Callee.value (Operand.func 37), args := #[Operand.tmp 51, Operand.tmp 52, Operand.tmp 53], argTypes := #[29, 34, 3] }, type := 3, pos := "slack.go:20", after := #[{ on := 8, ground := Ground.data }, { on := 9, ground := Ground.data }, { on := 10, ground := Ground.data }], guard := none }) rfl (fun K hK => ?_) ?_
      · refine held_call (by rfl) 37 _ _ (by rfl) hent37 [.agg #[.int .i64 p.dims, .int .i64 p.time.n, .slice ta p.time.cells.length tc, .int .i64 p.dist.n, .slice da p.dist.cells.length dc, .slice (some ⟨b, off, none⟩) p.vs.length vc, .slice ja p.js.length jc, .slice sa p.ss.length sc], .agg #[.int .i64 (k : Int), .slice a n c, .int .i64 tm, .int .i64 ds, .int .i64 wt, .int .i64 sv, .int .i64 co], .int .i64 (j : Int)] (by rfl) ?_; refine (H37.out _ (HF.out _ K0.out)).mono ?_; rintro e u1 ⟨rfl, k9⟩; refine ⟨_, rfl, ?_⟩; have E1 := hide k9; have K1 := hide (below_on K0.out k9); clear k9
        refine hK.out _ _ ?_ (fun hHeld1 => ?_)
        · (try dsimp only); exact HS.out _ K1.out
        clear hK K
        try simp only [Act.put, List.setIfInBounds_toArray, List.set_cons_succ, List.set_cons_zero]
        clear hHeld0
        refine wpAnyH_take (i := 12) (oi := { dst := some 55, op := Op.binOp BinOp.sub 3 (Operand.tmp 50) (Operand.tmp 54) 3, type := 3, pos := "slack.go:20", after := #[{ on := 7, ground := Ground.data }, { on := 11, ground := Ground.data }], guard := none }) (v := ?_) rfl (by kernel_rfl) (by kernel_rfl) (by kernel_rfl) (fun _ _ _ h => h) (Or.inl ⟨by rfl, ?_⟩) (by assumption) ?_
        rotate_left
        · intro w hSw; (try dsimp only at hSw); first | (go_simp; done) | (go_simp; with_reducible rfl) | with_reducible rfl | rfl
        try simp only [Act.put, List.setIfInBounds_toArray, List.set_cons_succ, List.set_cons_zero]
        refine wpAnyH_ready (rs := [13]) (by kernel_rfl) (by simp) ?_
        refine AllReadyH.cons (o := { dst := some 56, op := Op.call { callee := Callee.value (Operand.func 36), args := #[Operand.tmp 43, Operand.tmp 44, Operand.tmp 45, Operand.tmp 55], argTypes := #[29, 34, 3, 3] }, type := 39, pos := "slack.go:20", after := #[{ on := 0, ground := Ground.data }, { on := 1, ground := Ground.data }, { on := 2, ground := Ground.data }, { on := 12, ground := Ground.data }, { on := 11, ground := Ground.chain }], guard := none }) rfl (fun K hK => ?_) ?_
        · refine held_call (by rfl) 36 _ _ (by rfl) hent36 [.agg #[.int .i64 p.dims, .int .i64 p.time.n, .slice ta p.time.cells.length tc, .int .i64 p.dist.n, .slice da p.dist.cells.length dc, .slice (some ⟨b, off, none⟩) p.vs.length vc, .slice ja p.js.length jc, .slice sa p.ss.length sc], .agg #[.int .i64 (k : Int), .slice a n c, .int .i64 tm, .int .i64 ds, .int .i64 wt, .int .i64 sv, .int .i64 co], .int .i64 (j : Int), .int .i64 (lj - d)] (by rfl) ?_; refine (H36.out _ (HF.out _ K1.out)).mono ?_; rintro e u2 ⟨rfl, k9⟩; refine ⟨_, rfl, ?_⟩; have E2 := hide k9; have K2 := hide (below_on K1.out k9); clear k9
          refine hK.out _ _ ?_ (fun hHeld2 => ?_)
          · (try dsimp only); exact HS.out _ K2.out
          clear hK K
          try simp only [Act.put, List.setIfInBounds_toArray, List.set_cons_succ, List.set_cons_zero]
          clear hHeld1
          refine wpAnyH_take (i := 14) (oi := { dst := some 42, op := Op.move (Operand.tmp 56), type := 39, pos := "slack.go:20", after := #[{ on := 13, ground := Ground.data }], guard := none }) (v := ?_) rfl (by kernel_rfl) (by kernel_rfl) (by kernel_rfl) (fun _ _ _ h => h) (Or.inl ⟨by rfl, ?_⟩) (by assumption) ?_
          rotate_left
          · intro w hSw; (try dsimp only at hSw); first | (go_simp; done) | (go_simp; with_reducible rfl) | with_reducible rfl | rfl
          try simp only [Act.put, List.setIfInBounds_toArray, List.set_cons_succ, List.set_cons_zero]
          refine wpAnyH_take (i := 15) (oi := { dst := some 57, op := Op.extract (Operand.tmp 42) 0, type := 3, pos := "slack.go:20", after := #[{ on := 14, ground := Ground.data }], guard := none }) (v := ?_) rfl (by kernel_rfl) (by kernel_rfl) (by kernel_rfl) (fun _ _ _ h => h) (Or.inl ⟨by rfl, ?_⟩) (by assumption) ?_
          rotate_left
          · intro w hSw; (try dsimp only at hSw); first | (go_simp; done) | (go_simp; with_reducible rfl) | with_reducible rfl | rfl
          try simp only [Act.put, List.setIfInBounds_toArray, List.set_cons_succ, List.set_cons_zero]
          refine wpAnyH_take (i := 16) (oi := { dst := some 58, op := Op.extract (Operand.tmp 42) 1, type := 4, pos := "slack.go:20", after := #[{ on := 14, ground := Ground.data }, { on := 17, ground := Ground.gcOnly Departure.lateStores }], guard := none }) (v := ?_) rfl (by kernel_rfl) (by kernel_rfl) (by kernel_rfl) (fun _ _ _ h => h) (Or.inl ⟨by rfl, ?_⟩) (by assumption) ?_
          rotate_left
          · intro w hSw; (try dsimp only at hSw); first | (go_simp; done) | (go_simp; with_reducible rfl) | with_reducible rfl | rfl
          try simp only [Act.put, List.setIfInBounds_toArray, List.set_cons_succ, List.set_cons_zero]
          refine wpAnyH_take (i := 17) (oi := { dst := some 8, op := Op.assign (Operand.tmp 57), type := 3, pos := "slack.go:20", after := #[{ on := 15, ground := Ground.data }, { on := 13, ground := Ground.chain }, { on := 0, ground := Ground.phase }, { on := 1, ground := Ground.phase }, { on := 2, ground := Ground.phase }, { on := 3, ground := Ground.phase }, { on := 4, ground := Ground.phase }, { on := 5, ground := Ground.phase }, { on := 6, ground := Ground.phase }, { on := 7, ground := Ground.phase }, { on := 8, ground := Ground.phase }, { on := 9, ground := Ground.phase }, { on := 10, ground := Ground.phase }, { on := 11, ground := Ground.phase }, { on := 12, ground := Ground.phase }, { on := 13, ground := Ground.phase }, { on := 14, ground := Ground.phase }, { on := 15, ground := Ground.phase }, { on := 16, ground := Ground.textOnly Departure.lateStores }], guard := none }) (v := ?_) rfl (by kernel_rfl) (by kernel_rfl) (by kernel_rfl) (fun _ _ _ h => h) (Or.inl ⟨by rfl, ?_⟩) (by assumption) ?_
          rotate_left
          · intro w hSw; (try dsimp only at hSw); first | (go_simp; done) | (go_simp; with_reducible rfl) | with_reducible rfl | rfl
          try simp only [Act.put, List.setIfInBounds_toArray, List.set_cons_succ, List.set_cons_zero]
          refine wpAnyH_take (i := 18) (oi := { dst := some 9, op := Op.assign (Operand.tmp 58), type := 4, pos := "slack.go:20", after := #[{ on := 16, ground := Ground.data }, { on := 17, ground := Ground.chain }, { on := 0, ground := Ground.phase }, { on := 1, ground := Ground.phase }, { on := 2, ground := Ground.phase }, { on := 3, ground := Ground.phase }, { on := 4, ground := Ground.phase }, { on := 5, ground := Ground.phase }, { on := 6, ground := Ground.phase }, { on := 7, ground := Ground.phase }, { on := 8, ground := Ground.phase }, { on := 9, ground := Ground.phase }, { on := 10, ground := Ground.phase }, { on := 11, ground := Ground.phase }, { on := 12, ground := Ground.phase }, { on := 13, ground := Ground.phase }, { on := 14, ground := Ground.phase }, { on := 15, ground := Ground.phase }, { on := 16, ground := Ground.phase }, { on := 17, ground := Ground.phase }], guard := none }) (v := ?_) rfl (by kernel_rfl) (by kernel_rfl) (by kernel_rfl) (fun _ _ _ h => h) (Or.inl ⟨by rfl, ?_⟩) (by assumption) ?_
          rotate_left
          · intro w hSw; (try dsimp only at hSw); first | (go_simp; done) | (go_simp; with_reducible rfl) | with_reducible rfl | rfl
          try simp only [Act.put, List.setIfInBounds_toArray, List.set_cons_succ, List.set_cons_zero]
          refine wpAnyH_done (by kernel_rfl) ?_ _
          clear hHeld2
          have hQ2 : IRow u2 nb (.slice (some ⟨nb, 0, none⟩) n n) (rowL l n (j + 1)) := HQ.out.later (Nat.le_refl _) K2.out
          have cj : u2.cell? ⟨nb, j, none⟩ = some (.int .i64 0) := by have h9 := hQ2.cell j (by rw [rowL_len]; have h1 := HNM.out; omega); rw [h9, getElem!_pos _ j (by rw [rowL_len]; have h1 := HNM.out; omega)]; simp only [rowL, List.getElem_map, List.getElem_range]; rw [if_neg (by omega)]
          have fj : u2.frozen? ⟨nb, j, none⟩ = false := hQ2.frozen j
          have HQ2 := hide hQ2
          clear hQ2
          go_wp2_with fail
          go_roundw
          case rel =>
           refine ⟨j, rfl, by omega, ?_, (HNwr.out.trans (K2.out.mono (Nat.le_of_lt hnbw))).setCell (Nat.le_refl _) _⟩
           have h9 := HQ2.out.set j lx
           have h8 := rowL_set l n j
           rw [HLX.out] at h8
           rw [h8] at h9
           exact h9
          case measure => simp [intOf]
        exact AllReadyH.nil
      exact AllReadyH.nil
end Go.Proofs.Ytndbikoccdjafaa
