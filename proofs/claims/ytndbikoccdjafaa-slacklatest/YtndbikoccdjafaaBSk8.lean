/-
  slack.Spare 15: by how much each step may be come to later than it is.
-/
import Derived.Test.YtndbikoccdjafaaBSk7
namespace Go.Proofs.Ytndbikoccdjafaa
open Go.RowKit
theorem irow_self {w : World} {base g n c : Nat} {xs : List Int} (h : IRow w base (.slice (some ⟨g, 0, none⟩) n c) xs) : IRow w g (.slice (some ⟨g, 0, none⟩) n c) xs := by
  obtain ⟨h1, h2⟩ := h
  refine ⟨h1, ?_⟩
  rcases h2 with ⟨h2, _⟩ | ⟨g2, cap, cur, e, a, r⟩
  · cases h2
  · cases e
    exact .inr ⟨g, _, cur, rfl, Nat.le_refl _, r⟩
/-- When one comes to a step. -/
def arrAt (L : List StepT) (j : Nat) : Int := ((L[j]?).map StepT.arr).getD 0
/-- The row of what is to spare in the making. -/
def rowS (l : List Int) (A : Nat → Int) (n q : Nat) : List Int := (List.range n).map fun j => if j < q then l.getD j 0 - A j else l.getD j 0
theorem rowS_len (l : List Int) (A : Nat → Int) (n q : Nat) : (rowS l A n q).length = n := by simp [rowS]
theorem rowS_none {l : List Int} {A : Nat → Int} {n : Nat} (h : l.length = n) : rowS l A n 0 = l := by
  apply List.ext_getElem
  · simp [rowS, h]
  · intro i h1 h2
    simp only [rowS, List.getElem_map, List.getElem_range]
    rw [if_neg (Nat.not_lt_zero _), List.getD_eq_getElem?_getD, List.getElem?_eq_getElem h2]; rfl
theorem rowS_set (l : List Int) (A : Nat → Int) (n q : Nat) : (rowS l A n q).set q (l.getD q 0 - A q) = rowS l A n (q + 1) := by
  apply List.ext_getElem
  · simp [rowS]
  · intro i h1 h2
    rw [List.getElem_set]
    simp only [rowS, List.getElem_map, List.getElem_range]
    by_cases e : q = i
    · subst e; rw [if_pos rfl, if_pos (Nat.lt_succ_self _)]
    · rw [if_neg e]
      by_cases h : i < q
      · rw [if_pos h, if_pos (by omega)]
      · rw [if_neg h, if_neg (by omega)]
theorem rowS_at {l : List Int} {A : Nat → Int} {n q j : Nat} (h : q ≤ j) (hj : j < n) : (rowS l A n q)[j]! = l.getD j 0 := by
  rw [getElem!_pos (rowS l A n q) j (by rw [rowS_len]; exact hj)]
  simp only [rowS, List.getElem_map, List.getElem_range]
  rw [if_neg (by omega)]
theorem rowS_whole {l : List Int} {A : Nat → Int} {n j : Nat} (hj : j < n) : (rowS l A n n)[j]! = l.getD j 0 - A j := by
  rw [getElem!_pos (rowS l A n n) j (by rw [rowS_len]; exact hj)]
  simp only [rowS, List.getElem_map, List.getElem_range]
  rw [if_pos hj]
set_option maxRecDepth 100000 in
set_option maxHeartbeats 6400000 in
theorem spare_any {w : World} {x : PrbS} {p : Prb} {k n : Nat} {a : Option Addr} {L : List StepT} {G : List Stg} {l : List Int} (h : SlkV w x p k a n L G) (hl : latG (p.vs.getD k vz).shift.2 G = some l) (hA : ∀ (j : Nat) (s : StepT), L[j]? = some s → -1000000000 ≤ s.arr ∧ s.arr ≤ 1000000000) (c : Nat) (tm ds wt sv co : Int) : Calls Try.prog 15 #[.agg (prbE p x), .agg (planC k (.slice a n c) tm ds wt sv co)] w fun e w' => ∃ g, e = .returned (.slice (some ⟨g, 0, none⟩) n n) ∧ IRow w' w.heap.size (.slice (some ⟨g, 0, none⟩) n n) (rowS l (arrAt L) n n) ∧ Below w.heap.size w w' := by
  have HV := hide h
  have HL := hide hl
  have HA := hide hA
  have hlen := h.rt.len
  have hlow := h.rt.low
  have hhi := h.rt.high
  have hn := h.stp.1
  have hk := h.veh
  have hsh := (veh_ok (law_veh h.law hk)).shift
  have hbd := lat_bd h.rt ⟨by omega, by omega⟩ hl
  obtain ⟨ta, tc, da, dc, va, vc, ja, jc, sa, sc, rfl⟩ := h.prb.open
  obtain ⟨s0, t0, hs0, _, _⟩ := h.rt.step 0 hlow
  obtain ⟨g, y0, rfl, hg, _⟩ := h.stp.2 0 s0 hs0
  have H13 : Hid (∀ W2, Below w.heap.size w W2 → Calls Try.prog 13 #[.agg #[.int .i64 p.dims, .int .i64 p.time.n, .slice ta p.time.cells.length tc, .int .i64 p.dist.n, .slice da p.dist.cells.length dc, .slice va p.vs.length vc, .slice ja p.js.length jc, .slice sa p.ss.length sc], .agg #[.int .i64 (k : Int), .slice (some ⟨g, 0, none⟩) n c, .int .i64 tm, .int .i64 ds, .int .i64 wt, .int .i64 sv, .int .i64 co]] W2 fun e w' => ∃ g, e = .returned (.slice (some ⟨g, 0, none⟩) n n) ∧ IRow w' W2.heap.size (.slice (some ⟨g, 0, none⟩) n n) l ∧ Below W2.heap.size W2 w') := fun W2 hf => latest_any (HV.out.on hf) HL.out c tm ds wt sv co
  have HBD := hide hbd
  have HLN : Hid (l.length = n ∧ n ≤ 100 ∧ n = G.length + 1) := by
    have h1 := hbd.1
    show _ ∧ _ ∧ _
    omega
  have HST : Hid (∀ W2, Below w.heap.size w W2 → ∀ j, j < n → W2.cell? ⟨g, j * 9 + 3, none⟩ = some (.int .i64 (arrAt L j)) ∧ -1000000000 ≤ arrAt L j ∧ arrAt L j ≤ 1000000000) := fun W2 hf j hj => by
    obtain ⟨s, hs⟩ : ∃ s, L[j]? = some s := ⟨_, List.getElem?_eq_getElem (by omega)⟩
    obtain ⟨g2, y2, e2, _, hc2⟩ := (HV.out.on hf).stp.2 j s hs
    injection e2 with e2
    injection e2 with e2
    subst e2
    have ea : arrAt L j = s.arr := by unfold arrAt; rw [hs]; rfl
    rw [ea]
    exact ⟨hc2 3 (by decide), HA.out j s hs⟩
  clear h hl hA hlen hlow hhi hn hk hsh hbd hs0
  unfold prbE planC
  simp only
  obtain ⟨W, hW⟩ : ∃ W, (w.alloc (.cells #[.int .i64 p.dims, .int .i64 p.time.n, .slice ta p.time.cells.length tc, .int .i64 p.dist.n, .slice da p.dist.cells.length dc, .slice va p.vs.length vc, .slice ja p.js.length jc, .slice sa p.ss.length sc] 29)).alloc (.cells #[.int .i64 (k : Int), .slice (some ⟨g, 0, none⟩) n c, .int .i64 tm, .int .i64 ds, .int .i64 wt, .int .i64 sv, .int .i64 co] 34) = W := ⟨_, rfl⟩
  have HB : Hid (Below w.heap.size w W) := by show Below _ _ _; rw [← hW]; exact ((Below.refl _ _).alloc (Nat.le_refl _) _).alloc (by simp) _
  have HX1 : Hid (W.heap[w.heap.size]? = some (.cells #[.int .i64 p.dims, .int .i64 p.time.n, .slice ta p.time.cells.length tc, .int .i64 p.dist.n, .slice da p.dist.cells.length dc, .slice va p.vs.length vc, .slice ja p.js.length jc, .slice sa p.ss.length sc] 29 (0, 0))) := by
    show _ = _
    rw [← hW, heap_alloc_old _ _ (by simp)]
    exact new_block _ _
  have HX2 : Hid (W.heap[w.heap.size + 1]? = some (.cells #[.int .i64 (k : Int), .slice (some ⟨g, 0, none⟩) n c, .int .i64 tm, .int .i64 ds, .int .i64 wt, .int .i64 sv, .int .i64 co] 34 (0, 0))) := by
    show _ = _
    rw [← hW]
    have h9 := new_block (w.alloc (.cells #[.int .i64 p.dims, .int .i64 p.time.n, .slice ta p.time.cells.length tc, .int .i64 p.dist.n, .slice da p.dist.cells.length dc, .slice va p.vs.length vc, .slice ja p.js.length jc, .slice sa p.ss.length sc] 29)) (.cells #[.int .i64 (k : Int), .slice (some ⟨g, 0, none⟩) n c, .int .i64 tm, .int .i64 ds, .int .i64 wt, .int .i64 sv, .int .i64 co] 34)
    rw [show (w.alloc (.cells #[.int .i64 p.dims, .int .i64 p.time.n, .slice ta p.time.cells.length tc, .int .i64 p.dist.n, .slice da p.dist.cells.length dc, .slice va p.vs.length vc, .slice ja p.js.length jc, .slice sa p.ss.length sc] 29)).heap.size = w.heap.size + 1 from by simp] at h9
    exact h9
  have a10 : W.cell? ⟨w.heap.size, 0, none⟩ = some (.int .i64 p.dims) := cell_of_row _ _ _ _ _ _ HX1.out
  have a11 : W.cell? ⟨w.heap.size, 1, none⟩ = some (.int .i64 p.time.n) := cell_of_row _ _ _ _ _ _ HX1.out
  have a12 : W.cell? ⟨w.heap.size, 2, none⟩ = some (.slice ta p.time.cells.length tc) := cell_of_row _ _ _ _ _ _ HX1.out
  have a13 : W.cell? ⟨w.heap.size, 3, none⟩ = some (.int .i64 p.dist.n) := cell_of_row _ _ _ _ _ _ HX1.out
  have a14 : W.cell? ⟨w.heap.size, 4, none⟩ = some (.slice da p.dist.cells.length dc) := cell_of_row _ _ _ _ _ _ HX1.out
  have a15 : W.cell? ⟨w.heap.size, 5, none⟩ = some (.slice va p.vs.length vc) := cell_of_row _ _ _ _ _ _ HX1.out
  have a16 : W.cell? ⟨w.heap.size, 6, none⟩ = some (.slice ja p.js.length jc) := cell_of_row _ _ _ _ _ _ HX1.out
  have a17 : W.cell? ⟨w.heap.size, 7, none⟩ = some (.slice sa p.ss.length sc) := cell_of_row _ _ _ _ _ _ HX1.out
  have a20 : W.cell? ⟨w.heap.size + 1, 0, none⟩ = some (.int .i64 (k : Int)) := cell_of_row _ _ _ _ _ _ HX2.out
  have a21 : W.cell? ⟨w.heap.size + 1, 1, none⟩ = some (.slice (some ⟨g, 0, none⟩) n c) := cell_of_row _ _ _ _ _ _ HX2.out
  have a22 : W.cell? ⟨w.heap.size + 1, 2, none⟩ = some (.int .i64 tm) := cell_of_row _ _ _ _ _ _ HX2.out
  have a23 : W.cell? ⟨w.heap.size + 1, 3, none⟩ = some (.int .i64 ds) := cell_of_row _ _ _ _ _ _ HX2.out
  have a24 : W.cell? ⟨w.heap.size + 1, 4, none⟩ = some (.int .i64 wt) := cell_of_row _ _ _ _ _ _ HX2.out
  have a25 : W.cell? ⟨w.heap.size + 1, 5, none⟩ = some (.int .i64 sv) := cell_of_row _ _ _ _ _ _ HX2.out
  have a26 : W.cell? ⟨w.heap.size + 1, 6, none⟩ = some (.int .i64 co) := cell_of_row _ _ _ _ _ _ HX2.out
  go_enter Try.func15, Try.ntmps15
  go_wp2_with (first | (go_at_call 13; refine (H13.out _ HB.out).mono ?_; rintro e u1 ⟨nb, rfl, hq, kk⟩; have E1 := hide kk; have HR1 := hide hq; clear kk hq) | fail)
  clear a10 a11 a12 a13 a14 a15 a16 a17 a20 a21 a22 a23 a24 a25 a26
  have HNL : Hid (w.heap.size + 1 < nb) := by show _ < _; have h1 := lt_of_block HX2.out; have h2 := (World.ownsRow.lt HR1.out nb rfl).1; omega
  have HGN : Hid (g < nb) := by show _ < _; have h1 := HNL.out; omega
  have HWN : Hid (W.heap.size ≤ nb) := (World.ownsRow.lt HR1.out nb rfl).1
  have HR1 : Hid (IRow u1 nb (.slice (some ⟨nb, 0, none⟩) n n) (rowS l (arrAt L) n 0)) := by
    show IRow _ _ _ _
    rw [rowS_none HLN.out.1]
    exact irow_self HR1.out
  go_loopw [12] (fun vi wr => ∃ q : Nat, vi = .int .i64 q ∧ q ≤ n ∧ Hid (IRow wr nb (.slice (some ⟨nb, 0, none⟩) n n) (rowS l (arrAt L) n q)) ∧ Hid (Below W.heap.size W wr)) (fun vi _ => n - (intOf vi).toNat)
  case atStart => exact ⟨0, rfl, Nat.zero_le _, HR1.out, E1.out⟩
  case round =>
    clear HR1
    rename World => wr
    obtain ⟨q, rfl, hq, HQ, HNwr⟩ := hrel
    by_cases hqn : q < n
    · obtain ⟨hst, hb1⟩ := HST.out wr (below_on HB.out HNwr.out) q hqn
      have hb2 := HBD.out.2.2 q (by have h1 := HLN.out; omega)
      have hcj : wr.cell? ⟨nb, q, none⟩ = some (.int .i64 (l.getD q 0)) := by have h9 := HQ.out.cell q (by rw [rowS_len]; exact hqn); rw [rowS_at (Nat.le_refl _) hqn] at h9; exact h9
      have hfj : wr.frozen? ⟨nb, q, none⟩ = false := HQ.out.frozen q
      have c21 : wr.cell? ⟨w.heap.size + 1, 1, none⟩ = some (.slice (some ⟨g, 0, none⟩) n c) := ((bcell HNwr.out).1 _ _ (lt_of_block HX2.out)).trans (cell_of_row _ _ _ _ _ _ HX2.out)
      have j1 : (q : Int) < (n : Int) := by omega
      have j2 : (0 : Int) ≤ (q : Int) := by omega
      obtain ⟨lq, hlq⟩ : ∃ z, l.getD q 0 = z := ⟨_, rfl⟩
      obtain ⟨aq, haq⟩ : ∃ z, arrAt L q = z := ⟨_, rfl⟩
      rw [hlq] at hb2 hcj
      rw [haq] at hst hb1
      have j3 : IntKind.i64.wrap (lq - aq) = lq - aq := by rw [IntKind.wrap_i64]; omega
      have HLQ : Hid (lq - aq = l.getD q 0 - arrAt L q) := by show _ = _; rw [hlq, haq]
      have g1 : ¬ nb = w.heap.size + 1 := by have h1 := HNL.out; omega
      have g2 : ¬ nb = g := by have h1 := HGN.out; omega
      have g3 : ¬ g = nb := by have h1 := HGN.out; omega
      have j4 : IntKind.i64.wrap ((q : Int) + 1) = ((q + 1 : Nat) : Int) := by rw [IntKind.wrap_i64]; have h1 := HLN.out; omega
      clear hlq haq hb1 hb2
      have HS : Hid (∀ w', Below nb wr w' → w'.cell? ⟨w.heap.size + 1, 1, none⟩ = some (.slice (some ⟨g, 0, none⟩) n c) ∧ w'.cell? ⟨g, q * 9 + 3, none⟩ = some (.int .i64 aq)) := fun w' hf => ⟨(hf.cell (p := ⟨w.heap.size + 1, 1, none⟩) HNL.out).trans c21, (hf.cell (p := ⟨g, q * 9 + 3, none⟩) HGN.out).trans hst⟩
      have HCJ := hide hcj
      have HFJ := hide hfj
      clear c21 hst hcj hfj
      go_upto_region 5 with fail
      refine wp_region_held_drew (S := (fun w' => w'.cell? ⟨w.heap.size + 1, 1, none⟩ = some (.slice (some ⟨g, 0, none⟩) n c) ∧ w'.cell? ⟨g, q * 9 + 3, none⟩ = some (.int .i64 aq))) (by kernel_rfl) ?_ (fun hHeld0 => ?_)
      · (try dsimp only); first | exact HS.out _ (Below.refl _ _).drew | exact HS.out _ (Below.refl _ _) | exact HS.out _ ((Below.refl _ _).drew) | (go_keep; done)
      obtain ⟨u0, hu0⟩ : ∃ u, wr.drew = u := ⟨_, rfl⟩
      rw [hu0]
      rw [hu0] at hHeld0
      have K0 : Hid (Below wr.heap.size wr u0) := by show Below _ _ _; rw [← hu0]; exact ((Below.refl _ _).drew)
      clear hu0
      have KN : Hid (Below nb wr u0) := by show Below _ _ _; exact K0.out.mono (Nat.le_of_lt (World.ownsRow.lt HQ.out nb rfl).2)
      have HQU := hide (HQ.out.later (Nat.le_refl _) K0.out)
      have HCU := hide (((bcell K0.out).1 _ _ (World.ownsRow.lt HQ.out nb rfl).2).trans HCJ.out)
      have HFU := hide (HQU.out.frozen q)
      have K0 := KN
      refine wpAnyH_take (i := 0) (oi := { dst := some 15, op := Op.move (Operand.tmp 5), type := 22, pos := "slack.go:34", after := #[], guard := none }) (v := ?_) rfl (by kernel_rfl) (by kernel_rfl) (by kernel_rfl) (fun _ _ _ h => h) (Or.inl ⟨by rfl, ?_⟩) (by assumption) ?_
      rotate_left
      · intro w hSw; (try dsimp only at hSw); first | (go_simp; done) | (go_simp; with_reducible rfl) | with_reducible rfl | rfl
      try simp only [Act.put, List.setIfInBounds_toArray, List.set_cons_succ, List.set_cons_zero]
      refine wpAnyH_take (i := 1) (oi := { dst := some 16, op := Op.move (Operand.tmp 6), type := 3, pos := "slack.go:34", after := #[], guard := none }) (v := ?_) rfl (by kernel_rfl) (by kernel_rfl) (by kernel_rfl) (fun _ _ _ h => h) (Or.inl ⟨by rfl, ?_⟩) (by assumption) ?_
      rotate_left
      · intro w hSw; (try dsimp only at hSw); first | (go_simp; done) | (go_simp; with_reducible rfl) | with_reducible rfl | rfl
      try simp only [Act.put, List.setIfInBounds_toArray, List.set_cons_succ, List.set_cons_zero]
      refine wpAnyH_take (i := 2) (oi := { dst := some 17, op := Op.indexAddr 22 (Operand.tmp 15) (Operand.tmp 16), type := 0, pos := "slack.go:34", after := #[{ on := 0, ground := Ground.data }, { on := 1, ground := Ground.data }], guard := none }) (v := ?_) rfl (by kernel_rfl) (by kernel_rfl) (by kernel_rfl) (fun _ _ _ h => h) (Or.inl ⟨by rfl, ?_⟩) (by assumption) ?_
      rotate_left
      · intro w hSw; (try dsimp only at hSw); first | (go_simp; done) | (go_simp; with_reducible rfl) | with_reducible rfl | rfl
      try simp only [Act.put, List.setIfInBounds_toArray, List.set_cons_succ, List.set_cons_zero]
      refine wpAnyH_take (i := 4) (oi := { dst := some 19, op := Op.fieldAddr 34 (Operand.tmp 3) 1, type := 0, pos := "slack.go:34", after := #[], guard := none }) (v := ?_) rfl (by kernel_rfl) (by kernel_rfl) (by kernel_rfl) (fun _ _ _ h => h) (Or.inl ⟨by rfl, ?_⟩) (by assumption) ?_
      rotate_left
      · intro w hSw; (try dsimp only at hSw); first | (go_simp; done) | (go_simp; with_reducible rfl) | with_reducible rfl | rfl
      try simp only [Act.put, List.setIfInBounds_toArray, List.set_cons_succ, List.set_cons_zero]
      refine wpAnyH_take (i := 5) (oi := { dst := some 20, op := Op.load 32 (Operand.tmp 19), type := 32, pos := "slack.go:34", after := #[{ on := 4, ground := Ground.data }], guard := none }) (v := ?_) rfl (by kernel_rfl) (by kernel_rfl) (by kernel_rfl) (fun _ _ _ h => h) (Or.inl ⟨by rfl, ?_⟩) (by assumption) ?_
      rotate_left
      · intro w hSw; (try dsimp only at hSw); first | (go_simp; done) | (go_simp; with_reducible rfl) | with_reducible rfl | rfl
      try simp only [Act.put, List.setIfInBounds_toArray, List.set_cons_succ, List.set_cons_zero]
      refine wpAnyH_take (i := 6) (oi := { dst := some 21, op := Op.move (Operand.tmp 6), type := 3, pos := "slack.go:34", after := #[], guard := none }) (v := ?_) rfl (by kernel_rfl) (by kernel_rfl) (by kernel_rfl) (fun _ _ _ h => h) (Or.inl ⟨by rfl, ?_⟩) (by assumption) ?_
      rotate_left
      · intro w hSw; (try dsimp only at hSw); first | (go_simp; done) | (go_simp; with_reducible rfl) | with_reducible rfl | rfl
      try simp only [Act.put, List.setIfInBounds_toArray, List.set_cons_succ, List.set_cons_zero]
      refine wpAnyH_take (i := 7) (oi := { dst := some 22, op := Op.indexAddr 32 (Operand.tmp 20) (Operand.tmp 21), type := 0, pos := "slack.go:34", after := #[{ on := 5, ground := Ground.data }, { on := 6, ground := Ground.data }], guard := none }) (v := ?_) rfl (by kernel_rfl) (by kernel_rfl) (by kernel_rfl) (fun _ _ _ h => h) (Or.inl ⟨by rfl, ?_⟩) (by assumption) ?_
      rotate_left
      · intro w hSw; (try dsimp only at hSw); first | (go_simp; done) | (go_simp; with_reducible rfl) | with_reducible rfl | rfl
      try simp only [Act.put, List.setIfInBounds_toArray, List.set_cons_succ, List.set_cons_zero]
      refine wpAnyH_take (i := 8) (oi := { dst := some 23, op := Op.fieldAddr 45 (Operand.tmp 22) 2, type := 0, pos := "slack.go:34", after := #[{ on := 7, ground := Ground.data }], guard := none }) (v := ?_) rfl (by kernel_rfl) (by kernel_rfl) (by kernel_rfl) (fun _ _ _ h => h) (Or.inl ⟨by rfl, ?_⟩) (by assumption) ?_
      rotate_left
      · intro w hSw; (try dsimp only at hSw); first | (go_simp; done) | (go_simp; with_reducible rfl) | with_reducible rfl | rfl
      try simp only [Act.put, List.setIfInBounds_toArray, List.set_cons_succ, List.set_cons_zero]
      refine wpAnyH_take (i := 9) (oi := { dst := some 24, op := Op.load 3 (Operand.tmp 23), type := 3, pos := "slack.go:34", after := #[{ on := 8, ground := Ground.data }], guard := none }) (v := ?_) rfl (by kernel_rfl) (by kernel_rfl) (by kernel_rfl) (fun _ _ _ h => h) (Or.inl ⟨by rfl, ?_⟩) (by assumption) ?_
      rotate_left
      · intro w hSw; (try dsimp only at hSw); first | (go_simp; done) | (go_simp; with_reducible rfl) | with_reducible rfl | rfl
      try simp only [Act.put, List.setIfInBounds_toArray, List.set_cons_succ, List.set_cons_zero]
      refine wpAnyH_ready (rs := [3]) (by kernel_rfl) (by simp) ?_
      refine AllReadyH.cons (o := { dst := some 18, op := Op.load 3 (Operand.tmp 17), type := 3, pos := "slack.go:34", after := #[{ on := 2, ground := Ground.data }], guard := none }) rfl (fun K hK => ?_) ?_
      · (have cx : u0.cell? ⟨nb, q, none⟩ = some (.int .i64 lq) := HCU.out; go_simp; clear cx)
        refine hK.out _ _ ?_ (fun hHeld1 => ?_)
        · (try dsimp only); exact HS.out _ K0.out
        clear hK K
        try simp only [Act.put, List.setIfInBounds_toArray, List.set_cons_succ, List.set_cons_zero]
        clear hHeld0
        refine wpAnyH_take (i := 10) (oi := { dst := some 25, op := Op.binOp BinOp.sub 3 (Operand.tmp 18) (Operand.tmp 24) 3, type := 3, pos := "slack.go:34", after := #[{ on := 3, ground := Ground.data }, { on := 9, ground := Ground.data }], guard := none }) (v := ?_) rfl (by kernel_rfl) (by kernel_rfl) (by kernel_rfl) (fun _ _ _ h => h) (Or.inl ⟨by rfl, ?_⟩) (by assumption) ?_
        rotate_left
        · intro w hSw; (try dsimp only at hSw); first | (go_simp; done) | (go_simp; with_reducible rfl) | with_reducible rfl | rfl
        try simp only [Act.put, List.setIfInBounds_toArray, List.set_cons_succ, List.set_cons_zero]
        refine wpAnyH_take (i := 11) (oi := { dst := some 26, op := Op.indexAddr 22 (Operand.tmp 15) (Operand.tmp 16), type := 0, pos := "slack.go:34", after := #[{ on := 0, ground := Ground.data }, { on := 1, ground := Ground.data }, { on := 0, ground := Ground.phase }, { on := 1, ground := Ground.phase }, { on := 2, ground := Ground.phase }, { on := 3, ground := Ground.phase }, { on := 4, ground := Ground.phase }, { on := 5, ground := Ground.phase }, { on := 6, ground := Ground.phase }, { on := 7, ground := Ground.phase }, { on := 8, ground := Ground.phase }, { on := 9, ground := Ground.phase }, { on := 10, ground := Ground.phase }], guard := none }) (v := ?_) rfl (by kernel_rfl) (by kernel_rfl) (by kernel_rfl) (fun _ _ _ h => h) (Or.inl ⟨by rfl, ?_⟩) (by assumption) ?_
        rotate_left
        · intro w hSw; (try dsimp only at hSw); first | (go_simp; done) | (go_simp; with_reducible rfl) | with_reducible rfl | rfl
        try simp only [Act.put, List.setIfInBounds_toArray, List.set_cons_succ, List.set_cons_zero]
        refine wpAnyH_ready (rs := [12]) (by kernel_rfl) (by simp) ?_
        refine AllReadyH.cons (o := { dst := none, op := Op.store 3 (Operand.tmp 26) (Operand.tmp 25), type := 0, pos := "slack.go:34", after := #[{ on := 11, ground := Ground.data }, { on := 10, ground := Ground.data }, { on := 0, ground := Ground.phase }, { on := 1, ground := Ground.phase }, { on := 2, ground := Ground.phase }, { on := 3, ground := Ground.phase }, { on := 4, ground := Ground.phase }, { on := 5, ground := Ground.phase }, { on := 6, ground := Ground.phase }, { on := 7, ground := Ground.phase }, { on := 8, ground := Ground.phase }, { on := 9, ground := Ground.phase }, { on := 10, ground := Ground.phase }], guard := none }) rfl (fun K hK => ?_) ?_
        · (have cx : u0.cell? ⟨nb, q, none⟩ = some (.int .i64 lq) := HCU.out; have fx : u0.frozen? ⟨nb, q, none⟩ = false := HFU.out; go_simp; clear cx fx)
          refine hK.out _ _ ?_ (fun hHeld2 => ?_)
          · (try dsimp only); exact HS.out _ (Below.setCell K0.out (Nat.le_refl _) _)
          clear hK K
          try simp only [Act.put, List.setIfInBounds_toArray, List.set_cons_succ, List.set_cons_zero]
          clear hHeld1
          refine wpAnyH_done (by kernel_rfl) ?_ _
          clear hHeld2
          go_wp2_with fail
          go_roundw
          case rel =>
            refine ⟨q + 1, rfl, by omega, ?_, ?_⟩
            · show IRow _ _ _ _
              have h9 := HQU.out.set q (lq - aq)
              have h8 := rowS_set l (arrAt L) n q
              rw [← HLQ.out] at h8
              rw [h8] at h9
              exact h9
            · exact (HNwr.out.trans (K0.out.mono HWN.out)).setCell HWN.out _
          case measure => simp [intOf]; omega
        exact AllReadyH.nil
      exact AllReadyH.nil
    · obtain rfl : q = n := by omega
      have HRZ : Hid (IRow wr w.heap.size (.slice (some ⟨nb, 0, none⟩) q q) (rowS l (arrAt L) q q)) := HQ.out.mono (show w.heap.size ≤ nb by have h1 := HNL.out; omega)
      go_wp2_with fail
      go_ret
      exact ⟨nb, rfl, HRZ.out, below_on HB.out HNwr.out⟩
end Go.Proofs.Ytndbikoccdjafaa
