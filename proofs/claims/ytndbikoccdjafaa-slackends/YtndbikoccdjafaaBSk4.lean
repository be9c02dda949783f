/-
  slack.windows 59: in which windows a step that is a visit may begin.
-/
import Derived.Deep.RegionHeld3
import Derived.WideKeyEntry
import Derived.BigRegion
import Derived.Test.YtndbikoccdjafaaBCBrkPG
import Derived.Test.YtndbikoccdjafaaBCPlBG
import Derived.Test.YtndbikoccdjafaaBCCelG
import Derived.Test.YtndbikoccdjafaaBCHCallG
namespace Go.Proofs.Ytndbikoccdjafaa
open Go.RowKit
theorem held_store {P : Program} {ops : Array Oper} {o : Oper} {a : Act} {w : World} {K : Act → World → Prop} {Q : Exit → Act → World → Prop} {E : Prop} (hgd : o.guard = none) (ty : TypeId) (x y : Operand) (ho : o.op = .store ty x y)
    (g : Nat) (cells : Array Value) (hx : a.eval x = .pointer (some ⟨g, 0, none⟩)) (hy : a.eval y = .agg cells)
    (t : TypeId) (old : Array Value) (hg : w.heap[g]? = some (.cells old t (0, 0))) (hi : (P.info? ty).map (·.size) = some cells.size)
    (hold : old.size = cells.size) (h1 : cells.all (·.oneCell') = true) (h : K (a.put o.dst undef) (w.setRow g cells)) :
    if Region.wanted o (yielded ops a.tmps) = true then Oper.wp P o a w K Q else E := by
  rw [if_pos (by simp [Region.wanted, hgd])]
  exact wp_store_row ty x y ho g cells hx hy t old hg hi hold h1 h
theorem grw_row (w : World) (g : Nat) (cs : Array Value) : w.grownBy (w.setRow g cs) (some g) := ⟨rfl, rfl, rfl, Nat.le_of_eq (size_setRow w g cs).symm, fun k _ hn => setRow_other w g k cs (fun e => hn (by rw [e]))⟩

set_option maxRecDepth 100000 in
set_option maxHeartbeats 6400000 in
theorem windows_c {w : World} {x : PrbS} {p : Prb} {n c i k : Nat} {a : Option Addr} {L : List StepT} {s : StepT} (h : PrbV w x p) (hl : lawM p = true) (hk : k < p.vs.length) (hR : StpC w a n L) (hs : L[i]? = some s) (hi : i < n) (hc : s.kind = 4 → ∃ q : Nat, s.item = q ∧ q < (p.vs.getD k vz).brks.length) (tm ds wt sv co : Int) : Calls Try.prog 59 #[.agg (prbE p x), .agg (planC k (.slice a n c) tm ds wt sv co), .int .i64 i] w fun e w' => ∃ y, e = .returned y ∧ WinsV w' y (winS p (p.vs.getD k vz) s.kind s.item) ∧ Below w.heap.size w w' := by
  have HP := hide h
  have HL := hide hl
  obtain ⟨b, off, vcz, xc, xb, hxv, hb, hcv, _, hbk⟩ := veh_cells h.v hk
  obtain ⟨ta, tc, da, dc, va, vc, ja, jc, sa, sc, rfl⟩ := h.open
  simp only at hxv
  injection hxv with hx1 _ hx3
  subst hx1
  subst hx3
  obtain ⟨g, y1, rfl, hg, c1⟩ := hR.2 i s hs
  obtain ⟨kd, hkd⟩ : ∃ z, s.kind = z := ⟨_, rfl⟩
  obtain ⟨it, hit⟩ : ∃ z, s.item = z := ⟨_, rfl⟩
  have d0 : w.cell? ⟨g, i * 9, none⟩ = some (.int .i64 kd) := by rw [← hkd]; exact c1 0 (by decide)
  have d1 : w.cell? ⟨g, i * 9 + 1, none⟩ = some (.int .i64 it) := by rw [← hit]; exact c1 1 (by decide)
  rw [hkd, hit] at hc ⊢
  obtain ⟨bb, lb, bc, rfl⟩ : ∃ bb lb bc, xb = .slice bb lb bc := by obtain ⟨a1, b1, e1, _⟩ := hbk; exact ⟨a1, _, b1, e1⟩
  have d2 : w.cell? ⟨b, off + k * 11 + 10, none⟩ = some (.slice bb lb bc) := hcv 10 (by decide)
  have hlb : lb = (p.vs.getD k vz).brks.length := by obtain ⟨a1, b1, e1, _⟩ := hbk; injection e1
  have HBK := hide hbk
  obtain ⟨nv, hnv⟩ : ∃ z, p.vs.length = z := ⟨_, rfl⟩
  rw [hnv] at hk
  have HNV := hide hnv
  have HLB := hide hlb
  have H89 : Hid (∀ W2, Below w.heap.size w W2 → Calls Try.prog 89 #[.agg #[.int .i64 p.dims, .int .i64 p.time.n, .slice ta p.time.cells.length tc, .int .i64 p.dist.n, .slice da p.dist.cells.length dc, .slice (some ⟨b, off, none⟩) p.vs.length vc, .slice ja p.js.length jc, .slice sa p.ss.length sc], .agg #[.int .i64 kd, .int .i64 it]] W2 fun e w' => ∃ y, e = .returned (.tuple #[.agg #[.int .i64 (stpM p kd it).place, .int .i64 (stpM p kd it).serv, y], .bool (thereV p kd it)]) ∧ WinsV w' y (stpM p kd it).wins ∧ Below W2.heap.size W2 w') := fun W2 hf => stopW_any (HP.out.on hf) HL.out kd it
  clear h hl hR hs c1 hkd hit hcv hbk hlb
  unfold prbE planC
  simp only at d2 ⊢
  clear hnv
  have i1 : (0 : Int) ≤ (i : Int) := by omega
  have i2 : (i : Int) < (n : Int) := by omega
  have i3 : (0 : Int) ≤ (k : Int) := by omega
  have i4 : (k : Int) < (p.vs.length : Int) := by have h9 := HNV.out; omega
  obtain ⟨W, hW⟩ : ∃ W, (w.alloc (.cells #[.int .i64 p.dims, .int .i64 p.time.n, .slice ta p.time.cells.length tc, .int .i64 p.dist.n, .slice da p.dist.cells.length dc, .slice (some ⟨b, off, none⟩) p.vs.length vc, .slice ja p.js.length jc, .slice sa p.ss.length sc] 29)).alloc (.cells #[.int .i64 (k : Int), .slice (some ⟨g, 0, none⟩) n c, .int .i64 tm, .int .i64 ds, .int .i64 wt, .int .i64 sv, .int .i64 co] 34) = W := ⟨_, rfl⟩
  have HB : Hid (Below w.heap.size w W) := by show Below _ _ _; rw [← hW]; exact ((Below.refl _ _).alloc (Nat.le_refl _) _).alloc (by simp) _
  have HX1 : Hid (W.heap[w.heap.size]? = some (.cells #[.int .i64 p.dims, .int .i64 p.time.n, .slice ta p.time.cells.length tc, .int .i64 p.dist.n, .slice da p.dist.cells.length dc, .slice (some ⟨b, off, none⟩) p.vs.length vc, .slice ja p.js.length jc, .slice sa p.ss.length sc] 29 (0, 0))) := by
    show _ = _
    rw [← hW, heap_alloc_old _ _ (by simp)]
    exact new_block _ _
  have HX2 : Hid (W.heap[w.heap.size + 1]? = some (.cells #[.int .i64 (k : Int), .slice (some ⟨g, 0, none⟩) n c, .int .i64 tm, .int .i64 ds, .int .i64 wt, .int .i64 sv, .int .i64 co] 34 (0, 0))) := by
    show _ = _
    rw [← hW]
    have h9 := new_block (w.alloc (.cells #[.int .i64 p.dims, .int .i64 p.time.n, .slice ta p.time.cells.length tc, .int .i64 p.dist.n, .slice da p.dist.cells.length dc, .slice (some ⟨b, off, none⟩) p.vs.length vc, .slice ja p.js.length jc, .slice sa p.ss.length sc] 29)) (.cells #[.int .i64 (k : Int), .slice (some ⟨g, 0, none⟩) n c, .int .i64 tm, .int .i64 ds, .int .i64 wt, .int .i64 sv, .int .i64 co] 34)
    rw [show (w.alloc (.cells #[.int .i64 p.dims, .int .i64 p.time.n, .slice ta p.time.cells.length tc, .int .i64 p.dist.n, .slice da p.dist.cells.length dc, .slice (some ⟨b, off, none⟩) p.vs.length vc, .slice ja p.js.length jc, .slice sa p.ss.length sc] 29)).heap.size = w.heap.size + 1 from by simp] at h9
    exact h9
  have hgl : g < w.heap.size := hg
  have hbl : b < w.heap.size := hb
  have HS : Hid (∀ w', Below W.heap.size W w' → w'.cell? ⟨w.heap.size, 5, none⟩ = some (.slice (some ⟨b, off, none⟩) p.vs.length vc) ∧ w'.cell? ⟨w.heap.size + 1, 0, none⟩ = some (.int .i64 (k : Int)) ∧ w'.cell? ⟨w.heap.size + 1, 1, none⟩ = some (.slice (some ⟨g, 0, none⟩) n c) ∧ w'.cell? ⟨g, i * 9, none⟩ = some (.int .i64 kd) ∧ w'.cell? ⟨g, i * 9 + 1, none⟩ = some (.int .i64 it) ∧ w'.cell? ⟨b, off + k * 11 + 10, none⟩ = some (.slice bb lb bc)) := fun w' hf => ⟨((bcell hf).1 _ _ (lt_of_block HX1.out)).trans (cell_of_row _ _ _ _ _ _ HX1.out), ((bcell hf).1 _ _ (lt_of_block HX2.out)).trans (cell_of_row _ _ _ _ _ _ HX2.out), ((bcell hf).1 _ _ (lt_of_block HX2.out)).trans (cell_of_row _ _ _ _ _ _ HX2.out), ((bcell (below_on HB.out hf)).1 _ _ hg).trans d0, ((bcell (below_on HB.out hf)).1 _ _ hg).trans d1, ((bcell (below_on HB.out hf)).1 _ _ hb).trans d2⟩
  have lg1 : ¬ g = w.heap.size := by omega
  have lb1 : ¬ b = w.heap.size := by omega
  go_enter Try.func59, Try.ntmps59
  go_upto_region 1 with fail
  clear hW
  go_cut [7, 8] from 11 to 24 (fun va vb wx => ∃ x7 : Nat, va = .pointer (some ⟨x7, 0, none⟩) ∧ vb = .slice bb lb bc ∧ W.heap.size ≤ x7 ∧ Hid (wx.heap[x7]? = some (.cells #[.int .i64 kd, .int .i64 it] 43 (0, 0))) ∧ Hid (Below W.heap.size W wx))
  case first =>
    refine wp_region_held_drew (S := (fun w' => w'.cell? ⟨w.heap.size, 5, none⟩ = some (.slice (some ⟨b, off, none⟩) p.vs.length vc) ∧ w'.cell? ⟨w.heap.size + 1, 0, none⟩ = some (.int .i64 (k : Int)) ∧ w'.cell? ⟨w.heap.size + 1, 1, none⟩ = some (.slice (some ⟨g, 0, none⟩) n c) ∧ w'.cell? ⟨g, i * 9, none⟩ = some (.int .i64 kd) ∧ w'.cell? ⟨g, i * 9 + 1, none⟩ = some (.int .i64 it) ∧ w'.cell? ⟨b, off + k * 11 + 10, none⟩ = some (.slice bb lb bc))) (by kernel_rfl) ?_ (fun hHeld0 => ?_)
    · (try dsimp only); first | fail | exact HS.out _ (Below.refl _ _) | exact HS.out _ ((Below.refl _ _).drew) | (go_keep; done)
    obtain ⟨u0, hu0⟩ : ∃ u, W.drew = u := ⟨_, rfl⟩
    rw [hu0]
    rw [hu0] at hHeld0
    have K0 : Hid (Below W.heap.size W u0) := by show Below _ _ _; rw [← hu0]; exact ((Below.refl _ _).drew)
    clear hu0
    refine wpAnyH_take (i := 0) (oi := { dst := some 11, op := Op.fieldAddr 34 (Operand.tmp 4) 1, type := 0, pos := "slack.go:78", after := #[], guard := none }) (v := ?_) rfl (by kernel_rfl) (by kernel_rfl) (by kernel_rfl) (fun _ _ _ h => h) (Or.inl ⟨by rfl, ?_⟩) (by assumption) ?_
    rotate_left
    · intro w hSw; (try dsimp only at hSw); first | (go_simp; done) | (go_simp; with_reducible rfl) | with_reducible rfl | rfl
    try simp only [Act.put, List.setIfInBounds_toArray]
    refine wpAnyH_take (i := 1) (oi := { dst := some 12, op := Op.load 32 (Operand.tmp 11), type := 32, pos := "slack.go:78", after := #[{ on := 0, ground := Ground.data }], guard := none }) (v := ?_) rfl (by kernel_rfl) (by kernel_rfl) (by kernel_rfl) (fun _ _ _ h => h) (Or.inl ⟨by rfl, ?_⟩) (by assumption) ?_
    rotate_left
    · intro w hSw; (try dsimp only at hSw); first | (go_simp; done) | (go_simp; with_reducible rfl) | with_reducible rfl | rfl
    try simp only [Act.put, List.setIfInBounds_toArray]
    refine wpAnyH_take (i := 2) (oi := { dst := some 13, op := Op.move (Operand.tmp 2), type := 3, pos := "slack.go:78", after := #[], guard := none }) (v := ?_) rfl (by kernel_rfl) (by kernel_rfl) (by kernel_rfl) (fun _ _ _ h => h) (Or.inl ⟨by rfl, ?_⟩) (by assumption) ?_
    rotate_left
    · intro w hSw; (try dsimp only at hSw); first | (go_simp; done) | (go_simp; with_reducible rfl) | with_reducible rfl | rfl
    try simp only [Act.put, List.setIfInBounds_toArray]
    refine wpAnyH_take (i := 3) (oi := { dst := some 14, op := Op.indexAddr 32 (Operand.tmp 12) (Operand.tmp 13), type := 0, pos := "slack.go:78", after := #[{ on := 1, ground := Ground.data }, { on := 2, ground := Ground.data }], guard := none }) (v := ?_) rfl (by kernel_rfl) (by kernel_rfl) (by kernel_rfl) (fun _ _ _ h => h) (Or.inl ⟨by rfl, ?_⟩) (by assumption) ?_
    rotate_left
    · intro w hSw; (try dsimp only at hSw); first | (go_simp; done) | (go_simp; with_reducible rfl) | with_reducible rfl | rfl
    try simp only [Act.put, List.setIfInBounds_toArray]
    refine wpAnyH_take (i := 4) (oi := { dst := some 15, op := Op.fieldAddr 45 (Operand.tmp 14) 0, type := 0, pos := "slack.go:78", after := #[{ on := 3, ground := Ground.data }], guard := none }) (v := ?_) rfl (by kernel_rfl) (by kernel_rfl) (by kernel_rfl) (fun _ _ _ h => h) (Or.inl ⟨by rfl, ?_⟩) (by assumption) ?_
    rotate_left
    · intro w hSw; (try dsimp only at hSw); first | (go_simp; done) | (go_simp; with_reducible rfl) | with_reducible rfl | rfl
    try simp only [Act.put, List.setIfInBounds_toArray]
    refine wpAnyH_take (i := 5) (oi := { dst := some 16, op := Op.load 43 (Operand.tmp 15), type := 43, pos := "slack.go:78", after := #[{ on := 4, ground := Ground.data }], guard := none }) (v := ?_) rfl (by kernel_rfl) (by kernel_rfl) (by kernel_rfl) (fun _ _ _ h => h) (Or.inl ⟨by rfl, ?_⟩) (by assumption) ?_
    rotate_left
    · intro w hSw; (try dsimp only at hSw); first | (go_simp; done) | (go_simp; with_reducible rfl) | with_reducible rfl | rfl
    try simp only [Act.put, List.setIfInBounds_toArray]
    refine wpAnyH_take (i := 6) (oi := { dst := some 17, op := Op.fieldAddr 29 (Operand.tmp 3) 3, type := 0, pos := "slack.go:78", after := #[{ on := 14, ground := Ground.gcOnly Departure.lateStores }], guard := none }) (v := ?_) rfl (by kernel_rfl) (by kernel_rfl) (by kernel_rfl) (fun _ _ _ h => h) (Or.inl ⟨by rfl, ?_⟩) (by assumption) ?_
    rotate_left
    · intro w hSw; (try dsimp only at hSw); first | (go_simp; done) | (go_simp; with_reducible rfl) | with_reducible rfl | rfl
    try simp only [Act.put, List.setIfInBounds_toArray]
    refine wpAnyH_take (i := 7) (oi := { dst := some 18, op := Op.load 25 (Operand.tmp 17), type := 25, pos := "slack.go:78", after := #[{ on := 6, ground := Ground.data }, { on := 14, ground := Ground.gcOnly Departure.lateStores }], guard := none }) (v := ?_) rfl (by kernel_rfl) (by kernel_rfl) (by kernel_rfl) (fun _ _ _ h => h) (Or.inl ⟨by rfl, ?_⟩) (by assumption) ?_
    rotate_left
    · intro w hSw; (try dsimp only at hSw); first | (go_simp; done) | (go_simp; with_reducible rfl) | with_reducible rfl | rfl
    try simp only [Act.put, List.setIfInBounds_toArray]
    refine wpAnyH_take (i := 8) (oi := { dst := some 19, op := Op.fieldAddr 34 (Operand.tmp 4) 0, type := 0, pos := "slack.go:78", after := #[{ on := 14, ground := Ground.gcOnly Departure.lateStores }], guard := none }) (v := ?_) rfl (by kernel_rfl) (by kernel_rfl) (by kernel_rfl) (fun _ _ _ h => h) (Or.inl ⟨by rfl, ?_⟩) (by assumption) ?_
    rotate_left
    · intro w hSw; (try dsimp only at hSw); first | (go_simp; done) | (go_simp; with_reducible rfl) | with_reducible rfl | rfl
    try simp only [Act.put, List.setIfInBounds_toArray]
    refine wpAnyH_take (i := 9) (oi := { dst := some 20, op := Op.load 3 (Operand.tmp 19), type := 3, pos := "slack.go:78", after := #[{ on := 8, ground := Ground.data }, { on := 14, ground := Ground.gcOnly Departure.lateStores }], guard := none }) (v := ?_) rfl (by kernel_rfl) (by kernel_rfl) (by kernel_rfl) (fun _ _ _ h => h) (Or.inl ⟨by rfl, ?_⟩) (by assumption) ?_
    rotate_left
    · intro w hSw; (try dsimp only at hSw); first | (go_simp; done) | (go_simp; with_reducible rfl) | with_reducible rfl | rfl
    try simp only [Act.put, List.setIfInBounds_toArray]
    refine wpAnyH_take (i := 10) (oi := { dst := some 21, op := Op.indexAddr 25 (Operand.tmp 18) (Operand.tmp 20), type := 0, pos := "slack.go:78", after := #[{ on := 7, ground := Ground.data }, { on := 9, ground := Ground.data }, { on := 14, ground := Ground.gcOnly Departure.lateStores }], guard := none }) (v := ?_) rfl (by kernel_rfl) (by kernel_rfl) (by kernel_rfl) (fun _ _ _ h => h) (Or.inl ⟨by rfl, ?_⟩) (by assumption) ?_
    rotate_left
    · intro w hSw; (try dsimp only at hSw); first | (go_simp; done) | (go_simp; with_reducible rfl) | with_reducible rfl | rfl
    try simp only [Act.put, List.setIfInBounds_toArray]
    refine wpAnyH_take (i := 11) (oi := { dst := some 22, op := Op.fieldAddr 58 (Operand.tmp 21) 9, type := 0, pos := "slack.go:78", after := #[{ on := 10, ground := Ground.data }, { on := 14, ground := Ground.gcOnly Departure.lateStores }], guard := none }) (v := ?_) rfl (by kernel_rfl) (by kernel_rfl) (by kernel_rfl) (fun _ _ _ h => h) (Or.inl ⟨by rfl, ?_⟩) (by assumption) ?_
    rotate_left
    · intro w hSw; (try dsimp only at hSw); first | (go_simp; done) | (go_simp; with_reducible rfl) | with_reducible rfl | rfl
    try simp only [Act.put, List.setIfInBounds_toArray]
    refine wpAnyH_take (i := 12) (oi := { dst := some 23, op := Op.load 56 (Operand.tmp 22), type := 56, pos := "slack.go:78", after := #[{ on := 11, ground := Ground.data }, { on := 14, ground := Ground.gcOnly Departure.lateStores }], guard := none }) (v := ?_) rfl (by kernel_rfl) (by kernel_rfl) (by kernel_rfl) (fun _ _ _ h => h) (Or.inl ⟨by rfl, ?_⟩) (by assumption) ?_
    rotate_left
    · intro w hSw; (try dsimp only at hSw); first | (go_simp; done) | (go_simp; with_reducible rfl) | with_reducible rfl | rfl
    try simp only [Act.put, List.setIfInBounds_toArray]
    refine wpAnyH_ready (rs := [13]) (by kernel_rfl) (by simp) ?_
    refine AllReadyH.cons (o := { dst := some 7, op := Op.alloc 43, type := 0, pos := "slack.go:78", after := #[], guard := none }) rfl (fun K hK => ?_) ?_
    · go_simp
      refine hK.out _ _ ?_ (fun hHeld1 => ?_)
      · (try dsimp only); exact HS.out _ (below_on K0.out ((Below.refl _ _).alloc (Nat.le_refl _) _))
      clear hK K
      try simp only [Act.put, List.setIfInBounds_toArray]
      clear hHeld0
      have LT1 : Hid (u0.heap.size < (u0.alloc (.cells #[.int .i64 0, .int .i64 0] 43)).heap.size) := (by show _ < _; simp)
      obtain ⟨u1, hu1⟩ : ∃ u, u0.alloc (.cells #[.int .i64 0, .int .i64 0] 43) = u := ⟨_, rfl⟩
      rw [hu1]
      rw [hu1] at hHeld1 LT1
      have E1 : Hid (Below u0.heap.size u0 u1) := by show Below _ _ _; rw [← hu1]; exact ((Below.refl _ _).alloc (Nat.le_refl _) _)
      have K1 := hide (below_on K0.out E1.out)
      have HX1 : Hid (u1.heap[u0.heap.size]? = some (.cells #[.int .i64 0, .int .i64 0] 43)) := by show _ = _; rw [← hu1]; exact new_block _ _
      clear hu1
      refine wpAnyH_ready (rs := [14]) (by kernel_rfl) (by simp) ?_
      refine AllReadyH.cons (o := { dst := none, op := Op.store 43 (Operand.tmp 7) (Operand.tmp 16), type := 0, pos := "slack.go:78", after := #[{ on := 13, ground := Ground.data }, { on := 5, ground := Ground.data }, { on := 0, ground := Ground.phase }, { on := 1, ground := Ground.phase }, { on := 2, ground := Ground.phase }, { on := 3, ground := Ground.phase }, { on := 4, ground := Ground.phase }, { on := 5, ground := Ground.phase }, { on := 6, ground := Ground.textOnly Departure.lateStores }, { on := 7, ground := Ground.textOnly Departure.lateStores }, { on := 8, ground := Ground.textOnly Departure.lateStores }, { on := 9, ground := Ground.textOnly Departure.lateStores }, { on := 10, ground := Ground.textOnly Departure.lateStores }, { on := 11, ground := Ground.textOnly Departure.lateStores }, { on := 12, ground := Ground.textOnly Departure.lateStores }, { on := 13, ground := Ground.phase }], guard := none }) rfl (fun K hK => ?_) ?_
      · refine held_store (by rfl) 43 (.tmp 7) (.tmp 16) (by rfl) (u0.heap.size) #[.int .i64 kd, .int .i64 it] (by rfl) (by rfl) 43 _ HX1.out (by kernel_rfl) (by rfl) (by simp [Value.oneCell']) ?_
        obtain ⟨wz, hwz⟩ : ∃ z, (u1).setRow (u0.heap.size) #[.int .i64 kd, .int .i64 it] = z := ⟨_, rfl⟩
        have hz1 : wz.heap[u0.heap.size]? = some (.cells #[.int .i64 kd, .int .i64 it] 43 (0, 0)) := by rw [← hwz]; exact setRow_heap _ _ _ _ _ _ HX1.out
        have hz2 : (u1).grownBy wz (some (u0.heap.size)) := by rw [← hwz]; exact grw_row _ _ _
        rw [hwz]
        have HZ1 := hide hz1
        have HZ2 := hide hz2
        clear hwz hz1 hz2
        refine hK.out _ _ ?_ (fun hHeld2 => ?_)
        · (try dsimp only); exact HS.out _ (K1.out.trans (grw_low HZ2.out K0.out.size K1.out.size))
        clear hK K
        try simp only [Act.put]
        clear hHeld1
        refine wpAnyH_take (i := 15) (oi := { dst := some 8, op := Op.assign (Operand.tmp 23), type := 56, pos := "slack.go:78", after := #[{ on := 12, ground := Ground.data }, { on := 14, ground := Ground.chain }, { on := 0, ground := Ground.phase }, { on := 1, ground := Ground.phase }, { on := 2, ground := Ground.phase }, { on := 3, ground := Ground.phase }, { on := 4, ground := Ground.phase }, { on := 5, ground := Ground.phase }, { on := 6, ground := Ground.phase }, { on := 7, ground := Ground.phase }, { on := 8, ground := Ground.phase }, { on := 9, ground := Ground.phase }, { on := 10, ground := Ground.phase }, { on := 11, ground := Ground.phase }, { on := 12, ground := Ground.phase }, { on := 13, ground := Ground.phase }, { on := 14, ground := Ground.phase }], guard := none }) (v := ?_) rfl (by kernel_rfl) (by kernel_rfl) (by kernel_rfl) (fun _ _ _ h => h) (Or.inl ⟨by rfl, ?_⟩) (by assumption) ?_
        rotate_left
        · intro w hSw; (try dsimp only at hSw); first | (go_simp; done) | (go_simp; with_reducible rfl) | with_reducible rfl | rfl
        try simp only [Act.put, List.setIfInBounds_toArray]
        refine wpAnyH_done (by kernel_rfl) ?_ _
        clear hHeld2
        go_wp2_with fail
        go_meet
        case rel => exact ⟨u0.heap.size, rfl, rfl, K0.out.size, HZ1.out, K1.out.trans (grw_low HZ2.out K0.out.size K1.out.size)⟩
      exact AllReadyH.nil
    exact AllReadyH.nil
  case rest =>
  obtain ⟨x7, rfl, rfl, hx7, HX7, K7⟩ := hcut
  rename World => z
  have bx0 : z.cell? ⟨x7, 0, none⟩ = some (.int .i64 kd) := cell_of_row _ _ _ _ _ _ HX7.out
  have bx1 : z.cell? ⟨x7, 1, none⟩ = some (.int .i64 it) := cell_of_row _ _ _ _ _ _ HX7.out
  have pz0 : z.cell? ⟨w.heap.size, 0, none⟩ = some (.int .i64 p.dims) := ((bcell K7.out).1 _ _ (lt_of_block HX1.out)).trans (cell_of_row _ _ _ _ _ _ HX1.out)
  have pz1 : z.cell? ⟨w.heap.size, 1, none⟩ = some (.int .i64 p.time.n) := ((bcell K7.out).1 _ _ (lt_of_block HX1.out)).trans (cell_of_row _ _ _ _ _ _ HX1.out)
  have pz2 : z.cell? ⟨w.heap.size, 2, none⟩ = some (.slice ta p.time.cells.length tc) := ((bcell K7.out).1 _ _ (lt_of_block HX1.out)).trans (cell_of_row _ _ _ _ _ _ HX1.out)
  have pz3 : z.cell? ⟨w.heap.size, 3, none⟩ = some (.int .i64 p.dist.n) := ((bcell K7.out).1 _ _ (lt_of_block HX1.out)).trans (cell_of_row _ _ _ _ _ _ HX1.out)
  have pz4 : z.cell? ⟨w.heap.size, 4, none⟩ = some (.slice da p.dist.cells.length dc) := ((bcell K7.out).1 _ _ (lt_of_block HX1.out)).trans (cell_of_row _ _ _ _ _ _ HX1.out)
  have pz5 : z.cell? ⟨w.heap.size, 5, none⟩ = some (.slice (some ⟨b, off, none⟩) p.vs.length vc) := ((bcell K7.out).1 _ _ (lt_of_block HX1.out)).trans (cell_of_row _ _ _ _ _ _ HX1.out)
  have pz6 : z.cell? ⟨w.heap.size, 6, none⟩ = some (.slice ja p.js.length jc) := ((bcell K7.out).1 _ _ (lt_of_block HX1.out)).trans (cell_of_row _ _ _ _ _ _ HX1.out)
  have pz7 : z.cell? ⟨w.heap.size, 7, none⟩ = some (.slice sa p.ss.length sc) := ((bcell K7.out).1 _ _ (lt_of_block HX1.out)).trans (cell_of_row _ _ _ _ _ _ HX1.out)
  have EZ := hide (below_on HB.out K7.out)
  by_cases h4 : kd = 4
  · subst h4
    obtain ⟨q, rfl, hq⟩ := hc rfl
    obtain ⟨b2, off2, y, e2, e3, hb2, f0, f1, hwy⟩ := brk_cells HBK.out hq
    subst e2
    have m0 : z.cell? ⟨b2, off2 + q * 2, none⟩ = some y := ((bcell EZ.out).1 _ _ hb2).trans f0
    have hql : (q : Int) < (lb : Int) := by omega
    have hq0 : ¬ (q : Int) < 0 := by omega
    have hq1 : ¬ (lb : Int) ≤ (q : Int) := by omega
    have hq2 : (0 : Int) ≤ (q : Int) := by omega
    have HWY : Hid (WinsV z y (winS p (p.vs.getD k vz) 4 (q : Int))) := by
      unfold winS
      rw [if_pos rfl, Int.toNat_natCast]
      exact hwy.on EZ.out
    obtain ⟨ya, yn, yc, rfl⟩ : ∃ a n c, y = .slice a n c := by obtain ⟨a1, b1, e1, _⟩ := hwy; exact ⟨a1, _, b1, e1⟩
    clear f0 f1 hwy e3 d0 d1 d2 hq hc
    go_wp2_with fail
    go_ret
    exact ⟨_, rfl, HWY.out, EZ.out⟩
  · have HW2 : winS p (p.vs.getD k vz) kd it = (stpM p kd it).wins := by unfold winS; rw [if_neg h4]
    have HW2 := hide HW2
    clear d0 d1 d2 hc
    go_wp2_with (first | (go_at_call 89; refine (H89.out _ EZ.out).mono ?_; rintro e w2 ⟨y, rfl, hwy, kk⟩; have E2 := hide (below_on EZ.out kk); clear kk; have HWY := hide hwy; obtain ⟨ya, yn, yc, rfl⟩ : ∃ a n c, y = .slice a n c := (by obtain ⟨a1, b1, e1, _⟩ := hwy; exact ⟨a1, _, b1, e1⟩); clear hwy) | fail)
    go_ret
    exact ⟨_, rfl, (by rw [HW2.out]; exact HWY.out.on (Below.alloc (Below.refl _ _) (Nat.le_refl _) _)), E2.out.alloc (by have h1 := E2.out.size; omega) _⟩
theorem windows_any {w : World} {x : PrbS} {p : Prb} {k n i : Nat} {a : Option Addr} {L : List StepT} {G : List Stg} (h : SlkV w x p k a n L G) (h0 : i ≠ 0) (hi : i < G.length) (c : Nat) (tm ds wt sv co : Int) : ∃ s t, L[i]? = some s ∧ L[i + 1]? = some t ∧ G[i]? = some (some (winS p (p.vs.getD k vz) s.kind s.item), s.serv + cellM p.time s.place t.place) ∧ Calls Try.prog 59 #[.agg (prbE p x), .agg (planC k (.slice a n c) tm ds wt sv co), .int .i64 i] w fun e w' => ∃ y, e = .returned y ∧ WinsV w' y (winS p (p.vs.getD k vz) s.kind s.item) ∧ Below w.heap.size w w' := by
  obtain ⟨s, t, hs, ht, hG, h1, h2, _, h4⟩ := h.rt.step i hi
  have hn := h.stp.1
  have hlen := h.rt.len
  have hhi := h.rt.high
  rw [if_neg h0] at hG
  refine ⟨s, t, hs, ht, hG, windows_c h.prb h.law h.veh h.stp hs (by omega) (fun hk => ?_) _ _ _ _ _⟩
  rcases h4 h0 with ⟨_, q, hq, hq2, _⟩ | ⟨hne, _⟩
  · exact ⟨q, hq, hq2⟩
  · exact absurd hk hne
end Go.Proofs.Ytndbikoccdjafaa
