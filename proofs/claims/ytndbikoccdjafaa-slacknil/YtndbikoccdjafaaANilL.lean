/-
  SlackNil: plans without steps, and of no vehicle.
-/
import Derived.BigRegion
import Derived.Test.YtndbikoccdjafaaASkN
import Derived.Test.YtndbikoccdjafaaASk12
import Derived.Test.YtndbikoccdjafaaACRChk
namespace Go.Proofs.Ytndbikoccdjafaa
open Go.RowKit
theorem hs15 (args : Array Value) (w : World) : (callFunc 15 args).run Try.prog w = .ok (.enter 15 args) w := Go.Proofs.enters_of Try.func15 (by kernel_rfl) rfl args w
theorem made_steps (w : World) : ∃ A, (Instr.makeSlice 32 (.int .i64 3) (.int .i64 3)).run Try.prog w = .ok (.slice (some ⟨w.heap.size, 0, none⟩) 3 3) (w.alloc (.cells A 45)) := by
  obtain ⟨i0, hi0, hz0, hz1, hz2⟩ := info_parts info88
  have := run_makeSlice (P := Try.prog) w 32 45 i0 _ Try.underlying32 hi0 hz0 .i64 .i64 3 3 (by decide) (by decide) (by rw [hz1]; decide) (by rw [hz2]; decide) (by decide)
  exact ⟨_, this⟩
set_option maxRecDepth 100000 in
set_option maxHeartbeats 6400000 in
theorem slacknil_any {w : World} {x : PrbS} {p : Prb} (h : PrbV w x p)  (i t : Int) : Calls Try.prog 6 #[.agg (prbE p x), .int .i64 i, .int .i64 t] w fun e w' => e = .returned (.bool true) ∧ Below w.heap.size w w' := by
  have HP := hide h
  obtain ⟨ta, tc, da, dc, va, vc9, ja, jc, sa, sc, rfl⟩ := h.open
  clear h
  obtain ⟨bb, hbb⟩ : ∃ b, lawM p = b := ⟨_, rfl⟩
  have HL := hide hbb
  have H18 : Hid (∀ W2, Below w.heap.size w W2 → Calls Try.prog 18 #[.agg #[.int .i64 p.dims, .int .i64 p.time.n, .slice ta p.time.cells.length tc, .int .i64 p.dist.n, .slice da p.dist.cells.length dc, .slice va p.vs.length vc9, .slice ja p.js.length jc, .slice sa p.ss.length sc]] W2 fun e w' => e = .returned (.bool bb) ∧ Below W2.heap.size W2 w') := fun W2 hf => by
    have h9 := lawful12_any (HP.out.on hf)
    rw [HL.out] at h9
    exact h9
  have H13 : Hid (∀ W2, Below w.heap.size w W2 → Calls Try.prog 13 #[.agg #[.int .i64 p.dims, .int .i64 p.time.n, .slice ta p.time.cells.length tc, .int .i64 p.dist.n, .slice da p.dist.cells.length dc, .slice va p.vs.length vc9, .slice ja p.js.length jc, .slice sa p.ss.length sc], .agg #[.int .i64 0, .slice none 0 0, .int .i64 0, .int .i64 0, .int .i64 0, .int .i64 0, .int .i64 0]] W2 fun e w' => e = .returned (.slice none 0 0) ∧ Below W2.heap.size W2 w') := fun W2 hf => latest_out (HP.out.on hf) (.inl (by decide)) (by decide) 0 0 0 0 0 0
  have H17 : Hid (∀ W2, Below w.heap.size w W2 → Calls Try.prog 17 #[.agg #[.int .i64 p.dims, .int .i64 p.time.n, .slice ta p.time.cells.length tc, .int .i64 p.dist.n, .slice da p.dist.cells.length dc, .slice va p.vs.length vc9, .slice ja p.js.length jc, .slice sa p.ss.length sc], .agg #[.int .i64 0, .slice none 0 0, .int .i64 0, .int .i64 0, .int .i64 0, .int .i64 0, .int .i64 0], .int .i64 i, .int .i64 t] W2 fun e w' => e = .returned (.tuple #[.int .i64 0, .bool false]) ∧ Below W2.heap.size W2 w') := fun W2 hf => ends_nil (HP.out.on hf) (.inl (by decide)) (by decide) 0 0 0 0 0 0 i t
  have H15 : Hid (bb = true → ∀ W2 b9, Below w.heap.size w W2 → Calls Try.prog 15 #[.agg #[.int .i64 p.dims, .int .i64 p.time.n, .slice ta p.time.cells.length tc, .int .i64 p.dist.n, .slice da p.dist.cells.length dc, .slice va p.vs.length vc9, .slice ja p.js.length jc, .slice sa p.ss.length sc], .agg #[.int .i64 9, .slice (some ⟨b9, 0, none⟩) 3 3, .int .i64 0, .int .i64 0, .int .i64 0, .int .i64 0, .int .i64 0]] W2 fun e w' => e = .returned (.slice none 0 0) ∧ Below W2.heap.size W2 w') := fun hb W2 b9 hf => by
    refine spare_out (HP.out.on hf) (.inr ?_) (by decide) 3 0 0 0 0 0
    obtain ⟨_, _, _, h4, _⟩ := lawM_ok (HL.out.trans hb)
    have h5 := of_decide_eq_true h4
    unfold manB
    rw [decide_eq_false (show ¬ (9 : Int) < (p.vs.length : Int) by omega), Bool.and_false]
  obtain ⟨W, hW⟩ : ∃ W, w.alloc (.cells #[.int .i64 p.dims, .int .i64 p.time.n, .slice ta p.time.cells.length tc, .int .i64 p.dist.n, .slice da p.dist.cells.length dc, .slice va p.vs.length vc9, .slice ja p.js.length jc, .slice sa p.ss.length sc] 29) = W := ⟨_, rfl⟩
  have HB : Hid (Below w.heap.size w W) := by show Below _ _ _; rw [← hW]; exact (Below.refl _ _).alloc (Nat.le_refl _) _
  have HX1 : Hid (W.heap[w.heap.size]? = some (.cells #[.int .i64 p.dims, .int .i64 p.time.n, .slice ta p.time.cells.length tc, .int .i64 p.dist.n, .slice da p.dist.cells.length dc, .slice va p.vs.length vc9, .slice ja p.js.length jc, .slice sa p.ss.length sc] 29 (0, 0))) := by show _ = _; rw [← hW]; exact new_block _ _
  unfold prbE
  simp only
  clear hbb
  cases bb with
  | false =>
    go_enter Try.func6, Try.ntmps6
    go_wp2_with (first | (go_at_call 18; refine (H18.out _ (below_on HB.out E1.out)).mono ?_; rintro e u2 ⟨rfl, kk⟩; have E2 := hide (below_on E1.out kk); clear kk; clear c10 c11 c12 c13 c14 c15 c16 c17; have c20 : u2.cell? ⟨w.heap.size, 0, none⟩ = some (.int .i64 p.dims) := ((bcell E2.out).1 _ _ (lt_of_block HX1.out)).trans (cell_of_row _ _ _ _ _ _ HX1.out); have c21 : u2.cell? ⟨w.heap.size, 1, none⟩ = some (.int .i64 p.time.n) := ((bcell E2.out).1 _ _ (lt_of_block HX1.out)).trans (cell_of_row _ _ _ _ _ _ HX1.out); have c22 : u2.cell? ⟨w.heap.size, 2, none⟩ = some (.slice ta p.time.cells.length tc) := ((bcell E2.out).1 _ _ (lt_of_block HX1.out)).trans (cell_of_row _ _ _ _ _ _ HX1.out); have c23 : u2.cell? ⟨w.heap.size, 3, none⟩ = some (.int .i64 p.dist.n) := ((bcell E2.out).1 _ _ (lt_of_block HX1.out)).trans (cell_of_row _ _ _ _ _ _ HX1.out); have c24 : u2.cell? ⟨w.heap.size, 4, none⟩ = some (.slice da p.dist.cells.length dc) := ((bcell E2.out).1 _ _ (lt_of_block HX1.out)).trans (cell_of_row _ _ _ _ _ _ HX1.out); have c25 : u2.cell? ⟨w.heap.size, 5, none⟩ = some (.slice va p.vs.length vc9) := ((bcell E2.out).1 _ _ (lt_of_block HX1.out)).trans (cell_of_row _ _ _ _ _ _ HX1.out); have c26 : u2.cell? ⟨w.heap.size, 6, none⟩ = some (.slice ja p.js.length jc) := ((bcell E2.out).1 _ _ (lt_of_block HX1.out)).trans (cell_of_row _ _ _ _ _ _ HX1.out); have c27 : u2.cell? ⟨w.heap.size, 7, none⟩ = some (.slice sa p.ss.length sc) := ((bcell E2.out).1 _ _ (lt_of_block HX1.out)).trans (cell_of_row _ _ _ _ _ _ HX1.out)) | (go_at_call 11; refine (awake_any _).mono ?_; rintro e u1 ⟨rfl, kk⟩; have E1 := hide kk; clear kk; have c10 : u1.cell? ⟨w.heap.size, 0, none⟩ = some (.int .i64 p.dims) := ((bcell E1.out).1 _ _ (lt_of_block HX1.out)).trans (cell_of_row _ _ _ _ _ _ HX1.out); have c11 : u1.cell? ⟨w.heap.size, 1, none⟩ = some (.int .i64 p.time.n) := ((bcell E1.out).1 _ _ (lt_of_block HX1.out)).trans (cell_of_row _ _ _ _ _ _ HX1.out); have c12 : u1.cell? ⟨w.heap.size, 2, none⟩ = some (.slice ta p.time.cells.length tc) := ((bcell E1.out).1 _ _ (lt_of_block HX1.out)).trans (cell_of_row _ _ _ _ _ _ HX1.out); have c13 : u1.cell? ⟨w.heap.size, 3, none⟩ = some (.int .i64 p.dist.n) := ((bcell E1.out).1 _ _ (lt_of_block HX1.out)).trans (cell_of_row _ _ _ _ _ _ HX1.out); have c14 : u1.cell? ⟨w.heap.size, 4, none⟩ = some (.slice da p.dist.cells.length dc) := ((bcell E1.out).1 _ _ (lt_of_block HX1.out)).trans (cell_of_row _ _ _ _ _ _ HX1.out); have c15 : u1.cell? ⟨w.heap.size, 5, none⟩ = some (.slice va p.vs.length vc9) := ((bcell E1.out).1 _ _ (lt_of_block HX1.out)).trans (cell_of_row _ _ _ _ _ _ HX1.out); have c16 : u1.cell? ⟨w.heap.size, 6, none⟩ = some (.slice ja p.js.length jc) := ((bcell E1.out).1 _ _ (lt_of_block HX1.out)).trans (cell_of_row _ _ _ _ _ _ HX1.out); have c17 : u1.cell? ⟨w.heap.size, 7, none⟩ = some (.slice sa p.ss.length sc) := ((bcell E1.out).1 _ _ (lt_of_block HX1.out)).trans (cell_of_row _ _ _ _ _ _ HX1.out)) | fail)
    go_ret
    exact ⟨rfl, below_on HB.out E2.out⟩
  | true =>
    have H15t : Hid (∀ W2 b9, Below w.heap.size w W2 → Calls Try.prog 15 #[.agg #[.int .i64 p.dims, .int .i64 p.time.n, .slice ta p.time.cells.length tc, .int .i64 p.dist.n, .slice da p.dist.cells.length dc, .slice va p.vs.length vc9, .slice ja p.js.length jc, .slice sa p.ss.length sc], .agg #[.int .i64 9, .slice (some ⟨b9, 0, none⟩) 3 3, .int .i64 0, .int .i64 0, .int .i64 0, .int .i64 0, .int .i64 0]] W2 fun e w' => e = .returned (.slice none 0 0) ∧ Below W2.heap.size W2 w') := H15.out rfl
    clear H15
    go_enter Try.func6, Try.ntmps6
    go_upto_region 6 with (first | (go_at_call 13; refine (H13.out _ (below_on HB.out E2.out)).mono ?_; rintro e u3 ⟨rfl, kk⟩; have E3 := hide (below_on E2.out kk); clear kk; clear c20 c21 c22 c23 c24 c25 c26 c27; have c30 : u3.cell? ⟨w.heap.size, 0, none⟩ = some (.int .i64 p.dims) := ((bcell E3.out).1 _ _ (lt_of_block HX1.out)).trans (cell_of_row _ _ _ _ _ _ HX1.out); have c31 : u3.cell? ⟨w.heap.size, 1, none⟩ = some (.int .i64 p.time.n) := ((bcell E3.out).1 _ _ (lt_of_block HX1.out)).trans (cell_of_row _ _ _ _ _ _ HX1.out); have c32 : u3.cell? ⟨w.heap.size, 2, none⟩ = some (.slice ta p.time.cells.length tc) := ((bcell E3.out).1 _ _ (lt_of_block HX1.out)).trans (cell_of_row _ _ _ _ _ _ HX1.out); have c33 : u3.cell? ⟨w.heap.size, 3, none⟩ = some (.int .i64 p.dist.n) := ((bcell E3.out).1 _ _ (lt_of_block HX1.out)).trans (cell_of_row _ _ _ _ _ _ HX1.out); have c34 : u3.cell? ⟨w.heap.size, 4, none⟩ = some (.slice da p.dist.cells.length dc) := ((bcell E3.out).1 _ _ (lt_of_block HX1.out)).trans (cell_of_row _ _ _ _ _ _ HX1.out); have c35 : u3.cell? ⟨w.heap.size, 5, none⟩ = some (.slice va p.vs.length vc9) := ((bcell E3.out).1 _ _ (lt_of_block HX1.out)).trans (cell_of_row _ _ _ _ _ _ HX1.out); have c36 : u3.cell? ⟨w.heap.size, 6, none⟩ = some (.slice ja p.js.length jc) := ((bcell E3.out).1 _ _ (lt_of_block HX1.out)).trans (cell_of_row _ _ _ _ _ _ HX1.out); have c37 : u3.cell? ⟨w.heap.size, 7, none⟩ = some (.slice sa p.ss.length sc) := ((bcell E3.out).1 _ _ (lt_of_block HX1.out)).trans (cell_of_row _ _ _ _ _ _ HX1.out)) | (go_at_call 18; refine (H18.out _ (below_on HB.out E1.out)).mono ?_; rintro e u2 ⟨rfl, kk⟩; have E2 := hide (below_on E1.out kk); clear kk; clear c10 c11 c12 c13 c14 c15 c16 c17; have c20 : u2.cell? ⟨w.heap.size, 0, none⟩ = some (.int .i64 p.dims) := ((bcell E2.out).1 _ _ (lt_of_block HX1.out)).trans (cell_of_row _ _ _ _ _ _ HX1.out); have c21 : u2.cell? ⟨w.heap.size, 1, none⟩ = some (.int .i64 p.time.n) := ((bcell E2.out).1 _ _ (lt_of_block HX1.out)).trans (cell_of_row _ _ _ _ _ _ HX1.out); have c22 : u2.cell? ⟨w.heap.size, 2, none⟩ = some (.slice ta p.time.cells.length tc) := ((bcell E2.out).1 _ _ (lt_of_block HX1.out)).trans (cell_of_row _ _ _ _ _ _ HX1.out); have c23 : u2.cell? ⟨w.heap.size, 3, none⟩ = some (.int .i64 p.dist.n) := ((bcell E2.out).1 _ _ (lt_of_block HX1.out)).trans (cell_of_row _ _ _ _ _ _ HX1.out); have c24 : u2.cell? ⟨w.heap.size, 4, none⟩ = some (.slice da p.dist.cells.length dc) := ((bcell E2.out).1 _ _ (lt_of_block HX1.out)).trans (cell_of_row _ _ _ _ _ _ HX1.out); have c25 : u2.cell? ⟨w.heap.size, 5, none⟩ = some (.slice va p.vs.length vc9) := ((bcell E2.out).1 _ _ (lt_of_block HX1.out)).trans (cell_of_row _ _ _ _ _ _ HX1.out); have c26 : u2.cell? ⟨w.heap.size, 6, none⟩ = some (.slice ja p.js.length jc) := ((bcell E2.out).1 _ _ (lt_of_block HX1.out)).trans (cell_of_row _ _ _ _ _ _ HX1.out); have c27 : u2.cell? ⟨w.heap.size, 7, none⟩ = some (.slice sa p.ss.length sc) := ((bcell E2.out).1 _ _ (lt_of_block HX1.out)).trans (cell_of_row _ _ _ _ _ _ HX1.out)) | (go_at_call 11; refine (awake_any _).mono ?_; rintro e u1 ⟨rfl, kk⟩; have E1 := hide kk; clear kk; have c10 : u1.cell? ⟨w.heap.size, 0, none⟩ = some (.int .i64 p.dims) := ((bcell E1.out).1 _ _ (lt_of_block HX1.out)).trans (cell_of_row _ _ _ _ _ _ HX1.out); have c11 : u1.cell? ⟨w.heap.size, 1, none⟩ = some (.int .i64 p.time.n) := ((bcell E1.out).1 _ _ (lt_of_block HX1.out)).trans (cell_of_row _ _ _ _ _ _ HX1.out); have c12 : u1.cell? ⟨w.heap.size, 2, none⟩ = some (.slice ta p.time.cells.length tc) := ((bcell E1.out).1 _ _ (lt_of_block HX1.out)).trans (cell_of_row _ _ _ _ _ _ HX1.out); have c13 : u1.cell? ⟨w.heap.size, 3, none⟩ = some (.int .i64 p.dist.n) := ((bcell E1.out).1 _ _ (lt_of_block HX1.out)).trans (cell_of_row _ _ _ _ _ _ HX1.out); have c14 : u1.cell? ⟨w.heap.size, 4, none⟩ = some (.slice da p.dist.cells.length dc) := ((bcell E1.out).1 _ _ (lt_of_block HX1.out)).trans (cell_of_row _ _ _ _ _ _ HX1.out); have c15 : u1.cell? ⟨w.heap.size, 5, none⟩ = some (.slice va p.vs.length vc9) := ((bcell E1.out).1 _ _ (lt_of_block HX1.out)).trans (cell_of_row _ _ _ _ _ _ HX1.out); have c16 : u1.cell? ⟨w.heap.size, 6, none⟩ = some (.slice ja p.js.length jc) := ((bcell E1.out).1 _ _ (lt_of_block HX1.out)).trans (cell_of_row _ _ _ _ _ _ HX1.out); have c17 : u1.cell? ⟨w.heap.size, 7, none⟩ = some (.slice sa p.ss.length sc) := ((bcell E1.out).1 _ _ (lt_of_block HX1.out)).trans (cell_of_row _ _ _ _ _ _ HX1.out)) | fail)
    have HS : Hid (∀ w', Below u3.heap.size u3 w' → w'.cell? ⟨w.heap.size, 0, none⟩ = some (.int .i64 p.dims) ∧ w'.cell? ⟨w.heap.size, 1, none⟩ = some (.int .i64 p.time.n) ∧ w'.cell? ⟨w.heap.size, 2, none⟩ = some (.slice ta p.time.cells.length tc) ∧ w'.cell? ⟨w.heap.size, 3, none⟩ = some (.int .i64 p.dist.n) ∧ w'.cell? ⟨w.heap.size, 4, none⟩ = some (.slice da p.dist.cells.length dc) ∧ w'.cell? ⟨w.heap.size, 5, none⟩ = some (.slice va p.vs.length vc9) ∧ w'.cell? ⟨w.heap.size, 6, none⟩ = some (.slice ja p.js.length jc) ∧ w'.cell? ⟨w.heap.size, 7, none⟩ = some (.slice sa p.ss.length sc)) := fun w' hf => ⟨((bcell (below_on E3.out hf)).1 _ _ (lt_of_block HX1.out)).trans (cell_of_row _ _ _ _ _ _ HX1.out), ((bcell (below_on E3.out hf)).1 _ _ (lt_of_block HX1.out)).trans (cell_of_row _ _ _ _ _ _ HX1.out), ((bcell (below_on E3.out hf)).1 _ _ (lt_of_block HX1.out)).trans (cell_of_row _ _ _ _ _ _ HX1.out), ((bcell (below_on E3.out hf)).1 _ _ (lt_of_block HX1.out)).trans (cell_of_row _ _ _ _ _ _ HX1.out), ((bcell (below_on E3.out hf)).1 _ _ (lt_of_block HX1.out)).trans (cell_of_row _ _ _ _ _ _ HX1.out), ((bcell (below_on E3.out hf)).1 _ _ (lt_of_block HX1.out)).trans (cell_of_row _ _ _ _ _ _ HX1.out), ((bcell (below_on E3.out hf)).1 _ _ (lt_of_block HX1.out)).trans (cell_of_row _ _ _ _ _ _ HX1.out), ((bcell (below_on E3.out hf)).1 _ _ (lt_of_block HX1.out)).trans (cell_of_row _ _ _ _ _ _ HX1.out)⟩
    clear c30 c31 c32 c33 c34 c35 c36 c37
    go_cut [8] from 19 to 23 (fun v8 wx => v8 = .slice none 0 0 ∧ Hid (Below u3.heap.size u3 wx))
    case first =>
      refine wp_region_held_drew (S := (fun w' => w'.cell? ⟨w.heap.size, 0, none⟩ = some (.int .i64 p.dims) ∧ w'.cell? ⟨w.heap.size, 1, none⟩ = some (.int .i64 p.time.n) ∧ w'.cell? ⟨w.heap.size, 2, none⟩ = some (.slice ta p.time.cells.length tc) ∧ w'.cell? ⟨w.heap.size, 3, none⟩ = some (.int .i64 p.dist.n) ∧ w'.cell? ⟨w.heap.size, 4, none⟩ = some (.slice da p.dist.cells.length dc) ∧ w'.cell? ⟨w.heap.size, 5, none⟩ = some (.slice va p.vs.length vc9) ∧ w'.cell? ⟨w.heap.size, 6, none⟩ = some (.slice ja p.js.length jc) ∧ w'.cell? ⟨w.heap.size, 7, none⟩ = some (.slice sa p.ss.length sc))) (by kernel_rfl) ?_ (fun hHeld0 => ?_)
      · (try dsimp only); first | fail | exact HS.out _ (Below.refl _ _) | exact HS.out _ ((Below.refl _ _).drew) | (go_keep; done)
      obtain ⟨u0, hu0⟩ : ∃ u, u3.drew = u := ⟨_, rfl⟩
      rw [hu0]
      rw [hu0] at hHeld0
      have K0 : Hid (Below u3.heap.size u3 u0) := by show Below _ _ _; rw [← hu0]; exact ((Below.refl _ _).drew)
      clear hu0
      refine wpAnyH_take (i := 0) (oi := { dst := some 19, op := Op.load 29 (Operand.tmp 3), type := 29, pos := "law.go:108", after := #[], guard := none }) (v := ?_) rfl (by kernel_rfl) (by kernel_rfl) (by kernel_rfl) (fun _ _ _ h => h) (Or.inl ⟨by rfl, ?_⟩) (by assumption) ?_
      rotate_left
      · intro w hSw; (try dsimp only at hSw); first | (go_simp; done) | (go_simp; with_reducible rfl) | with_reducible rfl | rfl
      try simp only [Act.put, List.setIfInBounds_toArray, List.set_cons_succ, List.set_cons_zero]
      refine wpAnyH_ready (rs := [1]) (by kernel_rfl) (by simp) ?_
      refine AllReadyH.cons (o := { dst := some 20, op := Op.makeSlice 32 (Operand.const (Value.int IntKind.i64 3)) (Operand.const (Value.int IntKind.i64 3)), type := 32, pos := "law.go:108", after := #[], guard := none }) rfl (fun K hK => ?_) ?_
      · (obtain ⟨A9, hA9⟩ := made_steps u0; go_simp)
        refine hK.out _ _ ?_ (fun hHeld1 => ?_)
        · (try dsimp only); exact HS.out _ (below_on K0.out ((Below.refl _ _).alloc (Nat.le_refl _) _))
        clear hK K
        try simp only [Act.put, List.setIfInBounds_toArray, List.set_cons_succ, List.set_cons_zero]
        clear hHeld0
        obtain ⟨u1, hu9⟩ : ∃ u, u0.alloc (.cells A9 45) = u := ⟨_, rfl⟩
        rw [hu9]
        rw [hu9] at hHeld1
        have K1 : Hid (Below u3.heap.size u3 u1) := by show Below _ _ _; rw [← hu9]; exact below_on K0.out ((Below.refl _ _).alloc (Nat.le_refl _) _)
        clear hu9
        refine wpAnyH_take (i := 2) (oi := { dst := some 21, op := Op.build 34 #[(0, Operand.const (Value.int IntKind.i64 9)), (1, Operand.tmp 20)], type := 34, pos := "law.go:108", after := #[{ on := 1, ground := Ground.data }], guard := none }) (v := ?_) rfl (by kernel_rfl) (by kernel_rfl) (by kernel_rfl) (fun _ _ _ h => h) (Or.inl ⟨by rfl, ?_⟩) (by assumption) ?_
        rotate_left
        · intro w hSw; (try dsimp only at hSw); first | (go_simp; done) | (go_simp; with_reducible rfl) | with_reducible rfl | rfl
        try simp only [Act.put, List.setIfInBounds_toArray, List.set_cons_succ, List.set_cons_zero]
        refine wpAnyH_ready (rs := [3]) (by kernel_rfl) (by simp) ?_
        refine AllReadyH.cons (o := { dst := some 22, op := Op.call { callee := Callee.value (Operand.func 15), args := #[Operand.tmp 19, Operand.tmp 21], argTypes := #[29, 34] }, type := 22, pos := "law.go:108", after := #[{ on := 0, ground := Ground.data }, { on := 2, ground := Ground.data }], guard := none }) rfl (fun K hK => ?_) ?_
        · refine held_call (by rfl) 15 _ _ (by rfl) hs15 [.agg #[.int .i64 p.dims, .int .i64 p.time.n, .slice ta p.time.cells.length tc, .int .i64 p.dist.n, .slice da p.dist.cells.length dc, .slice va p.vs.length vc9, .slice ja p.js.length jc, .slice sa p.ss.length sc], .agg #[.int .i64 9, .slice (some ⟨u0.heap.size, 0, none⟩) 3 3, .int .i64 0, .int .i64 0, .int .i64 0, .int .i64 0, .int .i64 0]] (by rfl) ?_; refine (H15t.out _ _ (below_on HB.out (below_on E3.out K1.out))).mono ?_; rintro e u2 ⟨rfl, k9⟩; refine ⟨_, rfl, ?_⟩; have E2 := hide k9; have K2 := hide (below_on K1.out k9); clear k9
          refine hK.out _ _ ?_ (fun hHeld2 => ?_)
          · (try dsimp only); exact HS.out _ K2.out
          clear hK K
          try simp only [Act.put, List.setIfInBounds_toArray, List.set_cons_succ, List.set_cons_zero]
          clear hHeld1
          refine wpAnyH_take (i := 4) (oi := { dst := some 8, op := Op.assign (Operand.tmp 22), type := 22, pos := "law.go:108", after := #[{ on := 3, ground := Ground.data }, { on := 3, ground := Ground.chain }, { on := 0, ground := Ground.phase }, { on := 1, ground := Ground.phase }, { on := 2, ground := Ground.phase }, { on := 3, ground := Ground.phase }], guard := none }) (v := ?_) rfl (by kernel_rfl) (by kernel_rfl) (by kernel_rfl) (fun _ _ _ h => h) (Or.inl ⟨by rfl, ?_⟩) (by assumption) ?_
          rotate_left
          · intro w hSw; (try dsimp only at hSw); first | (go_simp; done) | (go_simp; with_reducible rfl) | with_reducible rfl | rfl
          try simp only [Act.put, List.setIfInBounds_toArray, List.set_cons_succ, List.set_cons_zero]
          refine wpAnyH_done (by kernel_rfl) ?_ _
          clear hHeld2
          go_wp2_with fail
          go_meet
          case rel => exact ⟨rfl, K2.out⟩
        exact AllReadyH.nil
      exact AllReadyH.nil
    case rest =>
    obtain ⟨rfl, K6⟩ := hcut
    rename World => u4
    have E4 := hide (below_on E3.out K6.out)
    have c40 : u4.cell? ⟨w.heap.size, 0, none⟩ = some (.int .i64 p.dims) := ((bcell E4.out).1 _ _ (lt_of_block HX1.out)).trans (cell_of_row _ _ _ _ _ _ HX1.out)
    have c41 : u4.cell? ⟨w.heap.size, 1, none⟩ = some (.int .i64 p.time.n) := ((bcell E4.out).1 _ _ (lt_of_block HX1.out)).trans (cell_of_row _ _ _ _ _ _ HX1.out)
    have c42 : u4.cell? ⟨w.heap.size, 2, none⟩ = some (.slice ta p.time.cells.length tc) := ((bcell E4.out).1 _ _ (lt_of_block HX1.out)).trans (cell_of_row _ _ _ _ _ _ HX1.out)
    have c43 : u4.cell? ⟨w.heap.size, 3, none⟩ = some (.int .i64 p.dist.n) := ((bcell E4.out).1 _ _ (lt_of_block HX1.out)).trans (cell_of_row _ _ _ _ _ _ HX1.out)
    have c44 : u4.cell? ⟨w.heap.size, 4, none⟩ = some (.slice da p.dist.cells.length dc) := ((bcell E4.out).1 _ _ (lt_of_block HX1.out)).trans (cell_of_row _ _ _ _ _ _ HX1.out)
    have c45 : u4.cell? ⟨w.heap.size, 5, none⟩ = some (.slice va p.vs.length vc9) := ((bcell E4.out).1 _ _ (lt_of_block HX1.out)).trans (cell_of_row _ _ _ _ _ _ HX1.out)
    have c46 : u4.cell? ⟨w.heap.size, 6, none⟩ = some (.slice ja p.js.length jc) := ((bcell E4.out).1 _ _ (lt_of_block HX1.out)).trans (cell_of_row _ _ _ _ _ _ HX1.out)
    have c47 : u4.cell? ⟨w.heap.size, 7, none⟩ = some (.slice sa p.ss.length sc) := ((bcell E4.out).1 _ _ (lt_of_block HX1.out)).trans (cell_of_row _ _ _ _ _ _ HX1.out)
    go_wp2_with (first | (go_at_call 17; refine (H17.out _ (below_on HB.out E4.out)).mono ?_; rintro e u5 ⟨rfl, kk⟩; have E5 := hide (below_on E4.out kk); clear kk; clear c40 c41 c42 c43 c44 c45 c46 c47; skip) | fail)
    go_ret
    exact ⟨rfl, below_on HB.out E5.out⟩
end Go.Proofs.Ytndbikoccdjafaa
