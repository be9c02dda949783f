/-
  What the fixed facts of chapter 8 (Awake) do; Table, Way, fill of a nil lifted graph.
-/
import Derived.Test.YtojkdmkeankcgaaGreatZTable8
namespace Go.Proofs.YtojkdmkeankcgaaGreat
open Go.RowKit Go.Sort

theorem exB_far : least 3 exW 2 0 = none := by decide
theorem exW_mt : tab (legsM (mtM false) exB) = exW := rfl
set_option maxRecDepth 100000 in
set_option maxHeartbeats 6400000 in
theorem awake8_any (w : World) : Calls Tryz.prog 9 #[] w fun e w' => e = .returned (.bool true) ∧ Below w.heap.size w w' := by
  have HGR := hide (graph_good 3 (some ⟨w.heap.size, 0, none⟩) 2 2 exB false _ (exB_at w) (fun e => by cases e) (by omega) exB_check)
  rw [exW_mt] at HGR
  have HW0 : Hid (Below w.heap.size w (w.alloc (.cells #[.int .i64 0, .int .i64 1, .int .i64 4, .int .i64 0, .int .i64 1, .int .i64 2, .int .i64 0, .int .i64 0] 54))) := (Below.refl _ _).alloc (Nat.le_refl _) _
  have HD1 : Hid (∀ {w' : World} {b : LfB} {rv : Nat → Int} {K : Mx} {rk : Nat → Nat} {Q : Nat → Option Int}, LfA 3 w' b rv (upM K rk) (dnM K rk) → Bd 3 exW 3 K rk Q rv → Calls Tryz.prog 14 #[.pointer (some ⟨b.l, 0, none⟩), .int .i64 0, .int .i64 2] w' fun e w'' => e = .returned (.int .i64 4) ∧ Below w'.heap.size w' w'') := fun hl hb => by
    have := cdist_any hl (by omega) hb exW_ok (p := 0) (q := 2) (by omega) (by omega)
    rw [exW_least] at this
    exact this
  have HD2 : Hid (∀ {w' : World} {b : LfB} {rv : Nat → Int} {K : Mx} {rk : Nat → Nat} {Q : Nat → Option Int}, LfA 3 w' b rv (upM K rk) (dnM K rk) → Bd 3 exW 3 K rk Q rv → Calls Tryz.prog 14 #[.pointer (some ⟨b.l, 0, none⟩), .int .i64 2, .int .i64 0] w' fun e w'' => e = .returned (.int .i64 (-1)) ∧ Below w'.heap.size w' w'') := fun hl hb => by
    have := cdist_any hl (by omega) hb exW_ok (p := 2) (q := 0) (by omega) (by omega)
    rw [exB_far] at this
    exact this
  have HT : Hid (∀ {w' : World} {b : LfB} {rv : Nat → Int} {K : Mx} {rk : Nat → Nat} {Q : Nat → Option Int}, LfA 3 w' b rv (upM K rk) (dnM K rk) → Bd 3 exW 3 K rk Q rv → Calls Tryz.prog 13 #[.pointer (some ⟨b.l, 0, none⟩)] w' fun e w'' => ∃ a m c, e = .returned (.agg #[.int .i64 3, .slice a m c]) ∧ Below w'.heap.size w' w'') := fun hl hb => by
    refine (table8_any hl (by omega) hb exW_ok).mono ?_
    rintro e w'' ⟨v, rfl, h1, h⟩
    obtain ⟨a, c, rfl⟩ := h1.shape
    exact ⟨a, _, c, rfl, h⟩
  have hfd : ∀ (a : Option Addr) (m c : Nat) (w : World), (Instr.field 29 (.agg #[.int .i64 3, .slice a m c]) 0).run Tryz.prog w = .ok (.int .i64 3) w := fun _ _ _ _ => by kernel_rfl
  go_enter Tryz.func9, Tryz.ntmps9
  go_wp2_with (first
    | (go_at_call 10; refine HGR.out.mono ?_; rintro e w2 ⟨g, vt, vl, rfl, h2, h3, h4, h5⟩; obtain ⟨ta, tc, rfl⟩ := h3.shape; obtain ⟨la, lc, rfl⟩ := h4.shape; have H2 := hide (And.intro h2 (HW0.out.trans (h5.mono HW0.out.size))); clear h2 h3 h4 h5)
    | (go_at_call 11; have hb3 := below_two (H2.out.2) H2.out.2.size (.cells #[.int .i64 ((3 : Nat) : Int), .slice ta (cellsM 3 exW).length tc] 29) (.cells #[.int .i64 ((3 : Nat) : Int), .slice la (cellsM 3 (least 3 exW)).length lc] 29); refine (build_any (W := exW) (n := 3) (H2.out.1.later (below_two (Below.refl _ _) (Nat.le_refl _) _ _)) (by omega) exW_ok (fun a _ => tab_loop _ _ a)).mono ?_; rintro e w3 ⟨b, rfl, K, rk, Q, rv, h1, h2, h3, h4⟩; have H3 := hide (And.intro h2 (hb3.trans (h4.mono hb3.size))); have HBD := hide h1; clear h1 h2 h3 h4 hb3)
    | (go_at_call 14; refine (HD2.out (H3.out.1.later H4.out) HBD.out).mono ?_; rintro e w5 ⟨rfl, h5⟩; have H5 := hide (H4.out.trans (h5.mono H4.out.size)); clear h5)
    | (go_at_call 14; refine (HD1.out H3.out.1 HBD.out).mono ?_; rintro e w4 ⟨rfl, h4⟩; have H4 := hide h4; clear h4)
    | (go_at_call 13; refine (HT.out (H3.out.1.later H5.out) HBD.out).mono ?_; rintro e w6 ⟨va, vn, vc, rfl, h6⟩; have H6 := hide (H3.out.2.trans ((H5.out.trans (h6.mono H5.out.size)).mono H3.out.2.size)); clear h6))
  go_ret
  exact ⟨rfl, H6.out⟩
/-! ### of nil -/
set_option maxRecDepth 100000 in
set_option maxHeartbeats 6400000 in
theorem fill_nil (w : World) : Calls Tryz.prog 39 #[.pointer none] w fun e w' => (∃ O, e = .returned (.slice (some ⟨O, 0, none⟩) 0 0)) ∧ Below w.heap.size w w' := by
  have HPL := hide (lplaces_nil w)
  have hmk := made_rows 0 (by omega) w
  have hmk2 : (Instr.makeSlice 71 (.int .i64 0) (.int .i64 0)).run Tryz.prog w = .ok (.slice (some ⟨w.heap.size, 0, none⟩) 0 0) (w.alloc (.cells #[] 73)) := hmk
  have HF : Hid (Below w.heap.size w (w.alloc (.cells #[] 73))) := (Below.refl _ _).alloc (Nat.le_refl _) _
  clear hmk
  go_enter Tryz.func39, Tryz.ntmps39
  go_wp2_with (go_at_call 31; refine HPL.out.mono ?_; rintro e w1 ⟨rfl, hw⟩; rw [hw]; clear hw)
  go_loopw [14] (fun vi wr => vi = .int .i64 0 ∧ wr = w.alloc (.cells #[] 73)) (fun _ _ => 0)
  case atStart => exact ⟨rfl, rfl⟩
  case round =>
    obtain ⟨rfl, rfl⟩ := hrel
    go_wp2
    go_ret
    exact ⟨⟨_, rfl⟩, HF.out⟩
set_option maxRecDepth 100000 in
set_option maxHeartbeats 6400000 in
theorem table8_nil (w : World) : Calls Tryz.prog 13 #[.pointer none] w fun e w' => (∃ a, e = .returned (.agg #[.int .i64 0, .slice a 0 0])) ∧ Below w.heap.size w w' := by
  have HPL := hide (lplaces_nil (w.alloc (.cells #[.int .i64 0, .slice none 0 0] 29)))
  have HRP := hide (repeat8_zero (-1) (w.heap.size + 1) ((w.alloc (.cells #[.int .i64 0, .slice none 0 0] 29)).alloc (.cells #[.int .i64 (-1)] 3)))
  have HTS : Hid (TbS w.heap.size w 0 (w.heap.size + 1 + 1) 0 (w.heap.size + 1 + 1 + 1) [] ((((w.alloc (.cells #[.int .i64 0, .slice none 0 0] 29)).alloc (.cells #[.int .i64 (-1)] 3)).alloc (.cells #[] 3)).alloc (.cells #[.int .i64 0, .slice (some ⟨w.heap.size + 1 + 1, 0, none⟩) 0 0] 29))) := by
    have := tb_start (n := 0) (Q := 0) (q := 0) w _ (by omega) rfl
    have z : ((((w.alloc (.cells #[.int .i64 0, .slice none 0 0] 29)).alloc (.cells #[.int .i64 (-1)] 3)).alloc (.cells (List.replicate 0 (.int .i64 (-1))).toArray 3)).drewN 0).heap.size = w.heap.size + 1 + 1 + 1 := by rw [size_drewN]; simp only [size_alloc]
    rw [z] at this
    exact this
  obtain ⟨B, hB⟩ : ∃ B, w.heap.size = B := ⟨_, rfl⟩
  have HB := hide hB
  clear hB
  go_enter Tryz.func13, Tryz.ntmps13
  go_wp2_with (first
    | (go_at_call 31; refine HPL.out.mono ?_; rintro e w1 ⟨rfl, hw⟩; rw [hw]; clear hw)
    | (go_at_call 38; refine HRP.out.mono ?_; rintro e w2 ⟨rfl, hw⟩; rw [hw]; clear hw)
    | (go_at_call 39; refine (fill_nil _).mono ?_; rintro e w3 ⟨⟨O, rfl⟩, h3⟩; have H3 := hide h3; clear h3))
  rw [HB.out] at HTS H3
  try rw [HB.out]
  generalize ((((w.alloc (.cells #[.int .i64 0, .slice none 0 0] 29)).alloc (.cells #[.int .i64 (-1)] 3)).alloc (.cells #[] 3)).alloc (.cells #[.int .i64 0, .slice (some ⟨B + 1 + 1, 0, none⟩) 0 0] 29)) = W3 at HTS H3
  have hBz : B ≤ W3.heap.size := by rw [← HB.out]; exact HTS.out.below.size
  have hb2 := (H3.out.block _ (Array.getElem?_eq_some_iff.1 HTS.out.b2).1).trans HTS.out.b2
  have hbx := (H3.out.block _ (Array.getElem?_eq_some_iff.1 HTS.out.bx).1).trans HTS.out.bx
  have HBE := hide (HTS.out.below.trans (H3.out.mono hBz))
  go_loopw [27] (fun vi wr => vi = .int .i64 0 ∧ wr = w3) (fun _ _ => 0)
  case atStart => exact ⟨rfl, rfl⟩
  case round =>
    obtain ⟨rfl, rfl⟩ := hrel
    have m0 := cell_of_row wr (B + 1 + 1 + 1) 0 _ _ _ hbx
    have m1 := cell_of_row wr (B + 1 + 1 + 1) 1 _ _ _ hbx
    have m2 := cell_of_row wr B 0 _ _ _ hb2
    have m3 := cell_of_row wr B 1 _ _ _ hb2
    simp only [List.getElem?_toArray, List.getElem?_cons_succ, List.getElem?_cons_zero] at m0 m1 m2 m3
    have z2 := frozen_of_row wr B 0 _ _ hb2
    have z3 := frozen_of_row wr B 1 _ _ hb2
    have HX : Hid (((wr.setCell ⟨B, 0, none⟩ (.int .i64 0)).setCell ⟨B, 1, none⟩ (.slice (some ⟨B + 1 + 1, 0, none⟩) 0 0)).heap[B]? = some (.cells #[.int .i64 0, .slice (some ⟨B + 1 + 1, 0, none⟩) 0 0] 29 (0, 0)) ∧ Below B w ((wr.setCell ⟨B, 0, none⟩ (.int .i64 0)).setCell ⟨B, 1, none⟩ (.slice (some ⟨B + 1 + 1, 0, none⟩) 0 0))) := by
      refine ⟨?_, (HBE.out.setCell (Nat.le_refl _) _).setCell (Nat.le_refl _) _⟩
      rw [heap_setCell_same _ _ 1 _ _ _ (heap_setCell_same _ _ 0 _ _ _ hb2)]
      rfl
    clear hb2 hbx HTS
    go_wp2
    (try simp only [Exit.inBlock, Exit.then])
    refine bodyPost_ret (results_cell_row rfl _ _ B 29 _ (0, 0) _ rfl HX.out.1 Tryz.underlying29 rfl (by kernel_rfl)) rfl ?_
    exact ⟨⟨_, rfl⟩, by rw [HB.out]; exact HX.out.2⟩
/-- Way where the sides don't meet. -/
theorem wayC_none {lp : Option Addr} {p q : Int} {w : World} {n : Nat} (hn : n ≤ 32) (P : World → Prop) (hP : ∀ w', Below w.heap.size w w' → P w')
    (hu : Calls Tryz.prog 43 #[.pointer lp, .int .i64 p] w fun e w' => ∃ sb gc gl gy lk lo hi D A, e = .returned (.pointer (some ⟨sb, 0, none⟩)) ∧ SdAt w.heap.size w' sb gc gl gy n lk lo hi p D A ∧ DOk n D ∧ Below w.heap.size w w')
    (hd : ∀ w', P w' → Calls Tryz.prog 44 #[.pointer lp, .int .i64 q] w' fun e w'' => ∃ sb gc gl gy lk lo hi A, e = .returned (.pointer (some ⟨sb, 0, none⟩)) ∧ SdAt w'.heap.size w'' sb gc gl gy n lk lo hi q (fun _ => none) A ∧ Below w'.heap.size w' w'') :
    Calls Tryz.prog 15 #[.pointer lp, .int .i64 p, .int .i64 q] w fun e w' => e = .returned (.tuple #[.slice none 0 0, .int .i64 (-1)]) ∧ Below w.heap.size w w' := by
  have HU := hide hu
  have HD := hide hd
  have HP := hide hP
  have HN := hide hn
  clear hu hd hP
  go_enter Tryz.func15, Tryz.ntmps15
  go_wp2_with (first
    | (go_at_call 43; refine HU.out.mono ?_; rintro e w1 ⟨su, cu, lu, yu, k1, o1, i1, D, A, rfl, h1, h2, h3⟩; have H1 := hide (And.intro h1 (And.intro h2 h3)); clear h1 h2 h3)
    | (go_at_call 44; refine (HD.out _ (HP.out _ H1.out.2.2)).mono ?_; rintro e w2 ⟨sd, cd, ld, yd, k2, o2, i2, A2, rfl, h1, h3⟩; have H2 := hide (And.intro h1 h3); clear h1 h3)
    | (go_at_call 42; have h0 := meet_any HN.out (H1.out.1.later H2.out.2) H2.out.1 H1.out.2.1 (none_dok n); rw [meetP_none_r] at h0; refine h0.mono ?_; clear h0; rintro e w3 ⟨rfl, k, hw⟩; have H3 := hide hw; clear hw))
  go_ret2
  exact ⟨rfl, by rw [H3.out]; exact Qu.below_drewN (H1.out.2.2.trans (H2.out.2.mono H1.out.2.2.size)) k⟩
theorem wayC_nil (p q : Int) (w : World) : Calls Tryz.prog 15 #[.pointer none, .int .i64 p, .int .i64 q] w fun e w' => e = .returned (.tuple #[.slice none 0 0, .int .i64 (-1)]) ∧ Below w.heap.size w w' := by
  refine wayC_none (n := 0) (by omega) (fun _ => True) (fun _ _ => trivial) ((wards_up_nil p w).mono ?_) fun w' _ => (wards_dn_nil q w').mono ?_
  · rintro e w1 ⟨sb, gc, gl, gy, A, rfl, h1, h2⟩
    exact ⟨sb, gc, gl, gy, _, _, _, _, A, rfl, h1, none_dok 0, h2⟩
  · rintro e w1 ⟨sb, gc, gl, gy, A, rfl, h1, h2⟩
    exact ⟨sb, gc, gl, gy, _, _, _, A, rfl, h1, h2⟩
end Go.Proofs.YtojkdmkeankcgaaGreat
