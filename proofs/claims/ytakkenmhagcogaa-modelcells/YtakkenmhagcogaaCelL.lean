/-
  What the law ModelCells does.
-/
import Derived.Test.YtakkenmhagcogaaAwk
import Derived.Test.YtakkenmhagcogaaRChk
namespace Go.Proofs.Ytakkenmhagcogaa
open Go.RowKit

set_option maxRecDepth 100000 in
set_option maxHeartbeats 3200000 in
theorem cellsL_any {w : World} {x : PrbS} {p : Prb} (h : PrbV w x p) (f t : Int) : Calls Try.prog 5 #[.agg (prbE p x), .int .i64 f, .int .i64 t] w fun e w' => e = .returned (.bool true) ∧ Below w.heap.size w w' := by
  obtain ⟨ta, tc, da, dc, va, vc, ja, jc, sa, sc, rfl⟩ := h.open
  have HP := hide h
  have hv := SlV.bound h.v
  have hj := SlV.bound h.j
  have hs := SlV.bound h.s
  have ht := IntsV.bound h.t
  have hd := IntsV.bound h.d
  clear h
  obtain ⟨bb, hbb⟩ : ∃ b, lawM p = b := ⟨_, rfl⟩
  have HL := hide hbb
  clear hbb
  unfold prbE
  obtain ⟨d, ⟨n, tL⟩, ⟨dn, dL⟩, vL, jL, sL⟩ := p
  simp only at HP hv hj hs ht hd HL ⊢
  obtain ⟨lt, hlt⟩ : ∃ k, tL.length = k := ⟨_, rfl⟩
  obtain ⟨ld, hld⟩ : ∃ k, dL.length = k := ⟨_, rfl⟩
  obtain ⟨lv, hlv⟩ : ∃ k, vL.length = k := ⟨_, rfl⟩
  obtain ⟨lj, hlj⟩ : ∃ k, jL.length = k := ⟨_, rfl⟩
  obtain ⟨ls, hls⟩ : ∃ k, sL.length = k := ⟨_, rfl⟩
  have HLT := hide hlt
  have HLD := hide hld
  have HLV := hide hlv
  have HLJ := hide hlj
  have HLS := hide hls
  rw [hlt, hld, hlv, hlj, hls] at HP
  rw [hlt] at ht
  rw [hld] at hd
  rw [hlv] at hv
  rw [hlj] at hj
  rw [hls] at hs
  rw [hlt, hld, hlv, hlj, hls]
  clear hlt hld hlv hlj hls
  have HB0 : Hid (Below w.heap.size w (w.alloc (.cells #[.int .i64 d, .int .i64 n, .slice ta lt tc, .int .i64 dn, .slice da ld dc, .slice va lv vc, .slice ja lj jc, .slice sa ls sc] 29))) := (Below.refl _ _).alloc (Nat.le_refl _) _
  have HPE : Hid (PrbV (w.alloc (.cells #[.int .i64 d, .int .i64 n, .slice ta lt tc, .int .i64 dn, .slice da ld dc, .slice va lv vc, .slice ja lj jc, .slice sa ls sc] 29)) ⟨.slice ta lt tc, .slice da ld dc, .slice va lv vc, .slice ja lj jc, .slice sa ls sc⟩ ⟨d, ⟨n, tL⟩, ⟨dn, dL⟩, vL, jL, sL⟩) := HP.out.on HB0.out
  have HBX : Hid (BoxP (w.alloc (.cells #[.int .i64 d, .int .i64 n, .slice ta lt tc, .int .i64 dn, .slice da ld dc, .slice va lv vc, .slice ja lj jc, .slice sa ls sc] 29)) w.heap.size ⟨d, ⟨n, tL⟩, ⟨dn, dL⟩, vL, jL, sL⟩ ⟨.slice ta lt tc, .slice da ld dc, .slice va lv vc, .slice ja lj jc, .slice sa ls sc⟩) := fun j hj => by
    have hr := heap_alloc_new w (.cells #[.int .i64 d, .int .i64 n, .slice ta lt tc, .int .i64 dn, .slice da ld dc, .slice va lv vc, .slice ja lj jc, .slice sa ls sc] 29)
    rw [cell_of_row _ _ _ _ _ _ hr]
    rfl
  have HSZ : Hid (w.heap.size < (w.alloc (.cells #[.int .i64 d, .int .i64 n, .slice ta lt tc, .int .i64 dn, .slice da ld dc, .slice va lv vc, .slice ja lj jc, .slice sa ls sc] 29)).heap.size) := by show _ < _; simp
  cases bb with
  | false =>
    go_enter Try.func5, Try.ntmps5
    go_wp2_with (first
    | (go_at_call 13; refine (lawful12_any (HPE.out.on B1.out)).mono ?_; rintro e w2 ⟨rfl, k2⟩; rw [HL.out]; have B2 := hide (below_on B1.out k2); obtain ⟨hc2, hf2⟩ := bcell B2.out; clear k2 hc1 hf1)
    | (go_at_call 9; refine (awake_any _).mono ?_; rintro e w1 ⟨rfl, k1⟩; have B1 := hide k1; obtain ⟨hc1, hf1⟩ := bcell k1; clear k1))
    go_ret
    exact ⟨rfl, below_on HB0.out B2.out⟩
  | true =>
    have HQT : Hid (SqM ⟨n, tL⟩) := by
      obtain ⟨h1, h2, _, _, _⟩ := lawM_ok HL.out
      have := dimB_in h1
      exact sq_of_mat h2 this.1 this.2.1
    have HQD : Hid (SqM ⟨dn, dL⟩) := by
      obtain ⟨h1, _, h3, _, _⟩ := lawM_ok HL.out
      have := dimB_in h1
      exact sq_of_mat h3 this.1 this.2.1
    obtain ⟨z1, hz1⟩ : ∃ z, cellM ⟨n, tL⟩ f t = z := ⟨_, rfl⟩
    obtain ⟨z2, hz2⟩ : ∃ z, cellM ⟨dn, dL⟩ f t = z := ⟨_, rfl⟩
    have HZ1 := hide hz1
    have HZ2 := hide hz2
    clear hz1 hz2
    have y1 : (z1 == z1) = true := by simp
    have y2 : (z2 == z2) = true := by simp
    go_enter Try.func5, Try.ntmps5
    go_wp2_with (first
    | (go_at_call 13; refine (lawful12_any (HPE.out.on B1.out)).mono ?_; rintro e w2 ⟨rfl, k2⟩; rw [HL.out]; have B2 := hide (below_on B1.out k2); obtain ⟨hc2, hf2⟩ := bcell B2.out; clear k2 hc1 hf1)
    | (go_at_call 9; refine (awake_any _).mono ?_; rintro e w1 ⟨rfl, k1⟩; have B1 := hide k1; obtain ⟨hc1, hf1⟩ := bcell k1; clear k1))
    have w2c1 : w2.cell? ⟨w.heap.size, 1, none⟩ = some (.int .i64 n) := (HBX.out.on HSZ.out B2.out) 1 (by decide)
    have w2c2 : w2.cell? ⟨w.heap.size, 2, none⟩ = some (.slice ta lt tc) := (HBX.out.on HSZ.out B2.out) 2 (by decide)
    have w2c3 : w2.cell? ⟨w.heap.size, 3, none⟩ = some (.int .i64 dn) := (HBX.out.on HSZ.out B2.out) 3 (by decide)
    have w2c4 : w2.cell? ⟨w.heap.size, 4, none⟩ = some (.slice da ld dc) := (HBX.out.on HSZ.out B2.out) 4 (by decide)
    first | (go_region_held3 (fun w' => w'.cell? ⟨w.heap.size, 1, none⟩ = some (.int .i64 n) ∧ w'.cell? ⟨w.heap.size, 2, none⟩ = some (.slice ta lt tc) ∧ w'.cell? ⟨w.heap.size, 3, none⟩ = some (.int .i64 dn) ∧ w'.cell? ⟨w.heap.size, 4, none⟩ = some (.slice da ld dc)) (go_keep) (first | (go_at_call 31; refine (rcell_any (m := ⟨dn, dL⟩) (HPE.out.on B5.out).d HQD.out _ _).mono ?_; rintro e w6 ⟨rfl, k6⟩; rw [HZ2.out]; have B6 := hide (below_on B5.out k6); have w6c1 : w6.cell? ⟨w.heap.size, 1, none⟩ = some (.int .i64 n) := (HBX.out.on HSZ.out B6.out) 1 (by decide); have w6c2 : w6.cell? ⟨w.heap.size, 2, none⟩ = some (.slice ta lt tc) := (HBX.out.on HSZ.out B6.out) 2 (by decide); have w6c3 : w6.cell? ⟨w.heap.size, 3, none⟩ = some (.int .i64 dn) := (HBX.out.on HSZ.out B6.out) 3 (by decide); have w6c4 : w6.cell? ⟨w.heap.size, 4, none⟩ = some (.slice da ld dc) := (HBX.out.on HSZ.out B6.out) 4 (by decide); clear k6) | (go_at_call 30; refine (cell_any (m := ⟨dn, dL⟩) (HPE.out.on B4.out).d HQD.out _ _).mono ?_; rintro e w5 ⟨rfl, k5⟩; rw [HZ2.out]; have B5 := hide (below_on B4.out k5); have w5c1 : w5.cell? ⟨w.heap.size, 1, none⟩ = some (.int .i64 n) := (HBX.out.on HSZ.out B5.out) 1 (by decide); have w5c2 : w5.cell? ⟨w.heap.size, 2, none⟩ = some (.slice ta lt tc) := (HBX.out.on HSZ.out B5.out) 2 (by decide); have w5c3 : w5.cell? ⟨w.heap.size, 3, none⟩ = some (.int .i64 dn) := (HBX.out.on HSZ.out B5.out) 3 (by decide); have w5c4 : w5.cell? ⟨w.heap.size, 4, none⟩ = some (.slice da ld dc) := (HBX.out.on HSZ.out B5.out) 4 (by decide); clear k5) | (go_at_call 31; refine (rcell_any (m := ⟨n, tL⟩) (HPE.out.on B3.out).t HQT.out _ _).mono ?_; rintro e w4 ⟨rfl, k4⟩; rw [HZ1.out]; have B4 := hide (below_on B3.out k4); have w4c1 : w4.cell? ⟨w.heap.size, 1, none⟩ = some (.int .i64 n) := (HBX.out.on HSZ.out B4.out) 1 (by decide); have w4c2 : w4.cell? ⟨w.heap.size, 2, none⟩ = some (.slice ta lt tc) := (HBX.out.on HSZ.out B4.out) 2 (by decide); have w4c3 : w4.cell? ⟨w.heap.size, 3, none⟩ = some (.int .i64 dn) := (HBX.out.on HSZ.out B4.out) 3 (by decide); have w4c4 : w4.cell? ⟨w.heap.size, 4, none⟩ = some (.slice da ld dc) := (HBX.out.on HSZ.out B4.out) 4 (by decide); clear k4) | (go_at_call 30; refine (cell_any (m := ⟨n, tL⟩) (HPE.out.on (below_on B2.out ((Below.refl _ _).drew))).t HQT.out _ _).mono ?_; rintro e w3 ⟨rfl, k3⟩; rw [HZ1.out]; have B3 := hide (below_on (below_on B2.out ((Below.refl _ _).drew)) k3); have w3c1 : w3.cell? ⟨w.heap.size, 1, none⟩ = some (.int .i64 n) := (HBX.out.on HSZ.out B3.out) 1 (by decide); have w3c2 : w3.cell? ⟨w.heap.size, 2, none⟩ = some (.slice ta lt tc) := (HBX.out.on HSZ.out B3.out) 2 (by decide); have w3c3 : w3.cell? ⟨w.heap.size, 3, none⟩ = some (.int .i64 dn) := (HBX.out.on HSZ.out B3.out) 3 (by decide); have w3c4 : w3.cell? ⟨w.heap.size, 4, none⟩ = some (.slice da ld dc) := (HBX.out.on HSZ.out B3.out) 4 (by decide); clear k3))) | fail
    rename_i hHeld
    clear hHeld
    go_wp2
    go_ret
    exact ⟨rfl, below_on HB0.out B6.out⟩
end Go.Proofs.Ytakkenmhagcogaa
