/-
  What the law ModelChecks does.
-/
import Derived.Test.YtakkenmhagcogaaAwk
import Derived.Test.YtakkenmhagcogaaRChk
import Derived.Test.YtakkenmhagcogaaCpX
namespace Go.Proofs.Ytakkenmhagcogaa
open Go.RowKit

set_option maxRecDepth 100000 in
set_option maxHeartbeats 3200000 in
theorem checksL_any {w : World} {x : PrbS} {p : Prb} (h : PrbV w x p) : Calls Try.prog 3 #[.agg (prbE p x)] w fun e w' => e = .returned (.bool true) ∧ Below w.heap.size w w' := by
  obtain ⟨ta, tc, da, dc, va, vc, ja, jc, sa, sc, rfl⟩ := h.open
  have HP := hide h
  have hv := SlV.bound h.v
  have hj := SlV.bound h.j
  have hs := SlV.bound h.s
  have ht := IntsV.bound h.t
  have hd := IntsV.bound h.d
  clear h
  obtain ⟨bb, hbb⟩ : ∃ b, lawM p = b := ⟨_, rfl⟩
  have HL := hide hbb
  clear hbb
  unfold prbE
  obtain ⟨d, ⟨n, tL⟩, ⟨dn, dL⟩, vL, jL, sL⟩ := p
  simp only at HP hv hj hs ht hd HL ⊢
  obtain ⟨lt, hlt⟩ : ∃ k, tL.length = k := ⟨_, rfl⟩
  obtain ⟨ld, hld⟩ : ∃ k, dL.length = k := ⟨_, rfl⟩
  obtain ⟨lv, hlv⟩ : ∃ k, vL.length = k := ⟨_, rfl⟩
  obtain ⟨lj, hlj⟩ : ∃ k, jL.length = k := ⟨_, rfl⟩
  obtain ⟨ls, hls⟩ : ∃ k, sL.length = k := ⟨_, rfl⟩
  have HLT := hide hlt
  have HLD := hide hld
  have HLV := hide hlv
  have HLJ := hide hlj
  have HLS := hide hls
  rw [hlt, hld, hlv, hlj, hls] at HP
  rw [hlt] at ht
  rw [hld] at hd
  rw [hlv] at hv
  rw [hlj] at hj
  rw [hls] at hs
  rw [hlt, hld, hlv, hlj, hls]
  clear hlt hld hlv hlj hls
  have HB0 : Hid (Below w.heap.size w (w.alloc (.cells #[.int .i64 d, .int .i64 n, .slice ta lt tc, .int .i64 dn, .slice da ld dc, .slice va lv vc, .slice ja lj jc, .slice sa ls sc] 29))) := (Below.refl _ _).alloc (Nat.le_refl _) _
  have HPE : Hid (PrbV (w.alloc (.cells #[.int .i64 d, .int .i64 n, .slice ta lt tc, .int .i64 dn, .slice da ld dc, .slice va lv vc, .slice ja lj jc, .slice sa ls sc] 29)) ⟨.slice ta lt tc, .slice da ld dc, .slice va lv vc, .slice ja lj jc, .slice sa ls sc⟩ ⟨d, ⟨n, tL⟩, ⟨dn, dL⟩, vL, jL, sL⟩) := HP.out.on HB0.out
  have HBX : Hid (BoxP (w.alloc (.cells #[.int .i64 d, .int .i64 n, .slice ta lt tc, .int .i64 dn, .slice da ld dc, .slice va lv vc, .slice ja lj jc, .slice sa ls sc] 29)) w.heap.size ⟨d, ⟨n, tL⟩, ⟨dn, dL⟩, vL, jL, sL⟩ ⟨.slice ta lt tc, .slice da ld dc, .slice va lv vc, .slice ja lj jc, .slice sa ls sc⟩) := fun j hj => by
    have hr := heap_alloc_new w (.cells #[.int .i64 d, .int .i64 n, .slice ta lt tc, .int .i64 dn, .slice da ld dc, .slice va lv vc, .slice ja lj jc, .slice sa ls sc] 29)
    rw [cell_of_row _ _ _ _ _ _ hr]
    rfl
  have HSZ : Hid (w.heap.size < (w.alloc (.cells #[.int .i64 d, .int .i64 n, .slice ta lt tc, .int .i64 dn, .slice da ld dc, .slice va lv vc, .slice ja lj jc, .slice sa ls sc] 29)).heap.size) := by show _ < _; simp
  obtain ⟨z, hz⟩ : ∃ z, checkM ⟨d, ⟨n, tL⟩, ⟨dn, dL⟩, vL, jL, sL⟩ = z := ⟨_, rfl⟩
  have HZ := hide hz
  clear hz
  have y1 : (z == z) = true := by simp
  by_cases g0 : (2000 : Int) < (lt : Int)
  · go_enter Try.func3, Try.ntmps3
    go_wp2_with (first
              | (go_at_call 9; refine (awake_any _).mono ?_; rintro e w1 ⟨rfl, k1⟩; have B1 := hide k1; obtain ⟨hc1, hf1⟩ := bcell k1; clear k1))
    go_ret
    exact ⟨rfl, below_on HB0.out B1.out⟩
  · skip
    by_cases g1 : (2000 : Int) < (ld : Int)
    · go_enter Try.func3, Try.ntmps3
      go_wp2_with (first
              | (go_at_call 9; refine (awake_any _).mono ?_; rintro e w1 ⟨rfl, k1⟩; have B1 := hide k1; obtain ⟨hc1, hf1⟩ := bcell k1; clear k1))
      go_ret
      exact ⟨rfl, below_on HB0.out B1.out⟩
    · skip
      by_cases g2 : (50 : Int) < (lv : Int)
      · go_enter Try.func3, Try.ntmps3
        go_wp2_with (first
              | (go_at_call 9; refine (awake_any _).mono ?_; rintro e w1 ⟨rfl, k1⟩; have B1 := hide k1; obtain ⟨hc1, hf1⟩ := bcell k1; clear k1))
        go_ret
        exact ⟨rfl, below_on HB0.out B1.out⟩
      · skip
        by_cases g3 : (50 : Int) < (lj : Int)
        · go_enter Try.func3, Try.ntmps3
          go_wp2_with (first
              | (go_at_call 9; refine (awake_any _).mono ?_; rintro e w1 ⟨rfl, k1⟩; have B1 := hide k1; obtain ⟨hc1, hf1⟩ := bcell k1; clear k1))
          go_ret
          exact ⟨rfl, below_on HB0.out B1.out⟩
        · skip
          by_cases g4 : (50 : Int) < (ls : Int)
          · go_enter Try.func3, Try.ntmps3
            go_wp2_with (first
              | (go_at_call 9; refine (awake_any _).mono ?_; rintro e w1 ⟨rfl, k1⟩; have B1 := hide k1; obtain ⟨hc1, hf1⟩ := bcell k1; clear k1))
            go_ret
            exact ⟨rfl, below_on HB0.out B1.out⟩
          · skip
            go_enter Try.func3, Try.ntmps3
            go_wp2_with (first
              | (go_at_call 9; refine (awake_any _).mono ?_; rintro e w1 ⟨rfl, k1⟩; have B1 := hide k1; obtain ⟨hc1, hf1⟩ := bcell k1; clear k1))
            have w1c0 : w1.cell? ⟨w.heap.size, 0, none⟩ = some (.int .i64 d) := (HBX.out.on HSZ.out B1.out) 0 (by decide)
            have w1c1 : w1.cell? ⟨w.heap.size, 1, none⟩ = some (.int .i64 n) := (HBX.out.on HSZ.out B1.out) 1 (by decide)
            have w1c2 : w1.cell? ⟨w.heap.size, 2, none⟩ = some (.slice ta lt tc) := (HBX.out.on HSZ.out B1.out) 2 (by decide)
            have w1c3 : w1.cell? ⟨w.heap.size, 3, none⟩ = some (.int .i64 dn) := (HBX.out.on HSZ.out B1.out) 3 (by decide)
            have w1c4 : w1.cell? ⟨w.heap.size, 4, none⟩ = some (.slice da ld dc) := (HBX.out.on HSZ.out B1.out) 4 (by decide)
            have w1c5 : w1.cell? ⟨w.heap.size, 5, none⟩ = some (.slice va lv vc) := (HBX.out.on HSZ.out B1.out) 5 (by decide)
            have w1c6 : w1.cell? ⟨w.heap.size, 6, none⟩ = some (.slice ja lj jc) := (HBX.out.on HSZ.out B1.out) 6 (by decide)
            have w1c7 : w1.cell? ⟨w.heap.size, 7, none⟩ = some (.slice sa ls sc) := (HBX.out.on HSZ.out B1.out) 7 (by decide)
            clear hc1 hf1
            first | (go_region_held3 (fun w' => w'.cell? ⟨w.heap.size, 0, none⟩ = some (.int .i64 d) ∧ w'.cell? ⟨w.heap.size, 1, none⟩ = some (.int .i64 n) ∧ w'.cell? ⟨w.heap.size, 2, none⟩ = some (.slice ta lt tc) ∧ w'.cell? ⟨w.heap.size, 3, none⟩ = some (.int .i64 dn) ∧ w'.cell? ⟨w.heap.size, 4, none⟩ = some (.slice da ld dc) ∧ w'.cell? ⟨w.heap.size, 5, none⟩ = some (.slice va lv vc) ∧ w'.cell? ⟨w.heap.size, 6, none⟩ = some (.slice ja lj jc) ∧ w'.cell? ⟨w.heap.size, 7, none⟩ = some (.slice sa ls sc)) (go_keep) (first | (go_at_call 12; refine (rcheck_any (HPE.out.on B3.out)).mono ?_; rintro e w4 ⟨rfl, k4⟩; rw [HZ.out]; have B4 := hide (below_on B3.out k4); have w4c0 : w4.cell? ⟨w.heap.size, 0, none⟩ = some (.int .i64 d) := (HBX.out.on HSZ.out B4.out) 0 (by decide); have w4c1 : w4.cell? ⟨w.heap.size, 1, none⟩ = some (.int .i64 n) := (HBX.out.on HSZ.out B4.out) 1 (by decide); have w4c2 : w4.cell? ⟨w.heap.size, 2, none⟩ = some (.slice ta lt tc) := (HBX.out.on HSZ.out B4.out) 2 (by decide); have w4c3 : w4.cell? ⟨w.heap.size, 3, none⟩ = some (.int .i64 dn) := (HBX.out.on HSZ.out B4.out) 3 (by decide); have w4c4 : w4.cell? ⟨w.heap.size, 4, none⟩ = some (.slice da ld dc) := (HBX.out.on HSZ.out B4.out) 4 (by decide); have w4c5 : w4.cell? ⟨w.heap.size, 5, none⟩ = some (.slice va lv vc) := (HBX.out.on HSZ.out B4.out) 5 (by decide); have w4c6 : w4.cell? ⟨w.heap.size, 6, none⟩ = some (.slice ja lj jc) := (HBX.out.on HSZ.out B4.out) 6 (by decide); have w4c7 : w4.cell? ⟨w.heap.size, 7, none⟩ = some (.slice sa ls sc) := (HBX.out.on HSZ.out B4.out) 7 (by decide); clear k4) | (go_at_call 10; refine (check_any HP2.out).mono ?_; rintro e w3 ⟨rfl, k3⟩; rw [HZ.out]; have B3 := hide (below_on B2.out k3); have w3c0 : w3.cell? ⟨w.heap.size, 0, none⟩ = some (.int .i64 d) := (HBX.out.on HSZ.out B3.out) 0 (by decide); have w3c1 : w3.cell? ⟨w.heap.size, 1, none⟩ = some (.int .i64 n) := (HBX.out.on HSZ.out B3.out) 1 (by decide); have w3c2 : w3.cell? ⟨w.heap.size, 2, none⟩ = some (.slice ta lt tc) := (HBX.out.on HSZ.out B3.out) 2 (by decide); have w3c3 : w3.cell? ⟨w.heap.size, 3, none⟩ = some (.int .i64 dn) := (HBX.out.on HSZ.out B3.out) 3 (by decide); have w3c4 : w3.cell? ⟨w.heap.size, 4, none⟩ = some (.slice da ld dc) := (HBX.out.on HSZ.out B3.out) 4 (by decide); have w3c5 : w3.cell? ⟨w.heap.size, 5, none⟩ = some (.slice va lv vc) := (HBX.out.on HSZ.out B3.out) 5 (by decide); have w3c6 : w3.cell? ⟨w.heap.size, 6, none⟩ = some (.slice ja lj jc) := (HBX.out.on HSZ.out B3.out) 6 (by decide); have w3c7 : w3.cell? ⟨w.heap.size, 7, none⟩ = some (.slice sa ls sc) := (HBX.out.on HSZ.out B3.out) 7 (by decide); clear k3) | (go_at_call 11; refine (copied_any (HPE.out.on (below_on B1.out ((Below.refl _ _).drew)))).mono ?_; rintro e w2 ⟨X2, rfl, P2, k2⟩; have HP2 := hide P2; have B2 := hide (below_on (below_on B1.out ((Below.refl _ _).drew)) k2); have w2c0 : w2.cell? ⟨w.heap.size, 0, none⟩ = some (.int .i64 d) := (HBX.out.on HSZ.out B2.out) 0 (by decide); have w2c1 : w2.cell? ⟨w.heap.size, 1, none⟩ = some (.int .i64 n) := (HBX.out.on HSZ.out B2.out) 1 (by decide); have w2c2 : w2.cell? ⟨w.heap.size, 2, none⟩ = some (.slice ta lt tc) := (HBX.out.on HSZ.out B2.out) 2 (by decide); have w2c3 : w2.cell? ⟨w.heap.size, 3, none⟩ = some (.int .i64 dn) := (HBX.out.on HSZ.out B2.out) 3 (by decide); have w2c4 : w2.cell? ⟨w.heap.size, 4, none⟩ = some (.slice da ld dc) := (HBX.out.on HSZ.out B2.out) 4 (by decide); have w2c5 : w2.cell? ⟨w.heap.size, 5, none⟩ = some (.slice va lv vc) := (HBX.out.on HSZ.out B2.out) 5 (by decide); have w2c6 : w2.cell? ⟨w.heap.size, 6, none⟩ = some (.slice ja lj jc) := (HBX.out.on HSZ.out B2.out) 6 (by decide); have w2c7 : w2.cell? ⟨w.heap.size, 7, none⟩ = some (.slice sa ls sc) := (HBX.out.on HSZ.out B2.out) 7 (by decide); clear k2 P2))) | fail
            rename_i hHeld
            clear hHeld
            go_wp2
            go_ret
            exact ⟨rfl, below_on HB0.out B4.out⟩
end Go.Proofs.Ytakkenmhagcogaa
