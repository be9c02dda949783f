/-
  What the law InnerPairs does.
-/
import Derived.Test.YtlaaeimjbojejaaPrP
import Derived.Test.YtlaaeimjbojejaaOwnL
import Derived.Deep.RegionHeld3
namespace Go.Proofs.Ytlaaeimjbojejaa
open Go.RowKit

theorem two_app {wA w' : World} {base g' n c : Nat} {va vb : Value} {La Lb : List Vst} (ha : VRow wA base va La) (hb : VRow wA base vb Lb) (hs : ∀ g, va.ownBlock = some g → vb.ownBlock ≠ some g) (hg : wA.grownBy w' va.ownBlock) (hw : some g' = va.ownBlock ∨ g' = wA.heap.size) : VRow w' base vb Lb ∧ ∀ g, Value.ownBlock (.slice (some ⟨g', 0, none⟩) n c) = some g → vb.ownBlock ≠ some g := by
  have _ := ha
  refine ⟨own_of_block hb fun g h => hg.block g (World.ownsRow.lt hb g h).2 fun e => hs g e.symm h, fun g h => ?_⟩
  injection h with h
  subst h
  rcases hw with e | e
  · exact hs g' e.symm
  · intro h2
    have := (World.ownsRow.lt hb g' h2).2
    omega
theorem take_snoc9 {O : List Vst} {x : Nat} {u : Vst} (h : O[x]? = some u) : O.take (x + 1) = O.take x ++ [u] := by
  obtain ⟨hk, e⟩ := List.getElem?_eq_some_iff.1 h
  rw [List.take_succ_eq_append_getElem hk, e]
theorem vrow_vs {w : World} {base n c : Nat} {a : Option Addr} {L : List Vst} (h : VRow w base (.slice a n c) L) (hn : L.length = n) (hn2 : n ≤ 1000) : VsV w (.slice a n c) L := by
  have h9 := h.vs (by omega)
  exact h9
theorem box_two {w WB W2 : World} {x0 x1 y0 y1 : Value} (h : WB = (w.alloc (.cells #[x0, x1] 44)).alloc (.cells #[y0, y1] 44)) (hf : Below WB.heap.size WB W2) : (W2.cell? ⟨w.heap.size, 0, none⟩ = some x0 ∧ W2.cell? ⟨w.heap.size, 1, none⟩ = some x1) ∧ (W2.cell? ⟨w.heap.size + 1, 0, none⟩ = some y0 ∧ W2.cell? ⟨w.heap.size + 1, 1, none⟩ = some y1) := by
  have hs : WB.heap.size = w.heap.size + 2 := by rw [h]; simp
  have e0 : WB.heap[w.heap.size]? = some (.cells #[x0, x1] 44) := by rw [h, heap_alloc_old _ _ (by simp), heap_alloc_new]
  have e1 : WB.heap[w.heap.size + 1]? = some (.cells #[y0, y1] 44) := by
    rw [h]
    have h9 := heap_alloc_new (w.alloc (.cells #[x0, x1] 44)) (.cells #[y0, y1] 44)
    simp only [World.size_alloc] at h9
    exact h9
  have f0 := (hf.block _ (by omega)).trans e0
  have f1 := (hf.block _ (by omega)).trans e1
  exact ⟨⟨cell_of_row _ _ _ _ _ _ f0, cell_of_row _ _ _ _ _ _ f0⟩, cell_of_row _ _ _ _ _ _ f1, cell_of_row _ _ _ _ _ _ f1⟩
set_option maxRecDepth 100000 in
set_option maxHeartbeats 12800000 in
theorem pairs_any {w : World} {m vc : Nat} {va : Option Addr} {V : List Vst} (hV : VsV w (.slice va m vc) V) (hm : V.length = m) (hz : va = none → vc = 0) (xi xj xk : Int) : Calls Try.prog 8 #[.slice va m vc, .int .i64 xi, .int .i64 xj, .int .i64 xk] w fun e w' => e = .returned (.bool true) ∧ Below w.heap.size w w' := by
  have HV := hide hV
  have HM := hide hm
  have HZ := hide hz
  have hmb : m * 16 ≤ 140737488351232 := by obtain ⟨_, _, e, hb, _⟩ := hV; rw [← hm]; exact hb
  clear hV hm hz
  by_cases hlen : m > 100
  · have hlen' : (100 : Int) < (m : Int) := by omega
    have hlen2 : (m : Int) > 100 := by omega
    go_enter Try.func8, Try.ntmps8
    go_wp2_with (first | (go_at_call 9; refine (awake_any _).mono ?_; rintro e w1 ⟨rfl, k1⟩; have K1 := hide k1; clear k1) | fail)
    go_ret
    exact ⟨rfl, K1.out⟩
  · have hlen' : ¬ (100 : Int) < (m : Int) := by omega
    have hlen2 : ¬ (m : Int) > 100 := by omega
    obtain ⟨⟨G, bo⟩, hE⟩ : ∃ q, pairM V xi xj xk = q := ⟨_, rfl⟩
    have HE := hide hE
    cases bo with
    | false =>
      have hg := pair_false hE
      subst hg
      clear hE
      go_enter Try.func8, Try.ntmps8
      go_wp2_with (first | (go_at_call 13; refine (same_vs R5.out (PrV.on HV.out K5.out)).mono ?_; rintro e w6 ⟨rfl, k6⟩; have K6 := hide (below_on K5.out k6); clear k6) | (go_at_call 14; refine (visits_v L4.out HM.out (by omega)).mono ?_; rintro e w5 ⟨a5, c5, rfl, r5, k5⟩; have K5 := hide (below_on K4.out k5); have R5 := hide r5; clear k5 r5) | (go_at_call 21; refine (pair_any L3.out (by rw [HM.out]; omega) _ _ _).mono ?_; intro e w4 h4; obtain ⟨rfl, q4, k4⟩ := chq_low h4 K3.out HLB.out K3.out.size; rw [HE.out] at q4 ⊢; have L4 := hide q4; have K4 := hide k4; clear h4 q4 k4) | (go_at_call 10; refine (new_copy R2.out HM.out (by omega)).mono ?_; rintro e w3 ⟨lb, rfl, q3, hlb, k3⟩; have L3 := hide q3; have HLB : Hid (w.heap.size ≤ lb) := (Nat.le_trans K2.out.size hlb); have K3 := hide (below_on K2.out k3); clear q3 k3 hlb) | (at_builtin; refine app_copy (.tmp 22) (.tmp 23) rfl rfl rfl rfl (PrV.on HV.out K1.out) HM.out HZ.out (by omega) ?_; intro a2 c2 w2 r2 k2; have R2 := hide r2; have K2 := hide (below_on K1.out k2); clear r2 k2) | (go_at_call 9; refine (awake_any _).mono ?_; rintro e w1 ⟨rfl, k1⟩; have K1 := hide k1; clear k1) | fail)
      go_ret
      exact ⟨rfl, K6.out⟩
    | true =>
      obtain ⟨ii, jj, kk, kd, it, rfl, rfl, rfl, hjk, hkn, hu, hG, hO⟩ := pair_true hE
      rw [HM.out] at hkn hO
      obtain ⟨O, hOe⟩ : ∃ O, oth it V = O := ⟨_, rfl⟩
      rw [hOe] at hG hO
      have HOE := hide hOe
      have hin : ii < m := by rw [← HM.out]; exact (List.getElem?_eq_some_iff.1 hu).1
      obtain ⟨b, off, rfl, hb, c1, c2, -⟩ := vs_cells HV.out hu
      simp only at c1 c2
      have HGL : Hid (G.length = m) := by show _ = _; rw [hG, insM_len (by rw [insM_len (by omega)]; omega), insM_len (by omega)]; omega
      have HGJ : Hid (G[jj]? = some (2, it)) := by show _ = _; rw [hG, ins_get_lt hjk (by rw [insM_len (by omega)]; omega), ins_get_eq (by omega)]
      have HGK : Hid (G[kk]? = some (3, it)) := by show _ = _; rw [hG, ins_get_eq (by rw [insM_len (by omega)]; omega)]
      have HGQ : Hid (∀ q, q ≠ jj → q ≠ kk → G[q]? = O[cqN jj kk q]?) := fun q h1 h2 => by rw [hG]; exact cq_get hjk (by omega) h1 h2
      have HCV : Hid (∀ W2, Below w.heap.size w W2 → W2.cell? ⟨b, off + ii * 2, none⟩ = some (.int .i64 kd) ∧ W2.cell? ⟨b, off + ii * 2 + 1, none⟩ = some (.int .i64 it)) := fun W2 hf => ⟨((bcell hf).1 _ _ hb).trans c1, ((bcell hf).1 _ _ hb).trans c2⟩
      have i1 : (ii : Int) < (m : Int) := by omega
      have i2 : (0 : Int) ≤ (ii : Int) := by omega
      have i3 : ¬ (m : Int) ≤ (ii : Int) := by omega
      have i4 : ¬ (jj : Int) ≥ (kk : Int) := by omega
      have i4' : ¬ (kk : Int) ≤ (jj : Int) := by omega
      have i5 : ¬ (kk : Int) ≥ (m : Int) := by omega
      have i5' : ¬ (m : Int) ≤ (kk : Int) := by omega
      have i6 : (0 : Int) ≤ (jj : Int) := by omega
      have i7 : (0 : Int) ≤ (kk : Int) := by omega
      have i8 : (jj : Int) < (m : Int) := by omega
      have i9 : (kk : Int) < (m : Int) := by omega
      have i10 : ¬ (m : Int) ≤ (jj : Int) := by omega
      have i11 : ¬ kk ≤ jj := by omega
      have i12 : ¬ m ≤ kk := by omega
      have HOL := hide hO
      clear hE hG hOe hO hu c1 c2
      go_enter Try.func8, Try.ntmps8
      go_wp2_with (first | (go_at_call 14; obtain ⟨WB, hWB⟩ : ∃ WB, WB = (w4.alloc (.cells #[.int .i64 2, .int .i64 it] 44)).alloc (.cells #[.int .i64 3, .int .i64 it] 44) := ⟨_, rfl⟩; rw [← hWB]; have HWS : Hid (WB.heap.size = w4.heap.size + 2) := (by show _ = _; rw [hWB]; simp); have KB : Hid (Below w4.heap.size w4 WB) := (by rw [hWB]; exact ((Below.refl _ _).alloc (Nat.le_refl _) _).alloc (by simp) _); have HBX : Hid (∀ W2, Below WB.heap.size WB W2 → (W2.cell? ⟨w4.heap.size, 0, none⟩ = some (.int .i64 2) ∧ W2.cell? ⟨w4.heap.size, 1, none⟩ = some (.int .i64 it)) ∧ (W2.cell? ⟨w4.heap.size + 1, 0, none⟩ = some (.int .i64 3) ∧ W2.cell? ⟨w4.heap.size + 1, 1, none⟩ = some (.int .i64 it))) := (fun W2 hf => box_two hWB hf); refine (visits_v (L4.out.on KB.out) HGL.out (by omega)).mono ?_; rintro e w5 ⟨a5, c5, rfl, r5, k5⟩; have K5 := hide k5; have R5 := hide r5; clear k5 r5 hWB) | (go_at_call 21; refine (pair_any L3.out (by rw [HM.out]; omega) _ _ _).mono ?_; intro e w4 h4; obtain ⟨rfl, q4, k4⟩ := chq_low h4 K3.out HLB.out K3.out.size; rw [HE.out] at q4 ⊢; have L4 := hide q4; have K4 := hide k4; obtain ⟨v40, v41⟩ := HCV.out _ k4; clear h4 q4 k4) | (go_at_call 10; refine (new_copy R2.out HM.out (by omega)).mono ?_; rintro e w3 ⟨lb, rfl, q3, hlb, k3⟩; have L3 := hide q3; have HLB : Hid (w.heap.size ≤ lb) := (Nat.le_trans K2.out.size hlb); have K3 := hide (below_on K2.out k3); clear q3 k3 hlb) | (at_builtin; refine app_copy (.tmp 22) (.tmp 23) rfl rfl rfl rfl (PrV.on HV.out K1.out) HM.out HZ.out (by omega) ?_; intro a2 c2 w2 r2 k2; have R2 := hide r2; have K2 := hide (below_on K1.out k2); clear r2 k2) | (go_at_call 9; refine (awake_any _).mono ?_; rintro e w1 ⟨rfl, k1⟩; have K1 := hide k1; clear k1) | fail)
      obtain ⟨g5, o5, e5, hg5, x1, x2, -⟩ := vs_cells R5.out HGJ.out
      subst e5
      obtain ⟨g5', o5', e5, -, x3, x4, -⟩ := vs_cells R5.out HGK.out
      injection e5 with e5
      injection e5 with e5 e6 _
      subst e5 e6
      simp only at x1 x2 x3 x4
      obtain ⟨q0, q1⟩ := (HBX.out _ K5.out).1
      obtain ⟨q2, q3⟩ := (HBX.out _ K5.out).2
      have K6 := hide (below_on (below_on K4.out KB.out) K5.out)
      go_wp2_with fail
      first | (go_quiet (fail)) | fail
      have HB0 : Hid (∀ k, Below w5.heap.size w5 (w5.drewN k)) := fun k => below_drewN (Below.refl _ _) k
      clear q0 q1 q2 q3 x1 x2 x3 x4 v40 v41
      have hm1 : m ≤ 100 := by omega
      clear hlen hlen' hlen2 i1 i2 i3 i4 i4' i5 i5' i6 i7 i8 i9 i10
      go_wp2_with fail
      go_loopw [74, 14, 15] (fun vi vA vB wr => ∃ (q r1 r2 : Nat) (aa : Option Addr) (ac : Nat) (ba : Option Addr) (bc : Nat), vi = .int .i64 q ∧ vA = .slice aa r1 ac ∧ vB = .slice ba r2 bc ∧ q ≤ m ∧ r1 ≤ q ∧ r2 ≤ q ∧ Hid ((O.take (cqN jj kk q)).length = r1) ∧ Hid ((oth it (V.take q)).length = r2) ∧ Hid (VRow wr w5.heap.size (.slice aa r1 ac) (O.take (cqN jj kk q))) ∧ Hid (VRow wr w5.heap.size (.slice ba r2 bc) (oth it (V.take q))) ∧ Hid (∀ g, Value.ownBlock (.slice aa r1 ac) = some g → Value.ownBlock (.slice ba r2 bc) ≠ some g) ∧ Hid (Below w5.heap.size w5 wr)) (fun vi _ _ _ => m - (intOf vi).toNat)
      case atStart => exact ⟨0, 0, 0, none, 0, none, 0, rfl, rfl, rfl, Nat.zero_le _, Nat.le_refl _, Nat.le_refl _, (by show _ = _; simp [cqN]), rfl, World.ownsRow_nil _ _ 44 2, World.ownsRow_nil _ _ 44 2, (fun g h => by cases h), HB0.out _⟩
      case round =>
        obtain ⟨q, r1, r2, aa, ac, ba, bc, rfl, rfl, rfl, hq, hr1, hr2, HLA, HLB2, HRA, HRB, HSP, HB⟩ := hrel
        have EB := hide (below_on K5.out HB.out)
        have EW := hide (below_on K6.out HB.out)
        by_cases hqm : q < m
        · have j1 : (q : Int) < (m : Int) := by omega
          have j2 : (0 : Int) ≤ (q : Int) := by omega
          have j3 : ¬ (m : Int) ≤ (q : Int) := by omega
          obtain ⟨⟨gk, gi⟩, hgu⟩ : ∃ u, G[q]? = some u := ⟨_, List.getElem?_eq_getElem (by rw [HGL.out]; exact hqm)⟩
          obtain ⟨g6, o6, e6, hg6, y1, y2, -⟩ := vs_cells R5.out hgu
          injection e6 with e6
          injection e6 with e6 e7 _
          subst e6 e7
          simp only at y1 y2
          have z1 : wr.cell? ⟨g5, o5 + q * 2, none⟩ = some (.int .i64 gk) := ((bcell HB.out).1 _ _ hg6).trans y1
          have z2 : wr.cell? ⟨g5, o5 + q * 2 + 1, none⟩ = some (.int .i64 gi) := ((bcell HB.out).1 _ _ hg6).trans y2
          obtain ⟨⟨xk, xi⟩, hu⟩ : ∃ u, V[q]? = some u := ⟨_, List.getElem?_eq_getElem (by rw [HM.out]; exact hqm)⟩
          have HST := hide (oth_step (it := it) hu)
          obtain ⟨b', off', e9, hb', c1, c2, -⟩ := vs_cells HV.out hu
          injection e9 with e9
          injection e9 with e8 e9 _
          subst e8 e9
          simp only at c1 c2
          have HVC : Hid (∀ W2, Below w.heap.size w W2 → W2.cell? ⟨b, off + q * 2, none⟩ = some (.int .i64 xk) ∧ W2.cell? ⟨b, off + q * 2 + 1, none⟩ = some (.int .i64 xi)) := fun W2 hf => ⟨((bcell hf).1 _ _ hb').trans c1, ((bcell hf).1 _ _ hb').trans c2⟩
          have HGQ2 : Hid (q ≠ jj → q ≠ kk → O[cqN jj kk q]? = some (gk, gi)) := fun h1 h2 => by rw [← HGQ.out q h1 h2]; exact hgu
          have kp : Hid ((xi ≠ it ∨ (xk ≠ 2 ∧ xk ≠ 3)) → (!(((xk, xi) : Vst) == (2, it)) && !(((xk, xi) : Vst) == (3, it))) = true) := fun hc => by
            have g2 : (((xk, xi) : Vst) == (2, it)) = false := by simp; intro e1 e2; rcases hc with h | h; exact h e2; exact h.1 e1
            have g3 : (((xk, xi) : Vst) == (3, it)) = false := by simp; intro e1 e2; rcases hc with h | h; exact h e2; exact h.2 e1
            rw [g2, g3]; rfl
          have kn : Hid (xi = it → (xk = 2 ∨ xk = 3) → (!(((xk, xi) : Vst) == (2, it)) && !(((xk, xi) : Vst) == (3, it))) = false) := fun h1 h2 => by rcases h2 with h | h <;> (rw [h1, h]; simp)
          clear hgu hu c1 c2 hb' y1 y2
          rcases (show (q ≠ jj ∧ q ≠ kk) ∨ q = jj ∨ q = kk by omega) with hA | hA | hA
          · have hj : q ≠ jj := hA.1
            have hk2 : q ≠ kk := hA.2
            have yj : ((q : Int) != (jj : Int)) = true := by simp; omega
            have yk : ((q : Int) != (kk : Int)) = true := by simp; omega
            have HCA : Hid (O.take (cqN jj kk (q + 1)) = O.take (cqN jj kk q) ++ [(gk, gi)]) := by show _ = _; rw [cq_next hjk hj hk2, take_snoc9 (HGQ2.out hj hk2)]
            clear hA hj hk2
            by_cases hei : xi = it
            · have yi : (xi == it) = true := by simpa using hei
              by_cases h2 : xk = 2
              · have ya : (xk == 2) = true := by simpa using h2
                have HKP := hide (kn.out hei (.inl h2))
                have HK2 : Hid (oth it (V.take (q + 1)) = oth it (V.take q)) := by show _ = _; rw [HST.out, HKP.out]; simp
                clear hei h2
                go_wp2_with (first | (at_builtin; refine app_one (w := wr.alloc (.cells #[.int .i64 gk, .int .i64 gi] 44)) (u := (gk, gi)) (.tmp 85) (.tmp 90) rfl rfl rfl rfl (heap_alloc_new wr _) (VRow.later HRA.out (Nat.le_refl _) ((Below.refl _ _).alloc (Nat.le_refl _) _)) HLA.out (by omega) (Nat.le_trans HB.out.size (by simp)) ?_; intro g1 c1 w7 s1 s2 s3; have RA := hide s1; have HT := hide (two_app (n := r1 + 1) (c := c1) (VRow.later HRA.out (Nat.le_refl _) ((Below.refl _ _).alloc (Nat.le_refl _) _)) (VRow.later HRB.out (Nat.le_refl _) ((Below.refl _ _).alloc (Nat.le_refl _) _)) HSP.out s2 s3); have E7 : Hid (Below w5.heap.size w5 w7) := below_own (below_on HB.out ((Below.refl _ _).alloc (Nat.le_refl _) _)) HRA.out s2 (Nat.le_trans HB.out.size (by simp)); obtain ⟨d1, d2⟩ := HVC.out _ (below_on K6.out E7.out); obtain ⟨⟨q0, q1⟩, q2, q3⟩ := HBX.out _ (below_on K5.out E7.out); clear s1 s2 s3) | fail)
                first | (go_quiet (fail)) | fail
                go_wp2_with fail
                go_roundw
                case rel => exact ⟨q + 1, r1 + 1, r2, some ⟨g1, 0, none⟩, c1, ba, bc, by go_num, rfl, rfl, by omega, by omega, by omega, by rw [HCA.out, List.length_append, HLA.out]; rfl, by rw [HK2.out]; exact HLB2.out, by rw [HCA.out]; exact VRow.later RA.out (Nat.le_refl _) (below_drewN (Below.refl _ _) _), by rw [HK2.out]; exact VRow.later HT.out.1 (Nat.le_refl _) (below_drewN (Below.refl _ _) _), HT.out.2, below_on E7.out (below_drewN (Below.refl _ _) _)⟩
                case measure => simp [intOf]; omega
              · have ya : (xk == 2) = false := by simpa using h2
                by_cases h3 : xk = 3
                · have yb : (xk == 3) = true := by simpa using h3
                  have HKP := hide (kn.out hei (.inr h3))
                  have HK2 : Hid (oth it (V.take (q + 1)) = oth it (V.take q)) := by show _ = _; rw [HST.out, HKP.out]; simp
                  clear hei h2 h3
                  go_wp2_with (first | (at_builtin; refine app_one (w := wr.alloc (.cells #[.int .i64 gk, .int .i64 gi] 44)) (u := (gk, gi)) (.tmp 85) (.tmp 90) rfl rfl rfl rfl (heap_alloc_new wr _) (VRow.later HRA.out (Nat.le_refl _) ((Below.refl _ _).alloc (Nat.le_refl _) _)) HLA.out (by omega) (Nat.le_trans HB.out.size (by simp)) ?_; intro g1 c1 w7 s1 s2 s3; have RA := hide s1; have HT := hide (two_app (n := r1 + 1) (c := c1) (VRow.later HRA.out (Nat.le_refl _) ((Below.refl _ _).alloc (Nat.le_refl _) _)) (VRow.later HRB.out (Nat.le_refl _) ((Below.refl _ _).alloc (Nat.le_refl _) _)) HSP.out s2 s3); have E7 : Hid (Below w5.heap.size w5 w7) := below_own (below_on HB.out ((Below.refl _ _).alloc (Nat.le_refl _) _)) HRA.out s2 (Nat.le_trans HB.out.size (by simp)); obtain ⟨d1, d2⟩ := HVC.out _ (below_on K6.out E7.out); obtain ⟨⟨q0, q1⟩, q2, q3⟩ := HBX.out _ (below_on K5.out E7.out); clear s1 s2 s3) | fail)
                  first | (go_quiet (fail)) | fail
                  go_wp2_with fail
                  go_roundw
                  case rel => exact ⟨q + 1, r1 + 1, r2, some ⟨g1, 0, none⟩, c1, ba, bc, by go_num, rfl, rfl, by omega, by omega, by omega, by rw [HCA.out, List.length_append, HLA.out]; rfl, by rw [HK2.out]; exact HLB2.out, by rw [HCA.out]; exact VRow.later RA.out (Nat.le_refl _) (below_drewN (Below.refl _ _) _), by rw [HK2.out]; exact VRow.later HT.out.1 (Nat.le_refl _) (below_drewN (Below.refl _ _) _), HT.out.2, below_on E7.out (below_drewN (Below.refl _ _) _)⟩
                  case measure => simp [intOf]; omega
                · have yb : (xk == 3) = false := by simpa using h3
                  have HKP := hide (kp.out (.inr ⟨h2, h3⟩))
                  have HK2 : Hid (oth it (V.take (q + 1)) = oth it (V.take q) ++ [(xk, xi)]) := by show _ = _; rw [HST.out, HKP.out]; rfl
                  clear hei h2 h3
                  go_wp2_with (first | (at_builtin; refine app_one (w := wr.alloc (.cells #[.int .i64 gk, .int .i64 gi] 44)) (u := (gk, gi)) (.tmp 85) (.tmp 90) rfl rfl rfl rfl (heap_alloc_new wr _) (VRow.later HRA.out (Nat.le_refl _) ((Below.refl _ _).alloc (Nat.le_refl _) _)) HLA.out (by omega) (Nat.le_trans HB.out.size (by simp)) ?_; intro g1 c1 w7 s1 s2 s3; have RA := hide s1; have HT := hide (two_app (n := r1 + 1) (c := c1) (VRow.later HRA.out (Nat.le_refl _) ((Below.refl _ _).alloc (Nat.le_refl _) _)) (VRow.later HRB.out (Nat.le_refl _) ((Below.refl _ _).alloc (Nat.le_refl _) _)) HSP.out s2 s3); have E7 : Hid (Below w5.heap.size w5 w7) := below_own (below_on HB.out ((Below.refl _ _).alloc (Nat.le_refl _) _)) HRA.out s2 (Nat.le_trans HB.out.size (by simp)); obtain ⟨d1, d2⟩ := HVC.out _ (below_on K6.out E7.out); obtain ⟨⟨q0, q1⟩, q2, q3⟩ := HBX.out _ (below_on K5.out E7.out); clear s1 s2 s3) | fail)
                  first | (go_quiet (fail)) | fail
                  go_wp2_with (first | (at_builtin; refine app_one (u := (xk, xi)) (.tmp 106) (.tmp 111) rfl rfl rfl rfl (heap_alloc_new _ _) (VRow.later HT.out.1 (Nat.le_refl _) (below_on (below_drewN (Below.refl _ _) _) ((Below.refl _ _).alloc (Nat.le_refl _) _))) HLB2.out (by omega) (Nat.le_trans (E7.out).size (below_on (below_drewN (Below.refl _ _) _) ((Below.refl _ _).alloc (Nat.le_refl _) _)).size) ?_; intro g8 c8 w8 s1 s2 s3; have RB := hide s1; have HT2 := hide (two_app (n := r2 + 1) (c := c8) (VRow.later HT.out.1 (Nat.le_refl _) (below_on (below_drewN (Below.refl _ _) _) ((Below.refl _ _).alloc (Nat.le_refl _) _))) (VRow.later RA.out (Nat.le_refl _) (below_on (below_drewN (Below.refl _ _) _) ((Below.refl _ _).alloc (Nat.le_refl _) _))) (fun g h1 h2 => HT.out.2 g h2 h1) s2 s3); have E8 : Hid (Below w5.heap.size w5 w8) := below_own (below_on E7.out (below_on (below_drewN (Below.refl _ _) _) ((Below.refl _ _).alloc (Nat.le_refl _) _))) HT.out.1 s2 (Nat.le_trans (E7.out).size (below_on (below_drewN (Below.refl _ _) _) ((Below.refl _ _).alloc (Nat.le_refl _) _)).size); clear s1 s2 s3) | fail)
                  go_roundw
                  case rel => exact ⟨q + 1, r1 + 1, r2 + 1, some ⟨g1, 0, none⟩, c1, some ⟨g8, 0, none⟩, c8, by go_num, rfl, rfl, by omega, by omega, by omega, by rw [HCA.out, List.length_append, HLA.out]; rfl, by rw [HK2.out, List.length_append, HLB2.out]; rfl, by rw [HCA.out]; exact HT2.out.1, by rw [HK2.out]; exact RB.out, (fun g h1 h2 => HT2.out.2 g h2 h1), E8.out⟩
                  case measure => simp [intOf]; omega
            · have yi : (xi == it) = false := by simpa using hei
              have HKP := hide (kp.out (.inl hei))
              have HK2 : Hid (oth it (V.take (q + 1)) = oth it (V.take q) ++ [(xk, xi)]) := by show _ = _; rw [HST.out, HKP.out]; rfl
              clear hei
              go_wp2_with (first | (at_builtin; refine app_one (w := wr.alloc (.cells #[.int .i64 gk, .int .i64 gi] 44)) (u := (gk, gi)) (.tmp 85) (.tmp 90) rfl rfl rfl rfl (heap_alloc_new wr _) (VRow.later HRA.out (Nat.le_refl _) ((Below.refl _ _).alloc (Nat.le_refl _) _)) HLA.out (by omega) (Nat.le_trans HB.out.size (by simp)) ?_; intro g1 c1 w7 s1 s2 s3; have RA := hide s1; have HT := hide (two_app (n := r1 + 1) (c := c1) (VRow.later HRA.out (Nat.le_refl _) ((Below.refl _ _).alloc (Nat.le_refl _) _)) (VRow.later HRB.out (Nat.le_refl _) ((Below.refl _ _).alloc (Nat.le_refl _) _)) HSP.out s2 s3); have E7 : Hid (Below w5.heap.size w5 w7) := below_own (below_on HB.out ((Below.refl _ _).alloc (Nat.le_refl _) _)) HRA.out s2 (Nat.le_trans HB.out.size (by simp)); obtain ⟨d1, d2⟩ := HVC.out _ (below_on K6.out E7.out); obtain ⟨⟨q0, q1⟩, q2, q3⟩ := HBX.out _ (below_on K5.out E7.out); clear s1 s2 s3) | fail)
              first | (go_quiet (fail)) | fail
              go_wp2_with (first | (at_builtin; refine app_one (u := (xk, xi)) (.tmp 106) (.tmp 111) rfl rfl rfl rfl (heap_alloc_new _ _) (VRow.later HT.out.1 (Nat.le_refl _) (below_on (below_drewN (Below.refl _ _) _) ((Below.refl _ _).alloc (Nat.le_refl _) _))) HLB2.out (by omega) (Nat.le_trans (E7.out).size (below_on (below_drewN (Below.refl _ _) _) ((Below.refl _ _).alloc (Nat.le_refl _) _)).size) ?_; intro g8 c8 w8 s1 s2 s3; have RB := hide s1; have HT2 := hide (two_app (n := r2 + 1) (c := c8) (VRow.later HT.out.1 (Nat.le_refl _) (below_on (below_drewN (Below.refl _ _) _) ((Below.refl _ _).alloc (Nat.le_refl _) _))) (VRow.later RA.out (Nat.le_refl _) (below_on (below_drewN (Below.refl _ _) _) ((Below.refl _ _).alloc (Nat.le_refl _) _))) (fun g h1 h2 => HT.out.2 g h2 h1) s2 s3); have E8 : Hid (Below w5.heap.size w5 w8) := below_own (below_on E7.out (below_on (below_drewN (Below.refl _ _) _) ((Below.refl _ _).alloc (Nat.le_refl _) _))) HT.out.1 s2 (Nat.le_trans (E7.out).size (below_on (below_drewN (Below.refl _ _) _) ((Below.refl _ _).alloc (Nat.le_refl _) _)).size); clear s1 s2 s3) | fail)
              go_roundw
              case rel => exact ⟨q + 1, r1 + 1, r2 + 1, some ⟨g1, 0, none⟩, c1, some ⟨g8, 0, none⟩, c8, by go_num, rfl, rfl, by omega, by omega, by omega, by rw [HCA.out, List.length_append, HLA.out]; rfl, by rw [HK2.out, List.length_append, HLB2.out]; rfl, by rw [HCA.out]; exact HT2.out.1, by rw [HK2.out]; exact RB.out, (fun g h1 h2 => HT2.out.2 g h2 h1), E8.out⟩
              case measure => simp [intOf]; omega
          · have yj : ((q : Int) != (jj : Int)) = false := by simp; omega
            have HCA : Hid (O.take (cqN jj kk (q + 1)) = O.take (cqN jj kk q)) := by show _ = _; rw [cq_same hjk (.inl hA)]
            clear hA
            obtain ⟨d1, d2⟩ := HVC.out _ EW.out
            obtain ⟨⟨q0, q1⟩, q2, q3⟩ := HBX.out _ EB.out
            by_cases hei : xi = it
            · have yi : (xi == it) = true := by simpa using hei
              by_cases h2 : xk = 2
              · have ya : (xk == 2) = true := by simpa using h2
                have HKP := hide (kn.out hei (.inl h2))
                have HK2 : Hid (oth it (V.take (q + 1)) = oth it (V.take q)) := by show _ = _; rw [HST.out, HKP.out]; simp
                clear hei h2
                go_wp2_with fail
                first | (go_quiet (fail)) | fail
                go_wp2_with fail
                go_roundw
                case rel => exact ⟨q + 1, r1, r2, aa, ac, ba, bc, by go_num, rfl, rfl, by omega, by omega, by omega, by rw [HCA.out]; exact HLA.out, by rw [HK2.out]; exact HLB2.out, by rw [HCA.out]; exact VRow.later HRA.out (Nat.le_refl _) (below_drewN (Below.refl _ _) _), by rw [HK2.out]; exact VRow.later HRB.out (Nat.le_refl _) (below_drewN (Below.refl _ _) _), HSP.out, below_on HB.out (below_drewN (Below.refl _ _) _)⟩
                case measure => simp [intOf]; omega
              · have ya : (xk == 2) = false := by simpa using h2
                by_cases h3 : xk = 3
                · have yb : (xk == 3) = true := by simpa using h3
                  have HKP := hide (kn.out hei (.inr h3))
                  have HK2 : Hid (oth it (V.take (q + 1)) = oth it (V.take q)) := by show _ = _; rw [HST.out, HKP.out]; simp
                  clear hei h2 h3
                  go_wp2_with fail
                  first | (go_quiet (fail)) | fail
                  go_wp2_with fail
                  go_roundw
                  case rel => exact ⟨q + 1, r1, r2, aa, ac, ba, bc, by go_num, rfl, rfl, by omega, by omega, by omega, by rw [HCA.out]; exact HLA.out, by rw [HK2.out]; exact HLB2.out, by rw [HCA.out]; exact VRow.later HRA.out (Nat.le_refl _) (below_drewN (Below.refl _ _) _), by rw [HK2.out]; exact VRow.later HRB.out (Nat.le_refl _) (below_drewN (Below.refl _ _) _), HSP.out, below_on HB.out (below_drewN (Below.refl _ _) _)⟩
                  case measure => simp [intOf]; omega
                · have yb : (xk == 3) = false := by simpa using h3
                  have HKP := hide (kp.out (.inr ⟨h2, h3⟩))
                  have HK2 : Hid (oth it (V.take (q + 1)) = oth it (V.take q) ++ [(xk, xi)]) := by show _ = _; rw [HST.out, HKP.out]; rfl
                  clear hei h2 h3
                  go_wp2_with fail
                  first | (go_quiet (fail)) | fail
                  go_wp2_with (first | (at_builtin; refine app_one (u := (xk, xi)) (.tmp 106) (.tmp 111) rfl rfl rfl rfl (heap_alloc_new _ _) (VRow.later HRB.out (Nat.le_refl _) (below_on (below_drewN (Below.refl _ _) _) ((Below.refl _ _).alloc (Nat.le_refl _) _))) HLB2.out (by omega) (Nat.le_trans (HB.out).size (below_on (below_drewN (Below.refl _ _) _) ((Below.refl _ _).alloc (Nat.le_refl _) _)).size) ?_; intro g8 c8 w8 s1 s2 s3; have RB := hide s1; have HT2 := hide (two_app (n := r2 + 1) (c := c8) (VRow.later HRB.out (Nat.le_refl _) (below_on (below_drewN (Below.refl _ _) _) ((Below.refl _ _).alloc (Nat.le_refl _) _))) (VRow.later HRA.out (Nat.le_refl _) (below_on (below_drewN (Below.refl _ _) _) ((Below.refl _ _).alloc (Nat.le_refl _) _))) (fun g h1 h2 => HSP.out g h2 h1) s2 s3); have E8 : Hid (Below w5.heap.size w5 w8) := below_own (below_on HB.out (below_on (below_drewN (Below.refl _ _) _) ((Below.refl _ _).alloc (Nat.le_refl _) _))) HRB.out s2 (Nat.le_trans (HB.out).size (below_on (below_drewN (Below.refl _ _) _) ((Below.refl _ _).alloc (Nat.le_refl _) _)).size); clear s1 s2 s3) | fail)
                  go_roundw
                  case rel => exact ⟨q + 1, r1, r2 + 1, aa, ac, some ⟨g8, 0, none⟩, c8, by go_num, rfl, rfl, by omega, by omega, by omega, by rw [HCA.out]; exact HLA.out, by rw [HK2.out, List.length_append, HLB2.out]; rfl, by rw [HCA.out]; exact HT2.out.1, by rw [HK2.out]; exact RB.out, (fun g h1 h2 => HT2.out.2 g h2 h1), E8.out⟩
                  case measure => simp [intOf]; omega
            · have yi : (xi == it) = false := by simpa using hei
              have HKP := hide (kp.out (.inl hei))
              have HK2 : Hid (oth it (V.take (q + 1)) = oth it (V.take q) ++ [(xk, xi)]) := by show _ = _; rw [HST.out, HKP.out]; rfl
              clear hei
              go_wp2_with fail
              first | (go_quiet (fail)) | fail
              go_wp2_with (first | (at_builtin; refine app_one (u := (xk, xi)) (.tmp 106) (.tmp 111) rfl rfl rfl rfl (heap_alloc_new _ _) (VRow.later HRB.out (Nat.le_refl _) (below_on (below_drewN (Below.refl _ _) _) ((Below.refl _ _).alloc (Nat.le_refl _) _))) HLB2.out (by omega) (Nat.le_trans (HB.out).size (below_on (below_drewN (Below.refl _ _) _) ((Below.refl _ _).alloc (Nat.le_refl _) _)).size) ?_; intro g8 c8 w8 s1 s2 s3; have RB := hide s1; have HT2 := hide (two_app (n := r2 + 1) (c := c8) (VRow.later HRB.out (Nat.le_refl _) (below_on (below_drewN (Below.refl _ _) _) ((Below.refl _ _).alloc (Nat.le_refl _) _))) (VRow.later HRA.out (Nat.le_refl _) (below_on (below_drewN (Below.refl _ _) _) ((Below.refl _ _).alloc (Nat.le_refl _) _))) (fun g h1 h2 => HSP.out g h2 h1) s2 s3); have E8 : Hid (Below w5.heap.size w5 w8) := below_own (below_on HB.out (below_on (below_drewN (Below.refl _ _) _) ((Below.refl _ _).alloc (Nat.le_refl _) _))) HRB.out s2 (Nat.le_trans (HB.out).size (below_on (below_drewN (Below.refl _ _) _) ((Below.refl _ _).alloc (Nat.le_refl _) _)).size); clear s1 s2 s3) | fail)
              go_roundw
              case rel => exact ⟨q + 1, r1, r2 + 1, aa, ac, some ⟨g8, 0, none⟩, c8, by go_num, rfl, rfl, by omega, by omega, by omega, by rw [HCA.out]; exact HLA.out, by rw [HK2.out, List.length_append, HLB2.out]; rfl, by rw [HCA.out]; exact HT2.out.1, by rw [HK2.out]; exact RB.out, (fun g h1 h2 => HT2.out.2 g h2 h1), E8.out⟩
              case measure => simp [intOf]; omega
          · have yj : ((q : Int) != (jj : Int)) = true := by simp; omega
            have yk : ((q : Int) != (kk : Int)) = false := by simp; omega
            have HCA : Hid (O.take (cqN jj kk (q + 1)) = O.take (cqN jj kk q)) := by show _ = _; rw [cq_same hjk (.inr hA)]
            clear hA
            obtain ⟨d1, d2⟩ := HVC.out _ EW.out
            obtain ⟨⟨q0, q1⟩, q2, q3⟩ := HBX.out _ EB.out
            by_cases hei : xi = it
            · have yi : (xi == it) = true := by simpa using hei
              by_cases h2 : xk = 2
              · have ya : (xk == 2) = true := by simpa using h2
                have HKP := hide (kn.out hei (.inl h2))
                have HK2 : Hid (oth it (V.take (q + 1)) = oth it (V.take q)) := by show _ = _; rw [HST.out, HKP.out]; simp
                clear hei h2
                go_wp2_with fail
                first | (go_quiet (fail)) | fail
                go_wp2_with fail
                go_roundw
                case rel => exact ⟨q + 1, r1, r2, aa, ac, ba, bc, by go_num, rfl, rfl, by omega, by omega, by omega, by rw [HCA.out]; exact HLA.out, by rw [HK2.out]; exact HLB2.out, by rw [HCA.out]; exact VRow.later HRA.out (Nat.le_refl _) (below_drewN (Below.refl _ _) _), by rw [HK2.out]; exact VRow.later HRB.out (Nat.le_refl _) (below_drewN (Below.refl _ _) _), HSP.out, below_on HB.out (below_drewN (Below.refl _ _) _)⟩
                case measure => simp [intOf]; omega
              · have ya : (xk == 2) = false := by simpa using h2
                by_cases h3 : xk = 3
                · have yb : (xk == 3) = true := by simpa using h3
                  have HKP := hide (kn.out hei (.inr h3))
                  have HK2 : Hid (oth it (V.take (q + 1)) = oth it (V.take q)) := by show _ = _; rw [HST.out, HKP.out]; simp
                  clear hei h2 h3
                  go_wp2_with fail
                  first | (go_quiet (fail)) | fail
                  go_wp2_with fail
                  go_roundw
                  case rel => exact ⟨q + 1, r1, r2, aa, ac, ba, bc, by go_num, rfl, rfl, by omega, by omega, by omega, by rw [HCA.out]; exact HLA.out, by rw [HK2.out]; exact HLB2.out, by rw [HCA.out]; exact VRow.later HRA.out (Nat.le_refl _) (below_drewN (Below.refl _ _) _), by rw [HK2.out]; exact VRow.later HRB.out (Nat.le_refl _) (below_drewN (Below.refl _ _) _), HSP.out, below_on HB.out (below_drewN (Below.refl _ _) _)⟩
                  case measure => simp [intOf]; omega
                · have yb : (xk == 3) = false := by simpa using h3
                  have HKP := hide (kp.out (.inr ⟨h2, h3⟩))
                  have HK2 : Hid (oth it (V.take (q + 1)) = oth it (V.take q) ++ [(xk, xi)]) := by show _ = _; rw [HST.out, HKP.out]; rfl
                  clear hei h2 h3
                  go_wp2_with fail
                  first | (go_quiet (fail)) | fail
                  go_wp2_with (first | (at_builtin; refine app_one (u := (xk, xi)) (.tmp 106) (.tmp 111) rfl rfl rfl rfl (heap_alloc_new _ _) (VRow.later HRB.out (Nat.le_refl _) (below_on (below_drewN (Below.refl _ _) _) ((Below.refl _ _).alloc (Nat.le_refl _) _))) HLB2.out (by omega) (Nat.le_trans (HB.out).size (below_on (below_drewN (Below.refl _ _) _) ((Below.refl _ _).alloc (Nat.le_refl _) _)).size) ?_; intro g8 c8 w8 s1 s2 s3; have RB := hide s1; have HT2 := hide (two_app (n := r2 + 1) (c := c8) (VRow.later HRB.out (Nat.le_refl _) (below_on (below_drewN (Below.refl _ _) _) ((Below.refl _ _).alloc (Nat.le_refl _) _))) (VRow.later HRA.out (Nat.le_refl _) (below_on (below_drewN (Below.refl _ _) _) ((Below.refl _ _).alloc (Nat.le_refl _) _))) (fun g h1 h2 => HSP.out g h2 h1) s2 s3); have E8 : Hid (Below w5.heap.size w5 w8) := below_own (below_on HB.out (below_on (below_drewN (Below.refl _ _) _) ((Below.refl _ _).alloc (Nat.le_refl _) _))) HRB.out s2 (Nat.le_trans (HB.out).size (below_on (below_drewN (Below.refl _ _) _) ((Below.refl _ _).alloc (Nat.le_refl _) _)).size); clear s1 s2 s3) | fail)
                  go_roundw
                  case rel => exact ⟨q + 1, r1, r2 + 1, aa, ac, some ⟨g8, 0, none⟩, c8, by go_num, rfl, rfl, by omega, by omega, by omega, by rw [HCA.out]; exact HLA.out, by rw [HK2.out, List.length_append, HLB2.out]; rfl, by rw [HCA.out]; exact HT2.out.1, by rw [HK2.out]; exact RB.out, (fun g h1 h2 => HT2.out.2 g h2 h1), E8.out⟩
                  case measure => simp [intOf]; omega
            · have yi : (xi == it) = false := by simpa using hei
              have HKP := hide (kp.out (.inl hei))
              have HK2 : Hid (oth it (V.take (q + 1)) = oth it (V.take q) ++ [(xk, xi)]) := by show _ = _; rw [HST.out, HKP.out]; rfl
              clear hei
              go_wp2_with fail
              first | (go_quiet (fail)) | fail
              go_wp2_with (first | (at_builtin; refine app_one (u := (xk, xi)) (.tmp 106) (.tmp 111) rfl rfl rfl rfl (heap_alloc_new _ _) (VRow.later HRB.out (Nat.le_refl _) (below_on (below_drewN (Below.refl _ _) _) ((Below.refl _ _).alloc (Nat.le_refl _) _))) HLB2.out (by omega) (Nat.le_trans (HB.out).size (below_on (below_drewN (Below.refl _ _) _) ((Below.refl _ _).alloc (Nat.le_refl _) _)).size) ?_; intro g8 c8 w8 s1 s2 s3; have RB := hide s1; have HT2 := hide (two_app (n := r2 + 1) (c := c8) (VRow.later HRB.out (Nat.le_refl _) (below_on (below_drewN (Below.refl _ _) _) ((Below.refl _ _).alloc (Nat.le_refl _) _))) (VRow.later HRA.out (Nat.le_refl _) (below_on (below_drewN (Below.refl _ _) _) ((Below.refl _ _).alloc (Nat.le_refl _) _))) (fun g h1 h2 => HSP.out g h2 h1) s2 s3); have E8 : Hid (Below w5.heap.size w5 w8) := below_own (below_on HB.out (below_on (below_drewN (Below.refl _ _) _) ((Below.refl _ _).alloc (Nat.le_refl _) _))) HRB.out s2 (Nat.le_trans (HB.out).size (below_on (below_drewN (Below.refl _ _) _) ((Below.refl _ _).alloc (Nat.le_refl _) _)).size); clear s1 s2 s3) | fail)
              go_roundw
              case rel => exact ⟨q + 1, r1, r2 + 1, aa, ac, some ⟨g8, 0, none⟩, c8, by go_num, rfl, rfl, by omega, by omega, by omega, by rw [HCA.out]; exact HLA.out, by rw [HK2.out, List.length_append, HLB2.out]; rfl, by rw [HCA.out]; exact HT2.out.1, by rw [HK2.out]; exact RB.out, (fun g h1 h2 => HT2.out.2 g h2 h1), E8.out⟩
              case measure => simp [intOf]; omega
        · have j1 : ¬ (q : Int) < (m : Int) := by omega
          have hqe : V.take q = V := List.take_of_length_le (by rw [HM.out]; omega)
          have hcq : O.take (cqN jj kk q) = O := List.take_of_length_le (by unfold cqN; rw [if_pos (by omega), if_pos (by omega)]; have := HOL.out; omega)
          rw [hqe, HOE.out] at HLB2 HRB
          rw [hcq] at HLA HRA
          have hrr : r1 = r2 := by rw [← HLA.out, ← HLB2.out]
          subst hrr
          have HVA : Hid (VsV wr (.slice aa r1 ac) O) := vrow_vs HRA.out HLA.out (by omega)
          have HVB : Hid (VsV wr (.slice ba r1 bc) O) := vrow_vs HRB.out HLB2.out (by omega)
          clear hqe hcq
          go_wp2_with (first | (go_at_call 13; refine (same_vs HVA.out HVB.out).mono ?_; rintro e w9 ⟨rfl, k9⟩; have K9 := hide k9; clear k9) | fail)
          go_ret
          exact ⟨rfl, below_on EW.out K9.out⟩
end Go.Proofs.Ytlaaeimjbojejaa
