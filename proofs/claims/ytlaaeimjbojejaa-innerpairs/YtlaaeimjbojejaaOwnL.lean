/-
  What the law InnerOwn does.
-/
import Derived.Test.YtlaaeimjbojejaaNil
import Derived.Test.YtlaaeimjbojejaaBckL
import Derived.Deep.RegionHeld3
namespace Go.Proofs.Ytlaaeimjbojejaa
open Go.RowKit

set_option maxRecDepth 100000 in
set_option maxHeartbeats 12800000 in
theorem new_loc {w : World} {m vc : Nat} {va : Option Addr} {V : List Vst} (hV : VsV w (.slice va m vc) V) (hm : V.length = m) (hm2 : m ≤ 900) (hz : va = none → vc = 0) :
    Calls Try.prog 10 #[.slice va m vc] w fun e w' => ∃ lb, e = .returned (.pointer (some ⟨lb, 0, none⟩)) ∧ LineV w' lb V ∧ (∀ W2, w'.heap.size ≤ W2.heap.size → (∀ b, w.heap.size ≤ b → b < w'.heap.size → W2.heap[b]? = w'.heap[b]?) → LineV W2 lb V) ∧ Below w.heap.size w w' := by
  have H23 := hide (clone_any hV hm hm2 hz)
  have HM := hide hm
  clear hV hm hz
  go_enter Try.func10, Try.ntmps10
  go_wp2_with (first | (go_at_call 23; refine H23.out.mono ?_; rintro e w1 ⟨a, c, rfl, r1, k1⟩; have R1 := hide r1; have K1 := hide k1; clear r1 k1) | fail)
  go_ret
  have hloc : ∀ W2, (w1.alloc (.cells #[.slice a m c] 48)).heap.size ≤ W2.heap.size → (∀ b, w.heap.size ≤ b → b < (w1.alloc (.cells #[.slice a m c] 48)).heap.size → W2.heap[b]? = (w1.alloc (.cells #[.slice a m c] 48)).heap[b]?) → LineV W2 w1.heap.size V := fun W2 hs hb => by
    have hs1 : (w1.alloc (.cells #[.slice a m c] 48)).heap.size = w1.heap.size + 1 := by simp
    refine ⟨a, c, ?_, ?_, ?_⟩
    · rw [HM.out, hb _ K1.out.size (by omega)]; exact heap_alloc_new _ _
    · rw [HM.out]
      refine own_of_block (own_mono R1.out (Nat.zero_le _)) fun g hg => ?_
      have h9 := World.ownsRow.lt R1.out g hg
      rw [hb g h9.1 (by omega)]
      exact heap_alloc_old _ _ (by omega)
    · intro g hg
      rw [HM.out] at hg
      have := (World.ownsRow.lt R1.out g hg).2
      omega
  exact ⟨w1.heap.size, rfl, hloc _ (Nat.le_refl _) (fun _ _ _ => rfl), hloc, below_on K1.out ((Below.refl _ _).alloc (Nat.le_refl _) _)⟩
theorem visits_v {w : World} {lb m : Nat} {V : List Vst} (h : LineV w lb V) (hm : V.length = m) (hn : m ≤ 900) : Calls Try.prog 14 #[.pointer (some ⟨lb, 0, none⟩)] w fun e w' => ∃ a c, e = .returned (.slice a m c) ∧ VsV w' (.slice a m c) V ∧ Below w.heap.size w w' := by
  subst hm
  refine (visits_any h hn).mono ?_
  rintro e w' ⟨a, c, rfl, r, k⟩
  exact ⟨a, c, rfl, r.vs (by omega), k⟩
theorem visits_m {w : World} {lb m : Nat} {V : List Vst} (h : LineV w lb V) (hm : V.length = m) (hn : m ≤ 900) : Calls Try.prog 14 #[.pointer (some ⟨lb, 0, none⟩)] w fun e w' => ∃ a c, e = .returned (.slice a m c) ∧ VRow w' w.heap.size (.slice a m c) V ∧ Below w.heap.size w w' := by
  subst hm
  exact visits_any h hn
/-- Two blocks turn, nothing else. -/
structure TwoB (g1 g2 : Nat) (a b : World) : Prop where
  os : b.os = a.os
  tape : b.tape = a.tape
  output : b.output = a.output
  size : b.heap.size = a.heap.size
  block : ∀ q, q ≠ g1 → q ≠ g2 → b.heap[q]? = a.heap[q]?
theorem TwoB.refl (g1 g2 : Nat) (a : World) : TwoB g1 g2 a a := ⟨rfl, rfl, rfl, rfl, fun _ _ _ => rfl⟩
theorem TwoB.set {g1 g2 g : Nat} {a b : World} (h : TwoB g1 g2 a b) (hg : g = g1 ∨ g = g2) (j : Nat) (u : Value) : TwoB g1 g2 a (b.setCell ⟨g, j, none⟩ u) :=
  ⟨h.os, h.tape, h.output, by simpa using h.size, fun q h1 h2 => (heap_setCell_other _ _ _ _ (by rcases hg with e | e <;> (rw [e]; assumption))).trans (h.block q h1 h2)⟩
theorem TwoB.low {g1 g2 B : Nat} {w a b : World} (h : TwoB g1 g2 a b) (f : Below B w a) (h1 : B ≤ g1) (h2 : B ≤ g2) : Below B w b :=
  f.trans ⟨h.os, h.tape, h.output, Nat.le_of_eq h.size.symm, fun q hq => h.block q (by omega) (by omega)⟩
set_option maxRecDepth 100000 in
set_option maxHeartbeats 12800000 in
theorem own_any {w : World} {m vc : Nat} {va : Option Addr} {V : List Vst} (hV : VsV w (.slice va m vc) V) (hm : V.length = m) (hz : va = none → vc = 0) (ch xi xj xk : Int) : Calls Try.prog 7 #[.slice va m vc, .agg #[.int .i64 ch, .int .i64 xi, .int .i64 xj, .int .i64 xk]] w fun e w' => e = .returned (.bool true) ∧ Below w.heap.size w w' := by
  have HV := hide hV
  have HM := hide hm
  have HZ := hide hz
  have hmb : m * 16 ≤ 140737488351232 := by obtain ⟨_, _, e, hb, _⟩ := hV; rw [← hm]; exact hb
  clear hV hm hz
  obtain ⟨W, hW⟩ : ∃ W, W = w.alloc (.cells #[.int .i64 ch, .int .i64 xi, .int .i64 xj, .int .i64 xk] 24) := ⟨_, rfl⟩
  have HBW : Hid (Below w.heap.size w W) := by rw [hW]; exact (Below.refl _ _).alloc (Nat.le_refl _) _
  have HWS : Hid (W.heap.size = w.heap.size + 1) := by show _ = _; rw [hW]; simp
  have HC : Hid (∀ W2, Below W.heap.size W W2 → ∀ j, W2.cell? ⟨w.heap.size, j, none⟩ = (#[.int .i64 ch, .int .i64 xi, .int .i64 xj, .int .i64 xk] : Array Value)[j]?) := fun W2 hf j => by
    have e9 : W.heap[w.heap.size]? = some (.cells #[.int .i64 ch, .int .i64 xi, .int .i64 xj, .int .i64 xk] 24) := by rw [hW]; exact heap_alloc_new _ _
    exact cell_of_row _ _ _ _ _ _ ((hf.block _ (by rw [HWS.out]; omega)).trans e9)
  have H9 : Hid (Calls Try.prog 9 #[] W fun e w' => e = .returned (.bool true) ∧ Below W.heap.size W w') := awake_any W
  go_enter Try.func7, Try.ntmps7
  go_wp2_with (first | (go_at_call 9; rw [← hW]; refine H9.out.mono ?_; rintro e w1 ⟨rfl, k1⟩; have K1 := hide k1; clear k1) | fail)
  go_loopw [6] (fun v6 wr => ∃ c : Nat, v6 = .int .i64 c ∧ c ≤ 6 ∧ Hid (Below W.heap.size W wr)) (fun v6 _ => 6 - (intOf v6).toNat)
  case atStart => exact ⟨0, rfl, by omega, K1.out⟩
  case round =>
    clear K1
    obtain ⟨c, rfl, hc, KL⟩ := hrel
    by_cases hc6 : c < 6
    · have i1 : (c : Int) < 6 := by omega
      have z1 : wr.cell? ⟨w.heap.size, 1, none⟩ = some (.int .i64 xi) := HC.out _ KL.out 1
      have z2 : wr.cell? ⟨w.heap.size, 2, none⟩ = some (.int .i64 xj) := HC.out _ KL.out 2
      have z3 : wr.cell? ⟨w.heap.size, 3, none⟩ = some (.int .i64 xk) := HC.out _ KL.out 3
      go_wp2_with (first | (go_at_call 11; refine (play_nil _ c hc6 _ _ _).mono ?_; rintro e w2 ⟨rfl, k2⟩; have K2 := hide (below_on KL.out k2); clear k2) | (go_at_call 14; refine (visits_nil _).mono ?_; rintro e w3 ⟨rfl, k3⟩; have K3 := hide (below_on K2.out k3); clear k3) | fail)
      go_roundw
      case rel => exact ⟨c + 1, by go_num, by omega, K3.out⟩
      case measure => simp [intOf]; omega
    · have i1 : ¬ (c : Int) < 6 := by omega
      by_cases hlen : m > 100
      · have hlen' : (100 : Int) < (m : Int) := by omega
        have hlen2 : (m : Int) > 100 := by omega
        go_wp2_with fail
        go_ret
        exact ⟨rfl, below_on HBW.out KL.out⟩
      · have hlen' : ¬ (100 : Int) < (m : Int) := by omega
        have hlen2 : ¬ (m : Int) > 100 := by omega
        go_wp2_with (first | (go_at_call 14; refine (visits_m L3.out HM.out (by omega)).mono ?_; rintro e w4 ⟨a4, c4, rfl, r4, k4⟩; have R4 := hide r4; have KB := hide k4; have K4 := hide (below_on K3.out k4); clear k4 r4) | (go_at_call 10; refine (new_loc HV2.out HM.out (by omega) HZ2.out).mono ?_; rintro e w3 ⟨lb, rfl, q3, l3, k3⟩; have L3 := hide q3; have LOC := hide l3; have KA := hide k3; have K3 := hide (below_on K2.out k3); clear q3 k3 l3) | (at_builtin; refine app_copy (.tmp 35) (.tmp 36) rfl rfl rfl rfl (PrV.on HV.out (below_on HBW.out KL.out)) HM.out HZ.out (by omega) ?_; intro a2 c2 w2 r2 k2; have R2 := hide r2; have K2 := hide (below_on KL.out k2); have HV2 : Hid (VsV w2 (.slice a2 m c2) V) := (by have h9 := r2; rw [← HM.out] at h9; have h8 := h9.vs (by rw [HM.out]; omega); rw [HM.out] at h8; exact h8); have HZ2 : Hid (a2 = none → c2 = 0) := (by have h9 := r2; rw [← HM.out] at h9; obtain ⟨a', c', e, hz⟩ := h9.shape; injection e with e1 _ e2; subst e1 e2; exact hz); clear r2 k2) | fail)
        rcases Nat.eq_zero_or_pos m with hm0 | hmp
        · subst hm0
          go_loopw [44] (fun v44 wx => v44 = .int .i64 0 ∧ Hid (wx = w4)) (fun _ _ => 0)
          case atStart => exact ⟨rfl, rfl⟩
          case round =>
            obtain ⟨rfl, HWX⟩ := hrel
            have hx := HWX.out
            subst hx
            have HLW := hide (L3.out.on KB.out)
            have KW := K4
            go_wp2_with (first | (go_at_call 14; refine (visits_v HLW.out HM.out (by omega)).mono ?_; rintro e w5 ⟨a5, c5, rfl, r5, k5⟩; have K5 := hide (below_on KW.out k5); have R5 := hide r5; clear k5 r5) | (go_at_call 13; refine (same_vs R5.out (PrV.on HV.out (below_on HBW.out K5.out))).mono ?_; rintro e w6 ⟨rfl, k6⟩; have K6 := hide (below_on K5.out k6); clear k6) | fail)
            go_ret
            exact ⟨rfl, below_on HBW.out K6.out⟩
        · obtain ⟨g1, hg1, hc2⟩ := vrow_pos R2.out hmp
          obtain ⟨g2, hg2, hc4⟩ := vrow_pos R4.out hmp
          subst hg1 hg2
          have h1 := World.ownsRow.lt R2.out g1 rfl
          have h2 := World.ownsRow.lt R4.out g2 rfl
          have hs1 := KA.out.size
          have hs0 := KL.out.size
          have HG : Hid (wr.heap.size ≤ g1 ∧ g1 < w2.heap.size ∧ w3.heap.size ≤ g2 ∧ w2.heap.size ≤ w3.heap.size) := ⟨h1.1, h1.2, h2.1, hs1⟩
          have hne : ¬ g1 = g2 := by omega
          have HR2 : Hid (∃ L, L.length = m ∧ VRow w4 0 (.slice (some ⟨g1, 0, none⟩) m c2) L) := ⟨V, HM.out, VRow.later (own_mono R2.out (Nat.zero_le _)) (Nat.le_refl _) (below_on KA.out KB.out)⟩
          have HR4 : Hid (∃ L, L.length = m ∧ VRow w4 0 (.slice (some ⟨g2, 0, none⟩) m c4) L) := ⟨V, HM.out, own_mono R4.out (Nat.zero_le _)⟩
          clear h1 h2 hs1 hs0
          go_loopw [44] (fun v44 wx => ∃ q : Nat, v44 = .int .i64 q ∧ q ≤ m ∧ Hid (∃ L, L.length = m ∧ VRow wx 0 (.slice (some ⟨g1, 0, none⟩) m c2) L) ∧ Hid (∃ L, L.length = m ∧ VRow wx 0 (.slice (some ⟨g2, 0, none⟩) m c4) L) ∧ Hid (TwoB g1 g2 w4 wx)) (fun v44 _ => m - (intOf v44).toNat)
          case atStart => exact ⟨0, rfl, Nat.zero_le _, HR2.out, HR4.out, TwoB.refl _ _ _⟩
          case round =>
            rename World => wx
            obtain ⟨q, rfl, hq, HA, HB, HT⟩ := hrel
            by_cases hqm : q < m
            · have j1 : (q : Int) < (m : Int) := by omega
              have j2 : (0 : Int) ≤ (q : Int) := by omega
              have j3 : ¬ (m : Int) ≤ (q : Int) := by omega
              obtain ⟨L1, l1, r1⟩ := HA.out
              obtain ⟨L2, l2, r2⟩ := HB.out
              obtain ⟨u1, hu1⟩ : ∃ u, L1[q]? = some u := ⟨_, List.getElem?_eq_getElem (by rw [l1]; exact hqm)⟩
              obtain ⟨u2, hu2⟩ : ∃ u, L2[q]? = some u := ⟨_, List.getElem?_eq_getElem (by rw [l2]; exact hqm)⟩
              obtain ⟨e1, e2⟩ := VRow.cells r1 l1 hu1
              obtain ⟨e3, e4⟩ := VRow.cells r2 l2 hu2
              have f1 := VRow.frozen r1
              have f2 := VRow.frozen r2
              have HN : Hid (VRow (((wx.setCell ⟨g1, q * 2, none⟩ (.int .i64 77)).setCell ⟨g1, q * 2 + 1, none⟩ (.int .i64 0)).setCell ⟨g2, q * 2, none⟩ (.int .i64 78) |>.setCell ⟨g2, q * 2 + 1, none⟩ (.int .i64 0)) 0 (.slice (some ⟨g1, 0, none⟩) m c2) (L1.set q (77, 0))) := by
                refine own_of_block (VRow.set r1 l1 q (77, 0)) fun g hg => ?_
                injection hg with hg
                subst hg
                rw [heap_setCell_other _ _ _ _ hne, heap_setCell_other _ _ _ _ hne]
              have HO : Hid (VRow (((wx.setCell ⟨g1, q * 2, none⟩ (.int .i64 77)).setCell ⟨g1, q * 2 + 1, none⟩ (.int .i64 0)).setCell ⟨g2, q * 2, none⟩ (.int .i64 78) |>.setCell ⟨g2, q * 2 + 1, none⟩ (.int .i64 0)) 0 (.slice (some ⟨g2, 0, none⟩) m c4) (L2.set q (78, 0))) := by
                refine VRow.set (own_of_block r2 fun g hg => ?_) l2 q (78, 0)
                injection hg with hg
                subst hg
                rw [heap_setCell_other _ _ _ _ (fun e => hne e.symm), heap_setCell_other _ _ _ _ (fun e => hne e.symm)]
              have HL1 := hide l1
              have HL2 := hide l2
              have HQ : Hid (TwoB g1 g2 w4 (((wx.setCell ⟨g1, q * 2, none⟩ (.int .i64 77)).setCell ⟨g1, q * 2 + 1, none⟩ (.int .i64 0)).setCell ⟨g2, q * 2, none⟩ (.int .i64 78) |>.setCell ⟨g2, q * 2 + 1, none⟩ (.int .i64 0))) := (((HT.out.set (.inl rfl) _ _).set (.inl rfl) _ _).set (.inr rfl) _ _).set (.inr rfl) _ _
              have hne' : ¬ g2 = g1 := fun e => hne e.symm
              clear r1 r2 hu1 hu2 l1 l2
              go_wp2_with fail
              go_roundw
              case rel => exact ⟨q + 1, by go_num, by omega, ⟨_, by rw [List.length_set]; exact HL1.out, HN.out⟩, ⟨_, by rw [List.length_set]; exact HL2.out, HO.out⟩, HQ.out⟩
              case measure => simp [intOf]; omega
            · have j1 : ¬ (q : Int) < (m : Int) := by omega
              have KW : Hid (Below W.heap.size W wx) := HT.out.low K4.out (Nat.le_trans KL.out.size HG.out.1) (by have := HG.out; have := KL.out.size; have := K3.out.size; omega)
              have HLW : Hid (LineV wx lb V) := LOC.out wx (by have := HT.out.size; have := KB.out.size; omega) fun b hb1 hb2 => (HT.out.block b (by have := HG.out; omega) (by have := HG.out; omega)).trans (KB.out.block b hb2)
              go_wp2_with (first | (go_at_call 14; refine (visits_v HLW.out HM.out (by omega)).mono ?_; rintro e w5 ⟨a5, c5, rfl, r5, k5⟩; have K5 := hide (below_on KW.out k5); have R5 := hide r5; clear k5 r5) | (go_at_call 13; refine (same_vs R5.out (PrV.on HV.out (below_on HBW.out K5.out))).mono ?_; rintro e w6 ⟨rfl, k6⟩; have K6 := hide (below_on K5.out k6); clear k6) | fail)
              go_ret
              exact ⟨rfl, below_on HBW.out K6.out⟩
end Go.Proofs.Ytlaaeimjbojejaa
