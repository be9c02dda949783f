/-
  What the law InterOwn does.
-/
import Derived.Test.YtdnkmjafkpnliaaNilT
namespace Go.Proofs.Ytdnkmjafkpnliaa
open Go.RowKit

/-- Nothing but the rows of two slices has turned. -/
structure OwB (v1 v2 : Value) (a b : World) : Prop where
  os : b.os = a.os
  tape : b.tape = a.tape
  output : b.output = a.output
  size : b.heap.size = a.heap.size
  block : ∀ k, v1.ownBlock ≠ some k → v2.ownBlock ≠ some k → b.heap[k]? = a.heap[k]?
theorem OwB.refl (v1 v2 : Value) (a : World) : OwB v1 v2 a a := ⟨rfl, rfl, rfl, rfl, fun _ _ _ => rfl⟩
theorem OwB.set {v1 v2 : Value} {a b : World} (h : OwB v1 v2 a b) {g : Nat} (hg : v1.ownBlock = some g ∨ v2.ownBlock = some g) (j : Nat) (u : Value) : OwB v1 v2 a (b.setCell ⟨g, j, none⟩ u) := ⟨h.os, h.tape, h.output, by simpa using h.size, fun k h1 h2 => by
  rw [heap_setCell_other _ _ _ _ (by intro e; have e9 : k = g := e; subst e9; rcases hg with hg | hg; exact h1 hg; exact h2 hg)]
  exact h.block k h1 h2⟩
theorem OwB.low {v1 v2 : Value} {w a b : World} {B : Nat} (h : OwB v1 v2 a b) (f : Below B w a) (h1 : ∀ g, v1.ownBlock = some g → B ≤ g) (h2 : ∀ g, v2.ownBlock = some g → B ≤ g) : Below B w b := f.trans ⟨h.os, h.tape, h.output, by rw [h.size]; exact Nat.le_refl _, fun k hk => h.block k (fun e => by have := h1 k e; omega) (fun e => by have := h2 k e; omega)⟩
/-- Two lists whose blocks lie from one place on. -/
def TwoL (w : World) (base top tb : Nat) (A B : List Vst) : Prop := ∃ a c a' c', w.heap[tb]? = some (.cells #[.slice a A.length c, .slice a' B.length c'] 72) ∧ (base ≤ tb ∧ tb < top) ∧ (VRow w base (.slice a A.length c) A ∧ ∀ g, Value.ownBlock (.slice a A.length c) = some g → g ≠ tb ∧ g < top) ∧ VRow w base (.slice a' B.length c') B ∧ ∀ g, Value.ownBlock (.slice a' B.length c') = some g → g ≠ tb ∧ g < top
theorem TwoL.two {w : World} {base top tb : Nat} {A B : List Vst} (h : TwoL w base top tb A B) : TwoV w tb A B := by
  obtain ⟨a, c, a', c', h1, _, ⟨h2, h3⟩, h4, h5⟩ := h
  exact ⟨a, c, a', c', h1, ⟨h2.zero, fun g hg => (h3 g hg).1⟩, h4.zero, fun g hg => (h5 g hg).1⟩
theorem TwoL.out {w w' : World} {base top tb : Nat} {A B : List Vst} (h : TwoL w base top tb A B) (f : ∀ k, base ≤ k → k < top → w'.heap[k]? = w.heap[k]?) : TwoL w' base top tb A B := by
  obtain ⟨a, c, a', c', h1, h0, ⟨h2, h3⟩, h4, h5⟩ := h
  refine ⟨a, c, a', c', (f tb h0.1 h0.2).trans h1, h0, ⟨own_of_block h2 fun g hg => f g (World.ownsRow.lt h2 g hg).1 (h3 g hg).2, h3⟩, own_of_block h4 fun g hg => f g (World.ownsRow.lt h4 g hg).1 (h5 g hg).2, h5⟩
theorem TwoL.own {v1 v2 : Value} {w w' : World} {base top tb : Nat} {A B : List Vst} (h : TwoL w base top tb A B) (f : OwB v1 v2 w w') (h1 : ∀ g, v1.ownBlock = some g → g < base ∨ top ≤ g) (h2 : ∀ g, v2.ownBlock = some g → g < base ∨ top ≤ g) : TwoL w' base top tb A B := h.out fun k ha hb => f.block k (fun e => by have := h1 k e; omega) (fun e => by have := h2 k e; omega)
set_option maxRecDepth 100000 in
set_option maxHeartbeats 6400000 in
theorem tnew_loc {w : World} {m c n c' : Nat} {a a' : Option Addr} {A B : List Vst} (hA : SlI w a m c A) (hB : SlI w a' n c' B) (hm : m ≤ 900) (hn : n ≤ 900) : Calls Try.prog 21 #[.slice a m c, .slice a' n c'] w fun e w' => ∃ tb, e = .returned (.pointer (some ⟨tb, 0, none⟩)) ∧ TwoL w' w.heap.size w'.heap.size tb A B ∧ Below w.heap.size w w' := by
  have H1 := hide (clone_any hA.vs hA.len hm hA.nz)
  have H2 : Hid (∀ W2, Below w.heap.size w W2 → Calls Try.prog 30 #[.slice a' n c'] W2 fun e w' => ∃ a2 c2, e = .returned (.slice a2 n c2) ∧ VRow w' W2.heap.size (.slice a2 n c2) B ∧ Below W2.heap.size W2 w') := fun W2 hf => clone_any (PrV.on hB.vs hf) hB.len hn hB.nz
  have HA := hide hA.len
  have HB := hide hB.len
  clear hA hB
  go_enter Try.func21, Try.ntmps21
  go_wp2_with (first | (go_at_call 30; refine (H2.out _ K1.out).mono ?_; rintro e w2 ⟨a2, c2, rfl, r2, k2⟩; have R2 := hide r2; have K2 := hide k2; clear r2 k2) | (go_at_call 30; refine H1.out.mono ?_; rintro e w1 ⟨a1, c1, rfl, r1, k1⟩; have R1 := hide r1; have K1 := hide k1; clear r1 k1) | fail)
  go_ret
  have f := (Below.refl w2.heap.size w2).alloc (Nat.le_refl _) (.cells #[.slice a1 m c1, .slice a2 n c2] 72)
  have hs := (below_on K1.out K2.out).size
  refine ⟨w2.heap.size, rfl, ⟨a1, c1, a2, c2, ?_, ⟨hs, by simp⟩, ⟨?_, ?_⟩, ?_, ?_⟩, below_on (below_on K1.out K2.out) f⟩
  · rw [HA.out, HB.out]; exact heap_alloc_new _ _
  · rw [HA.out]; exact VRow.later (VRow.later R1.out (Nat.le_refl _) K2.out) (Nat.le_refl _) f
  · intro g hg
    rw [HA.out] at hg
    have h1 := (World.ownsRow.lt R1.out g hg).2
    have h2 := K2.out.size
    have h3 : (w2.alloc (.cells #[.slice a1 m c1, .slice a2 n c2] 72)).heap.size = w2.heap.size + 1 := by simp
    exact ⟨by omega, by rw [h3]; omega⟩
  · rw [HB.out]; exact own_mono (VRow.later R2.out (Nat.le_refl _) f) K1.out.size
  · intro g hg
    rw [HB.out] at hg
    have h1 := (World.ownsRow.lt R2.out g hg).2
    have h3 : (w2.alloc (.cells #[.slice a1 m c1, .slice a2 n c2] 72)).heap.size = w2.heap.size + 1 := by simp
    exact ⟨by omega, by rw [h3]; omega⟩
set_option maxRecDepth 100000 in
set_option maxHeartbeats 12800000 in
theorem ownT_any {w : World} {m vc n vd : Nat} {va vb : Option Addr} {A B : List Vst} (hA : SlI w va m vc A) (hB : SlI w vb n vd B) (ch xi xj xk : Int) : Calls Try.prog 10 #[.slice va m vc, .slice vb n vd, .agg #[.int .i64 ch, .int .i64 xi, .int .i64 xj, .int .i64 xk]] w fun e w' => e = .returned (.bool true) ∧ Below w.heap.size w w' := by
  have HA := hide hA
  have HB := hide hB
  have hmb : m * 16 ≤ 140737488351232 := by obtain ⟨_, _, e, hb, _⟩ := hA.vs; rw [← hA.len]; exact hb
  have hnb : n * 16 ≤ 140737488351232 := by obtain ⟨_, _, e, hb, _⟩ := hB.vs; rw [← hB.len]; exact hb
  clear hA hB
  obtain ⟨W, hW⟩ : ∃ W, W = w.alloc (.cells #[.int .i64 ch, .int .i64 xi, .int .i64 xj, .int .i64 xk] 41) := ⟨_, rfl⟩
  have HBW : Hid (Below w.heap.size w W) := by rw [hW]; exact (Below.refl _ _).alloc (Nat.le_refl _) _
  have HWS : Hid (W.heap.size = w.heap.size + 1) := by show _ = _; rw [hW]; simp
  have HC : Hid (∀ W2, Below W.heap.size W W2 → ∀ j, W2.cell? ⟨w.heap.size, j, none⟩ = (#[.int .i64 ch, .int .i64 xi, .int .i64 xj, .int .i64 xk] : Array Value)[j]?) := fun W2 hf j => by
    have e9 : W.heap[w.heap.size]? = some (.cells #[.int .i64 ch, .int .i64 xi, .int .i64 xj, .int .i64 xk] 41) := by rw [hW]; exact heap_alloc_new _ _
    exact cell_of_row _ _ _ _ _ _ ((hf.block _ (by rw [HWS.out]; omega)).trans e9)
  have H20 : Hid (Calls Try.prog 20 #[] W fun e w' => e = .returned (.bool true) ∧ Below W.heap.size W w') := tawake_any W
  go_enter Try.func10, Try.ntmps10
  go_wp2_with (first | (go_at_call 20; rw [← hW]; refine H20.out.mono ?_; rintro e w1 ⟨rfl, k1⟩; have K1 := hide k1; clear k1) | fail)
  go_loopw [8] (fun v8 wr => ∃ c : Nat, v8 = .int .i64 c ∧ c ≤ 6 ∧ Hid (Below W.heap.size W wr)) (fun v8 _ => 6 - (intOf v8).toNat)
  case atStart => exact ⟨0, rfl, by omega, K1.out⟩
  case round =>
    clear K1
    obtain ⟨c, rfl, hc, KL⟩ := hrel
    rename World => wr
    by_cases hc6 : c < 6
    · have i1 : (c : Int) < 6 := by omega
      go_wp2_with (first | (go_at_call 22; refine (tplay_nil _ c hc6 _ _ _).mono ?_; rintro e w3 ⟨rfl, k3⟩; have K3 := hide (below_on K2.out k3); clear k3) | (go_at_call 23; refine (tvisits_nil _).mono ?_; rintro e w2 ⟨rfl, k2⟩; have K2 := hide (below_on KL.out k2); have z1 : w2.cell? ⟨w.heap.size, 1, none⟩ = some (.int .i64 xi) := HC.out _ K2.out 1; have z2 : w2.cell? ⟨w.heap.size, 2, none⟩ = some (.int .i64 xj) := HC.out _ K2.out 2; have z3 : w2.cell? ⟨w.heap.size, 3, none⟩ = some (.int .i64 xk) := HC.out _ K2.out 3; clear k2) | fail)
      go_roundw
      case rel => exact ⟨c + 1, by go_num, by omega, K3.out⟩
      case measure => simp [intOf]; omega
    · have i1 : ¬ (c : Int) < 6 := by omega
      by_cases hl1 : m > 60
      · have z1 : (60 : Int) < (m : Int) := by omega
        have z2 : (m : Int) > 60 := by omega
        go_wp2_with fail
        go_ret
        exact ⟨rfl, below_on HBW.out KL.out⟩
      · have z1 : ¬ (60 : Int) < (m : Int) := by omega
        have z2 : ¬ (m : Int) > 60 := by omega
        by_cases hl2 : n > 60
        · have z3 : (60 : Int) < (n : Int) := by omega
          have z4 : (n : Int) > 60 := by omega
          go_wp2_with fail
          go_ret
          exact ⟨rfl, below_on HBW.out KL.out⟩
        · have z3 : ¬ (60 : Int) < (n : Int) := by omega
          have z4 : ¬ (n : Int) > 60 := by omega
          have hm60 : m ≤ 60 := by omega
          have hn60 : n ≤ 60 := by omega
          go_wp2_with (first | (go_at_call 23; refine (tvisits_any L4.out.two HA.out.len HB.out.len (by omega) (by omega)).mono ?_; rintro e w5 ⟨a5, c5, a5', c5', rfl, r5, k5⟩; have RX := hide r5.1; have RY := hide r5.2.1; have HXY := hide r5.2.2; have B5 := hide k5; have K5 := hide (below_on K4.out k5); clear r5 k5) | (go_at_call 21; refine (tnew_loc (SlI.row (VRow.later R2.out (Nat.le_refl _) B3.out) HA.out.len (by omega)) (SlI.row R3.out HB.out.len (by omega)) (by omega) (by omega)).mono ?_; rintro e w4 ⟨tb, rfl, q4, k4⟩; have L4 := hide q4; have B4 := hide k4; have K4 := hide (below_on K3.out k4); clear q4 k4) | (at_builtin; refine app_copy (.tmp 61) (.tmp 62) rfl rfl rfl rfl (PrV.on HB.out.vs (below_on HBW.out K2.out)) HB.out.len HB.out.nz (by omega) ?_; intro a3 c3 w3 r3 k3; have R3 := hide r3; have B3 := hide k3; have K3 := hide (below_on K2.out k3); clear r3 k3) | (at_builtin; refine app_copy (.tmp 58) (.tmp 59) rfl rfl rfl rfl (PrV.on HA.out.vs (below_on HBW.out KL.out)) HA.out.len HA.out.nz (by omega) ?_; intro a2 c2 w2 r2 k2; have R2 := hide r2; have B2 := hide k2; have K2 := hide (below_on KL.out k2); clear r2 k2) | fail)
          clear z1 z2 z3 z4 hl1 hl2 i1 hc hc6
          have RP : Hid (∃ L, L.length = m ∧ VRow w5 W.heap.size (.slice a2 m c2) L) := ⟨A, HA.out.len, own_mono (VRow.later R2.out (Nat.le_refl _) (below_on (below_on B3.out B4.out) B5.out)) KL.out.size⟩
          have RX2 : Hid (∃ L, L.length = m ∧ VRow w5 W.heap.size (.slice a5 m c5) L) := ⟨A, HA.out.len, own_mono RX.out K4.out.size⟩
          have HG1 : Hid (∀ g, Value.ownBlock (.slice a2 m c2) = some g → W.heap.size ≤ g ∧ g < w3.heap.size) := fun g hg => ⟨Nat.le_trans KL.out.size (World.ownsRow.lt R2.out g hg).1, Nat.lt_of_lt_of_le (World.ownsRow.lt R2.out g hg).2 B3.out.size⟩
          have HG2 : Hid (∀ g, Value.ownBlock (.slice a5 m c5) = some g → W.heap.size ≤ g ∧ w4.heap.size ≤ g) := fun g hg => ⟨Nat.le_trans K4.out.size (World.ownsRow.lt RX.out g hg).1, (World.ownsRow.lt RX.out g hg).1⟩
          have HG3 : Hid (∀ g, Value.ownBlock (.slice a3 n c3) = some g → W.heap.size ≤ g ∧ g < w3.heap.size) := fun g hg => ⟨Nat.le_trans K2.out.size (World.ownsRow.lt R3.out g hg).1, (World.ownsRow.lt R3.out g hg).2⟩
          have HG4 : Hid (∀ g, Value.ownBlock (.slice a5' n c5') = some g → W.heap.size ≤ g ∧ w4.heap.size ≤ g) := fun g hg => ⟨Nat.le_trans K4.out.size (World.ownsRow.lt RY.out g hg).1, (World.ownsRow.lt RY.out g hg).1⟩
          have HS34 : Hid (w3.heap.size ≤ w4.heap.size) := B4.out.size
          have HPQ : Hid (∀ g, Value.ownBlock (.slice a2 m c2) = some g → Value.ownBlock (.slice a3 n c3) ≠ some g) := fun g hg h9 => by
            have h1 := (World.ownsRow.lt R2.out g hg).2
            have h2 := (World.ownsRow.lt R3.out g h9).1
            omega
          have L5 : Hid (TwoL w5 w3.heap.size w4.heap.size tb A B) := L4.out.out fun k _ hb => B5.out.block k hb
          have hcl : True := trivial
          clear hcl
          go_loopw [74] (fun vs wz => ∃ q : Nat, vs = .int .i64 q ∧ q ≤ m ∧ Hid (∃ L, L.length = m ∧ VRow wz W.heap.size (.slice a2 m c2) L) ∧ Hid (∃ L, L.length = m ∧ VRow wz W.heap.size (.slice a5 m c5) L) ∧ Hid (OwB (.slice a2 m c2) (.slice a5 m c5) w5 wz)) (fun vs _ => m - (intOf vs).toNat)
          case atStart => exact ⟨0, rfl, Nat.zero_le _, RP.out, RX2.out, OwB.refl _ _ _⟩
          case round =>
            rename World => wx
            obtain ⟨q, rfl, hq, HR1, HR2, HT⟩ := hrel
            by_cases hqm : q < m
            · have j1 : (q : Int) < (m : Int) := by omega
              have j2 : (0 : Int) ≤ (q : Int) := by omega
              have j3 : ¬ (m : Int) ≤ (q : Int) := by omega
              obtain ⟨L1, l1, r1⟩ := HR1.out
              obtain ⟨L2, l2, r2⟩ := HR2.out
              obtain ⟨u1, hu1⟩ : ∃ u, L1[q]? = some u := ⟨_, List.getElem?_eq_getElem (by rw [l1]; exact hqm)⟩
              obtain ⟨u2, hu2⟩ : ∃ u, L2[q]? = some u := ⟨_, List.getElem?_eq_getElem (by rw [l2]; exact hqm)⟩
              obtain ⟨g1, hg1, -⟩ := vrow_pos r1 (by omega)
              obtain ⟨g2, hg2, -⟩ := vrow_pos r2 (by omega)
              subst hg1 hg2
              have hne : ¬ g1 = g2 := fun e => by have h1 := (HG1.out g1 rfl).2; have h2 := (HG2.out g2 rfl).2; have h3 := HS34.out; omega
              have hne2 : ¬ g2 = g1 := fun e => hne e.symm
              obtain ⟨e1, e2⟩ := VRow.cells r1 l1 hu1
              obtain ⟨e3, e4⟩ := VRow.cells r2 l2 hu2
              have f1 := VRow.frozen r1
              have f2 := VRow.frozen r2
              have HN1 : Hid (VRow ((wx.setCell ⟨g1, q * 2, none⟩ (.int .i64 77)).setCell ⟨g1, q * 2 + 1, none⟩ (.int .i64 0)) W.heap.size _ (L1.set q (77, 0))) := VRow.set r1 l1 q (77, 0)
              have HN1' : Hid (VRow ((((wx.setCell ⟨g1, q * 2, none⟩ (.int .i64 77)).setCell ⟨g1, q * 2 + 1, none⟩ (.int .i64 0)).setCell ⟨g2, q * 2, none⟩ (.int .i64 78)).setCell ⟨g2, q * 2 + 1, none⟩ (.int .i64 0)) W.heap.size _ (L1.set q (77, 0))) := own_of_block HN1.out fun g hg => by
                injection hg with hg
                subst hg
                rw [heap_setCell_other _ _ _ _ (by intro e; exact hne e), heap_setCell_other _ _ _ _ (by intro e; exact hne e)]
              have HN2a : Hid (VRow ((wx.setCell ⟨g1, q * 2, none⟩ (.int .i64 77)).setCell ⟨g1, q * 2 + 1, none⟩ (.int .i64 0)) W.heap.size _ L2) := own_of_block r2 fun g hg => by
                injection hg with hg
                subst hg
                rw [heap_setCell_other _ _ _ _ (by intro e; exact hne2 e), heap_setCell_other _ _ _ _ (by intro e; exact hne2 e)]
              have HN2 : Hid (VRow ((((wx.setCell ⟨g1, q * 2, none⟩ (.int .i64 77)).setCell ⟨g1, q * 2 + 1, none⟩ (.int .i64 0)).setCell ⟨g2, q * 2, none⟩ (.int .i64 78)).setCell ⟨g2, q * 2 + 1, none⟩ (.int .i64 0)) W.heap.size _ (L2.set q (78, 0))) := VRow.set HN2a.out l2 q (78, 0)
              have HT2 := hide ((((HT.out.set (.inl rfl) (q * 2) (.int .i64 77)).set (g := g1) (.inl rfl) (q * 2 + 1) (.int .i64 0)).set (g := g2) (.inr rfl) (q * 2) (.int .i64 78)).set (g := g2) (.inr rfl) (q * 2 + 1) (.int .i64 0))
              have HL1 := hide l1
              have HL2 := hide l2
              clear hu1 hu2 r1 r2 l1 l2
              go_wp2_with fail
              go_roundw
              case rel => exact ⟨q + 1, by go_num, by omega, ⟨L1.set q (77, 0), by rw [List.length_set]; exact HL1.out, HN1'.out⟩, ⟨L2.set q (78, 0), by rw [List.length_set]; exact HL2.out, HN2.out⟩, HT2.out⟩
              case measure => simp [intOf]; omega
            · have j1 : ¬ (q : Int) < (m : Int) := by omega
              have HTX := hide HT.out
              have LX : Hid (TwoL wx w3.heap.size w4.heap.size tb A B) := L5.out.own HT.out (fun g hg => .inl (HG1.out g hg).2) (fun g hg => .inr (HG2.out g hg).2)
              have KX : Hid (Below W.heap.size W wx) := HT.out.low K5.out (fun g hg => (HG1.out g hg).1) (fun g hg => (HG2.out g hg).1)
              have RQ : Hid (∃ L, L.length = n ∧ VRow wx W.heap.size (.slice a3 n c3) L) := ⟨B, HB.out.len, own_of_block (own_mono (VRow.later R3.out (Nat.le_refl _) (below_on B4.out B5.out)) K2.out.size) fun g hg => HT.out.block g (fun e => HPQ.out g e hg) (fun e => by have h1 := (HG3.out g hg).2; have h2 := (HG2.out g e).2; have h3 := HS34.out; omega)⟩
              have RY2 : Hid (∃ L, L.length = n ∧ VRow wx W.heap.size (.slice a5' n c5') L) := ⟨B, HB.out.len, own_of_block (own_mono RY.out K4.out.size) fun g hg => HT.out.block g (fun e => by have h1 := (HG1.out g e).2; have h2 := (HG4.out g hg).2; have h3 := HS34.out; omega) (fun e => HXY.out g e hg)⟩
              clear HR1 HR2 HT hqm hq
              go_wp2_with fail
              clear j1
              go_loopw [88] (fun vs wz => ∃ q : Nat, vs = .int .i64 q ∧ q ≤ n ∧ Hid (∃ L, L.length = n ∧ VRow wz W.heap.size (.slice a3 n c3) L) ∧ Hid (∃ L, L.length = n ∧ VRow wz W.heap.size (.slice a5' n c5') L) ∧ Hid (OwB (.slice a3 n c3) (.slice a5' n c5') wx wz)) (fun vs _ => n - (intOf vs).toNat)
              case atStart => exact ⟨0, rfl, Nat.zero_le _, RQ.out, RY2.out, OwB.refl _ _ _⟩
              case round =>
                rename World => wy
                obtain ⟨q, rfl, hq, HR1, HR2, HT⟩ := hrel
                by_cases hqm : q < n
                · have j1 : (q : Int) < (n : Int) := by omega
                  have j2 : (0 : Int) ≤ (q : Int) := by omega
                  have j3 : ¬ (n : Int) ≤ (q : Int) := by omega
                  obtain ⟨L1, l1, r1⟩ := HR1.out
                  obtain ⟨L2, l2, r2⟩ := HR2.out
                  obtain ⟨u1, hu1⟩ : ∃ u, L1[q]? = some u := ⟨_, List.getElem?_eq_getElem (by rw [l1]; exact hqm)⟩
                  obtain ⟨u2, hu2⟩ : ∃ u, L2[q]? = some u := ⟨_, List.getElem?_eq_getElem (by rw [l2]; exact hqm)⟩
                  obtain ⟨g1, hg1, -⟩ := vrow_pos r1 (by omega)
                  obtain ⟨g2, hg2, -⟩ := vrow_pos r2 (by omega)
                  subst hg1 hg2
                  have hne : ¬ g1 = g2 := fun e => by have h1 := (HG3.out g1 rfl).2; have h2 := (HG4.out g2 rfl).2; have h3 := HS34.out; omega
                  have hne2 : ¬ g2 = g1 := fun e => hne e.symm
                  obtain ⟨e1, e2⟩ := VRow.cells r1 l1 hu1
                  obtain ⟨e3, e4⟩ := VRow.cells r2 l2 hu2
                  have f1 := VRow.frozen r1
                  have f2 := VRow.frozen r2
                  have HN1 : Hid (VRow ((wy.setCell ⟨g1, q * 2, none⟩ (.int .i64 77)).setCell ⟨g1, q * 2 + 1, none⟩ (.int .i64 0)) W.heap.size _ (L1.set q (77, 0))) := VRow.set r1 l1 q (77, 0)
                  have HN1' : Hid (VRow ((((wy.setCell ⟨g1, q * 2, none⟩ (.int .i64 77)).setCell ⟨g1, q * 2 + 1, none⟩ (.int .i64 0)).setCell ⟨g2, q * 2, none⟩ (.int .i64 78)).setCell ⟨g2, q * 2 + 1, none⟩ (.int .i64 0)) W.heap.size _ (L1.set q (77, 0))) := own_of_block HN1.out fun g hg => by
                    injection hg with hg
                    subst hg
                    rw [heap_setCell_other _ _ _ _ (by intro e; exact hne e), heap_setCell_other _ _ _ _ (by intro e; exact hne e)]
                  have HN2a : Hid (VRow ((wy.setCell ⟨g1, q * 2, none⟩ (.int .i64 77)).setCell ⟨g1, q * 2 + 1, none⟩ (.int .i64 0)) W.heap.size _ L2) := own_of_block r2 fun g hg => by
                    injection hg with hg
                    subst hg
                    rw [heap_setCell_other _ _ _ _ (by intro e; exact hne2 e), heap_setCell_other _ _ _ _ (by intro e; exact hne2 e)]
                  have HN2 : Hid (VRow ((((wy.setCell ⟨g1, q * 2, none⟩ (.int .i64 77)).setCell ⟨g1, q * 2 + 1, none⟩ (.int .i64 0)).setCell ⟨g2, q * 2, none⟩ (.int .i64 78)).setCell ⟨g2, q * 2 + 1, none⟩ (.int .i64 0)) W.heap.size _ (L2.set q (78, 0))) := VRow.set HN2a.out l2 q (78, 0)
                  have HT2 := hide ((((HT.out.set (.inl rfl) (q * 2) (.int .i64 77)).set (g := g1) (.inl rfl) (q * 2 + 1) (.int .i64 0)).set (g := g2) (.inr rfl) (q * 2) (.int .i64 78)).set (g := g2) (.inr rfl) (q * 2 + 1) (.int .i64 0))
                  have HL1 := hide l1
                  have HL2 := hide l2
                  clear hu1 hu2 r1 r2 l1 l2
                  go_wp2_with fail
                  go_roundw
                  case rel => exact ⟨q + 1, by go_num, by omega, ⟨L1.set q (77, 0), by rw [List.length_set]; exact HL1.out, HN1'.out⟩, ⟨L2.set q (78, 0), by rw [List.length_set]; exact HL2.out, HN2.out⟩, HT2.out⟩
                  case measure => simp [intOf]; omega
                · have j1 : ¬ (q : Int) < (n : Int) := by omega
                  have LZ : Hid (TwoL wy w3.heap.size w4.heap.size tb A B) := LX.out.own HT.out (fun g hg => .inl (HG3.out g hg).2) (fun g hg => .inr (HG4.out g hg).2)
                  have KZ : Hid (Below W.heap.size W wy) := HT.out.low KX.out (fun g hg => (HG3.out g hg).1) (fun g hg => (HG4.out g hg).1)
                  clear HR1 HR2 HT hqm hq
                  go_wp2_with (first | (go_at_call 16; have hh := K9.out; clear hh; refine (same_vs (PrV.on RB.out B9.out) (PrV.on HB.out.vs (below_on HBW.out K9.out))).mono ?_; rintro e w10 ⟨rfl, k10⟩; have K10 := hide (below_on K9.out k10); clear k10) | (go_at_call 16; refine (same_vs RA.out (PrV.on HA.out.vs (below_on HBW.out K8.out))).mono ?_; rintro e w9 ⟨rfl, k9⟩; have B9 := hide k9; have K9 := hide (below_on K8.out k9); clear k9) | (go_at_call 23; refine (tvisits_any LZ.out.two HA.out.len HB.out.len (by omega) (by omega)).mono ?_; rintro e w8 ⟨a8, c8, a8', c8', rfl, r8, k8⟩; have RA := hide (vrow_vs r8.1 HA.out.len (by omega)); have RB := hide (vrow_vs r8.2.1 HB.out.len (by omega)); have K8 := hide (below_on KZ.out k8); clear r8 k8) | fail)
                  go_ret
                  exact ⟨rfl, below_on HBW.out K10.out⟩
end Go.Proofs.Ytdnkmjafkpnliaa
