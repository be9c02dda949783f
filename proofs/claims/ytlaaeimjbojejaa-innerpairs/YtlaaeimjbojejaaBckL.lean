/-
  What the law InnerBack does.
-/
import Derived.Test.YtlaaeimjbojejaaAwk
import Derived.Test.YtlaaeimjbojejaaBckP
import Derived.Deep.RegionHeld3
namespace Go.Proofs.Ytlaaeimjbojejaa
open Go.RowKit

/-- The whole of a list behind a list that was just made. -/
theorem app_copy {w : World} {m vc : Nat} {va : Option Addr} {V : List Vst} {ops : Array Oper} {rest : List Oper} {o : Oper} {a : Act} {Q : Exit → Act → World → Prop} (s x : Operand) (hgd : o.guard = none)
    (ho : o.op = .call { callee := .builtin .append, args := #[s, x], argTypes := #[22, 22] }) (hs : a.eval s = .slice (some ⟨w.heap.size, 0, none⟩) 0 0) (hx : a.eval x = .slice va m vc) (hV : VsV w (.slice va m vc) V) (hm : V.length = m) (hz : va = none → vc = 0) (hm2 : m ≤ 900)
    (h : ∀ a2 c2 w', VRow w' w.heap.size (.slice a2 m c2) V → Below w.heap.size w w' → wpList Try.prog ops Q rest (a.put o.dst (.slice a2 m c2)) w') : wpList Try.prog ops Q (o :: rest) a (w.alloc (.cells #[] 44)) := by
  have f0 : Below w.heap.size w (w.alloc (.cells #[] 44)) := (Below.refl _ _).alloc (Nat.le_refl _) _
  have hrow : VRow (w.alloc (.cells #[] 44)) w.heap.size (.slice (some ⟨w.heap.size, 0, none⟩) 0 0) [] := World.ownsRow_made w #[] 0 (Nat.le_refl _) (by unfold maxLen; omega) rfl
  refine app_vis s x hgd ho hs hx hrow rfl (PrV.on hV f0) hm hz (by omega) f0.size ?_
  intro a2 c2 w' r1 r2 _
  rw [Nat.zero_add, List.nil_append] at r1
  rw [Nat.zero_add]
  exact h a2 c2 w' r1 (f0.trans r2)
theorem new_copy {w : World} {base m c : Nat} {a : Option Addr} {V : List Vst} (h : VRow w base (.slice a m c) V) (hm : V.length = m) (hm2 : m ≤ 900) : Calls Try.prog 10 #[.slice a m c] w fun e w' => ∃ lb, e = .returned (.pointer (some ⟨lb, 0, none⟩)) ∧ LineV w' lb V ∧ w.heap.size ≤ lb ∧ Below w.heap.size w w' := by
  rw [← hm] at h
  obtain ⟨a', c', e, hz⟩ := h.shape
  injection e with e1 _ e2
  subst e1 e2
  have hv := h.vs (by omega)
  rw [hm] at hv
  exact new_any hv hm hm2 hz
/-- A change behind another world that only has more. -/
theorem chq_low {w w2 w' : World} {lb B : Nat} {r : List Vst × Bool} {e : Ending} (h : ChQ w2 lb r e w') (f : Below B w w2) (hB : B ≤ lb) (hs : B ≤ w2.heap.size) : e = .returned (.bool r.2) ∧ LineV w' lb r.1 ∧ Below B w w' := ⟨h.1, h.2.1, f.trans (grw_low h.2.2 hB hs)⟩
set_option maxRecDepth 100000 in
set_option maxHeartbeats 12800000 in
theorem back_any {w : World} {m vc : Nat} {va : Option Addr} {V : List Vst} (hV : VsV w (.slice va m vc) V) (hm : V.length = m) (hz : va = none → vc = 0) (ch xi xj xk : Int) : Calls Try.prog 6 #[.slice va m vc, .agg #[.int .i64 ch, .int .i64 xi, .int .i64 xj, .int .i64 xk]] w fun e w' => e = .returned (.bool true) ∧ Below w.heap.size w w' := by
  have HV := hide hV
  have HM := hide hm
  have HZ := hide hz
  have hmb : m * 16 ≤ 140737488351232 := by obtain ⟨_, _, e, hb, _⟩ := hV; rw [← hm]; exact hb
  clear hV hm hz
  obtain ⟨W, hW⟩ : ∃ W, W = w.alloc (.cells #[.int .i64 ch, .int .i64 xi, .int .i64 xj, .int .i64 xk] 24) := ⟨_, rfl⟩
  have HBW : Hid (Below w.heap.size w W) := by rw [hW]; exact (Below.refl _ _).alloc (Nat.le_refl _) _
  have HWS : Hid (W.heap.size = w.heap.size + 1) := by show _ = _; rw [hW]; simp
  have HC : Hid (∀ W2, Below W.heap.size W W2 → ∀ j, W2.cell? ⟨w.heap.size, j, none⟩ = (#[.int .i64 ch, .int .i64 xi, .int .i64 xj, .int .i64 xk] : Array Value)[j]?) := fun W2 hf j => by
    have e9 : W.heap[w.heap.size]? = some (.cells #[.int .i64 ch, .int .i64 xi, .int .i64 xj, .int .i64 xk] 24) := by rw [hW]; exact heap_alloc_new _ _
    exact cell_of_row _ _ _ _ _ _ ((hf.block _ (by rw [HWS.out]; omega)).trans e9)
  have H9 : Hid (Calls Try.prog 9 #[] W fun e w' => e = .returned (.bool true) ∧ Below W.heap.size W w') := awake_any W
  by_cases hlen : m > 100
  · have hlen' : (100 : Int) < (m : Int) := by omega
    have hlen2 : (m : Int) > 100 := by omega
    go_enter Try.func6, Try.ntmps6
    go_wp2_with (first | (go_at_call 9; rw [← hW]; refine H9.out.mono ?_; rintro e w1 ⟨rfl, k1⟩; have K1 := hide k1; clear k1) | fail)
    go_ret
    exact ⟨rfl, below_on HBW.out K1.out⟩
  · have hlen' : ¬ (100 : Int) < (m : Int) := by omega
    have hlen2 : ¬ (m : Int) > 100 := by omega
    obtain ⟨r, hr, hr3⟩ : ∃ r : Nat, Int.tmod (IntKind.u64.wrap ch) 4 = r ∧ r ≤ 3 := by
      obtain ⟨r, hr, hl⟩ := umod_nat ch 3 (by omega)
      exact ⟨r, by simpa using hr, hl⟩
    rcases (show r = 0 ∨ r = 1 ∨ r = 2 ∨ r = 3 by omega) with rfl | rfl | rfl | rfl
    · obtain ⟨⟨V1, b1⟩, h1⟩ : ∃ q, twM V xi xj = q := ⟨_, rfl⟩
      have h2 := tw_back V xi xj
      rw [h1] at h2
      simp only at h2
      have HE1 := hide h1
      have HE2 := hide h2
      have HL1 : Hid (V1.length ≤ 900) := by
        have h9 := tw_len V xi xj
        rw [h1] at h9
        show _ ≤ _
        simp only at h9
        rw [h9, HM.out]
        omega
      clear h1 h2
      have H1 : Hid (∀ {lb : Nat} (W2 : World), LineV W2 lb V → Calls Try.prog 17 #[.pointer (some ⟨lb, 0, none⟩), .int .i64 xi, .int .i64 xj, .int .i64 0] W2 (ChQ W2 lb (twM V xi xj))) := fun {lb} W2 h9 => twoopt_any h9 (by rw [HM.out]; omega) xi xj 0
      have H2 : Hid (∀ {lb : Nat} (W2 : World), LineV W2 lb V1 → Calls Try.prog 17 #[.pointer (some ⟨lb, 0, none⟩), .int .i64 xi, .int .i64 xj, .int .i64 0] W2 (ChQ W2 lb (twM V1 xi xj))) := fun {lb} W2 h9 => twoopt_any h9 HL1.out xi xj 0
      cases b1
      all_goals
        go_enter Try.func6, Try.ntmps6
        go_wp2_with (first | (go_at_call 10; refine (new_copy R2.out HM.out (by omega)).mono ?_; rintro e w3 ⟨lb, rfl, q3, hlb, k3⟩; have L3 := hide q3; have HLB : Hid (W.heap.size ≤ lb) := (Nat.le_trans K2.out.size hlb); have K3 := hide (below_on K2.out k3); have z0 : w3.cell? ⟨w.heap.size, 0, none⟩ = some (.int .i64 ch) := HC.out _ K3.out 0; have z1 : w3.cell? ⟨w.heap.size, 1, none⟩ = some (.int .i64 xi) := HC.out _ K3.out 1; have z2 : w3.cell? ⟨w.heap.size, 2, none⟩ = some (.int .i64 xj) := HC.out _ K3.out 2; have z3 : w3.cell? ⟨w.heap.size, 3, none⟩ = some (.int .i64 xk) := HC.out _ K3.out 3; clear q3 k3 hlb) | (at_builtin; refine app_copy (.tmp 11) (.tmp 12) rfl rfl rfl rfl (PrV.on HV.out (below_on HBW.out K1.out)) HM.out HZ.out (by omega) ?_; intro a2 c2 w2 r2 k2; have R2 := hide r2; have K2 := hide (below_on K1.out k2); clear r2 k2) | (go_at_call 9; rw [← hW]; refine H9.out.mono ?_; rintro e w1 ⟨rfl, k1⟩; have K1 := hide k1; clear k1) | fail)
        first | (go_region_held3 (fun w' => w'.cell? ⟨w.heap.size, 1, none⟩ = some (.int .i64 xi) ∧ w'.cell? ⟨w.heap.size, 2, none⟩ = some (.int .i64 xj) ∧ w'.cell? ⟨w.heap.size, 3, none⟩ = some (.int .i64 xk)) (go_keep) (first | (go_at_call 13; refine (same_vs R6.out (PrV.on HV.out (below_on HBW.out K6.out))).mono ?_; rintro e w7 ⟨rfl, k7⟩; have K7 := hide (below_on K6.out k7); have d1 : w7.cell? ⟨w.heap.size, 1, none⟩ = some (.int .i64 xi) := HC.out _ K7.out 1; have d2 : w7.cell? ⟨w.heap.size, 2, none⟩ = some (.int .i64 xj) := HC.out _ K7.out 2; have d3 : w7.cell? ⟨w.heap.size, 3, none⟩ = some (.int .i64 xk) := HC.out _ K7.out 3; clear k7) | (go_at_call 14; refine (visits_any L5.out (by rw [HM.out]; omega)).mono ?_; rintro e w6 ⟨a6, c6, rfl, r6, k6⟩; have K6 := hide (below_on K5.out k6); have R6 := hide (r6.vs (by rw [HM.out]; omega)); have c1 : w6.cell? ⟨w.heap.size, 1, none⟩ = some (.int .i64 xi) := HC.out _ K6.out 1; have c2 : w6.cell? ⟨w.heap.size, 2, none⟩ = some (.int .i64 xj) := HC.out _ K6.out 2; have c3 : w6.cell? ⟨w.heap.size, 3, none⟩ = some (.int .i64 xk) := HC.out _ K6.out 3; clear k6 r6) | (go_at_call 17; refine (H2.out _ L4.out).mono ?_; intro e w5 h5; obtain ⟨rfl, q5, k5⟩ := chq_low h5 K4.out HLB.out K4.out.size; rw [HE2.out] at q5 ⊢; have L5 := hide q5; have K5 := hide k5; have b1 : w5.cell? ⟨w.heap.size, 1, none⟩ = some (.int .i64 xi) := HC.out _ K5.out 1; have b2 : w5.cell? ⟨w.heap.size, 2, none⟩ = some (.int .i64 xj) := HC.out _ K5.out 2; have b3 : w5.cell? ⟨w.heap.size, 3, none⟩ = some (.int .i64 xk) := HC.out _ K5.out 3; clear h5 q5 k5) | (go_at_call 17; refine (H1.out _ (L3.out.on ((Below.refl _ _).drew))).mono ?_; intro e w4 h4; obtain ⟨rfl, q4, k4⟩ := chq_low h4 (below_on K3.out ((Below.refl _ _).drew)) HLB.out (below_on K3.out ((Below.refl _ _).drew)).size; rw [HE1.out] at q4 ⊢; have L4 := hide q4; have K4 := hide k4; have a1 : w4.cell? ⟨w.heap.size, 1, none⟩ = some (.int .i64 xi) := HC.out _ K4.out 1; have a2 : w4.cell? ⟨w.heap.size, 2, none⟩ = some (.int .i64 xj) := HC.out _ K4.out 2; have a3 : w4.cell? ⟨w.heap.size, 3, none⟩ = some (.int .i64 xk) := HC.out _ K4.out 3; clear h4 q4 k4) | fail)) | fail
        rename_i hHeld
        clear hHeld
        go_wp2_with fail
        go_ret
        exact ⟨rfl, below_on HBW.out K7.out⟩
    · obtain ⟨⟨V1, b1⟩, h1⟩ : ∃ q, exM V xi xj = q := ⟨_, rfl⟩
      have h2 := ex_back V xi xj
      rw [h1] at h2
      simp only at h2
      have HE1 := hide h1
      have HE2 := hide h2
      have HL1 : Hid (V1.length ≤ 900) := by
        have h9 := ex_len V xi xj
        rw [h1] at h9
        show _ ≤ _
        simp only at h9
        rw [h9, HM.out]
        omega
      clear h1 h2
      have H1 : Hid (∀ {lb : Nat} (W2 : World), LineV W2 lb V → Calls Try.prog 18 #[.pointer (some ⟨lb, 0, none⟩), .int .i64 xi, .int .i64 xj, .int .i64 0] W2 (ChQ W2 lb (exM V xi xj))) := fun {lb} W2 h9 => exchange_any h9 (by rw [HM.out]; omega) xi xj 0
      have H2 : Hid (∀ {lb : Nat} (W2 : World), LineV W2 lb V1 → Calls Try.prog 18 #[.pointer (some ⟨lb, 0, none⟩), .int .i64 xi, .int .i64 xj, .int .i64 0] W2 (ChQ W2 lb (exM V1 xi xj))) := fun {lb} W2 h9 => exchange_any h9 HL1.out xi xj 0
      cases b1
      all_goals
        go_enter Try.func6, Try.ntmps6
        go_wp2_with (first | (go_at_call 10; refine (new_copy R2.out HM.out (by omega)).mono ?_; rintro e w3 ⟨lb, rfl, q3, hlb, k3⟩; have L3 := hide q3; have HLB : Hid (W.heap.size ≤ lb) := (Nat.le_trans K2.out.size hlb); have K3 := hide (below_on K2.out k3); have z0 : w3.cell? ⟨w.heap.size, 0, none⟩ = some (.int .i64 ch) := HC.out _ K3.out 0; have z1 : w3.cell? ⟨w.heap.size, 1, none⟩ = some (.int .i64 xi) := HC.out _ K3.out 1; have z2 : w3.cell? ⟨w.heap.size, 2, none⟩ = some (.int .i64 xj) := HC.out _ K3.out 2; have z3 : w3.cell? ⟨w.heap.size, 3, none⟩ = some (.int .i64 xk) := HC.out _ K3.out 3; clear q3 k3 hlb) | (at_builtin; refine app_copy (.tmp 11) (.tmp 12) rfl rfl rfl rfl (PrV.on HV.out (below_on HBW.out K1.out)) HM.out HZ.out (by omega) ?_; intro a2 c2 w2 r2 k2; have R2 := hide r2; have K2 := hide (below_on K1.out k2); clear r2 k2) | (go_at_call 9; rw [← hW]; refine H9.out.mono ?_; rintro e w1 ⟨rfl, k1⟩; have K1 := hide k1; clear k1) | fail)
        first | (go_region_held3 (fun w' => w'.cell? ⟨w.heap.size, 1, none⟩ = some (.int .i64 xi) ∧ w'.cell? ⟨w.heap.size, 2, none⟩ = some (.int .i64 xj) ∧ w'.cell? ⟨w.heap.size, 3, none⟩ = some (.int .i64 xk)) (go_keep) (first | (go_at_call 13; refine (same_vs R6.out (PrV.on HV.out (below_on HBW.out K6.out))).mono ?_; rintro e w7 ⟨rfl, k7⟩; have K7 := hide (below_on K6.out k7); have d1 : w7.cell? ⟨w.heap.size, 1, none⟩ = some (.int .i64 xi) := HC.out _ K7.out 1; have d2 : w7.cell? ⟨w.heap.size, 2, none⟩ = some (.int .i64 xj) := HC.out _ K7.out 2; have d3 : w7.cell? ⟨w.heap.size, 3, none⟩ = some (.int .i64 xk) := HC.out _ K7.out 3; clear k7) | (go_at_call 14; refine (visits_any L5.out (by rw [HM.out]; omega)).mono ?_; rintro e w6 ⟨a6, c6, rfl, r6, k6⟩; have K6 := hide (below_on K5.out k6); have R6 := hide (r6.vs (by rw [HM.out]; omega)); have c1 : w6.cell? ⟨w.heap.size, 1, none⟩ = some (.int .i64 xi) := HC.out _ K6.out 1; have c2 : w6.cell? ⟨w.heap.size, 2, none⟩ = some (.int .i64 xj) := HC.out _ K6.out 2; have c3 : w6.cell? ⟨w.heap.size, 3, none⟩ = some (.int .i64 xk) := HC.out _ K6.out 3; clear k6 r6) | (go_at_call 18; refine (H2.out _ L4.out).mono ?_; intro e w5 h5; obtain ⟨rfl, q5, k5⟩ := chq_low h5 K4.out HLB.out K4.out.size; rw [HE2.out] at q5 ⊢; have L5 := hide q5; have K5 := hide k5; have b1 : w5.cell? ⟨w.heap.size, 1, none⟩ = some (.int .i64 xi) := HC.out _ K5.out 1; have b2 : w5.cell? ⟨w.heap.size, 2, none⟩ = some (.int .i64 xj) := HC.out _ K5.out 2; have b3 : w5.cell? ⟨w.heap.size, 3, none⟩ = some (.int .i64 xk) := HC.out _ K5.out 3; clear h5 q5 k5) | (go_at_call 18; refine (H1.out _ (L3.out.on ((Below.refl _ _).drew))).mono ?_; intro e w4 h4; obtain ⟨rfl, q4, k4⟩ := chq_low h4 (below_on K3.out ((Below.refl _ _).drew)) HLB.out (below_on K3.out ((Below.refl _ _).drew)).size; rw [HE1.out] at q4 ⊢; have L4 := hide q4; have K4 := hide k4; have a1 : w4.cell? ⟨w.heap.size, 1, none⟩ = some (.int .i64 xi) := HC.out _ K4.out 1; have a2 : w4.cell? ⟨w.heap.size, 2, none⟩ = some (.int .i64 xj) := HC.out _ K4.out 2; have a3 : w4.cell? ⟨w.heap.size, 3, none⟩ = some (.int .i64 xk) := HC.out _ K4.out 3; clear h4 q4 k4) | fail)) | fail
        rename_i hHeld
        clear hHeld
        go_wp2_with fail
        go_ret
        exact ⟨rfl, below_on HBW.out K7.out⟩
    · obtain ⟨⟨V1, b1⟩, h1⟩ : ∃ q, orM V xi xj 1 = q := ⟨_, rfl⟩
      have h2 := or_back V xi xj 1
      rw [h1] at h2
      simp only at h2
      have HE1 := hide h1
      have HE2 := hide h2
      have HL1 : Hid (V1.length ≤ 900) := by
        have h9 := or_len V xi xj 1
        rw [h1] at h9
        show _ ≤ _
        simp only at h9
        rw [h9, HM.out]
        omega
      clear h1 h2
      have H1 : Hid (∀ {lb : Nat} (W2 : World), LineV W2 lb V → Calls Try.prog 19 #[.pointer (some ⟨lb, 0, none⟩), .int .i64 xi, .int .i64 xj, .int .i64 0] W2 (ChQ W2 lb (orM V xi xj 1))) := fun {lb} W2 h9 => relocate_any h9 (by rw [HM.out]; omega) xi xj 0
      have H2 : Hid (∀ {lb : Nat} (W2 : World), LineV W2 lb V1 → Calls Try.prog 19 #[.pointer (some ⟨lb, 0, none⟩), .int .i64 xj, .int .i64 xi, .int .i64 0] W2 (ChQ W2 lb (orM V1 xj xi 1))) := fun {lb} W2 h9 => relocate_any h9 HL1.out xj xi 0
      cases b1
      all_goals
        go_enter Try.func6, Try.ntmps6
        go_wp2_with (first | (go_at_call 10; refine (new_copy R2.out HM.out (by omega)).mono ?_; rintro e w3 ⟨lb, rfl, q3, hlb, k3⟩; have L3 := hide q3; have HLB : Hid (W.heap.size ≤ lb) := (Nat.le_trans K2.out.size hlb); have K3 := hide (below_on K2.out k3); have z0 : w3.cell? ⟨w.heap.size, 0, none⟩ = some (.int .i64 ch) := HC.out _ K3.out 0; have z1 : w3.cell? ⟨w.heap.size, 1, none⟩ = some (.int .i64 xi) := HC.out _ K3.out 1; have z2 : w3.cell? ⟨w.heap.size, 2, none⟩ = some (.int .i64 xj) := HC.out _ K3.out 2; have z3 : w3.cell? ⟨w.heap.size, 3, none⟩ = some (.int .i64 xk) := HC.out _ K3.out 3; clear q3 k3 hlb) | (at_builtin; refine app_copy (.tmp 11) (.tmp 12) rfl rfl rfl rfl (PrV.on HV.out (below_on HBW.out K1.out)) HM.out HZ.out (by omega) ?_; intro a2 c2 w2 r2 k2; have R2 := hide r2; have K2 := hide (below_on K1.out k2); clear r2 k2) | (go_at_call 9; rw [← hW]; refine H9.out.mono ?_; rintro e w1 ⟨rfl, k1⟩; have K1 := hide k1; clear k1) | fail)
        first | (go_region_held3 (fun w' => w'.cell? ⟨w.heap.size, 1, none⟩ = some (.int .i64 xi) ∧ w'.cell? ⟨w.heap.size, 2, none⟩ = some (.int .i64 xj) ∧ w'.cell? ⟨w.heap.size, 3, none⟩ = some (.int .i64 xk)) (go_keep) (first | (go_at_call 13; refine (same_vs R6.out (PrV.on HV.out (below_on HBW.out K6.out))).mono ?_; rintro e w7 ⟨rfl, k7⟩; have K7 := hide (below_on K6.out k7); have d1 : w7.cell? ⟨w.heap.size, 1, none⟩ = some (.int .i64 xi) := HC.out _ K7.out 1; have d2 : w7.cell? ⟨w.heap.size, 2, none⟩ = some (.int .i64 xj) := HC.out _ K7.out 2; have d3 : w7.cell? ⟨w.heap.size, 3, none⟩ = some (.int .i64 xk) := HC.out _ K7.out 3; clear k7) | (go_at_call 14; refine (visits_any L5.out (by rw [HM.out]; omega)).mono ?_; rintro e w6 ⟨a6, c6, rfl, r6, k6⟩; have K6 := hide (below_on K5.out k6); have R6 := hide (r6.vs (by rw [HM.out]; omega)); have c1 : w6.cell? ⟨w.heap.size, 1, none⟩ = some (.int .i64 xi) := HC.out _ K6.out 1; have c2 : w6.cell? ⟨w.heap.size, 2, none⟩ = some (.int .i64 xj) := HC.out _ K6.out 2; have c3 : w6.cell? ⟨w.heap.size, 3, none⟩ = some (.int .i64 xk) := HC.out _ K6.out 3; clear k6 r6) | (go_at_call 19; refine (H2.out _ L4.out).mono ?_; intro e w5 h5; obtain ⟨rfl, q5, k5⟩ := chq_low h5 K4.out HLB.out K4.out.size; rw [HE2.out] at q5 ⊢; have L5 := hide q5; have K5 := hide k5; have b1 : w5.cell? ⟨w.heap.size, 1, none⟩ = some (.int .i64 xi) := HC.out _ K5.out 1; have b2 : w5.cell? ⟨w.heap.size, 2, none⟩ = some (.int .i64 xj) := HC.out _ K5.out 2; have b3 : w5.cell? ⟨w.heap.size, 3, none⟩ = some (.int .i64 xk) := HC.out _ K5.out 3; clear h5 q5 k5) | (go_at_call 19; refine (H1.out _ (L3.out.on ((Below.refl _ _).drew))).mono ?_; intro e w4 h4; obtain ⟨rfl, q4, k4⟩ := chq_low h4 (below_on K3.out ((Below.refl _ _).drew)) HLB.out (below_on K3.out ((Below.refl _ _).drew)).size; rw [HE1.out] at q4 ⊢; have L4 := hide q4; have K4 := hide k4; have a1 : w4.cell? ⟨w.heap.size, 1, none⟩ = some (.int .i64 xi) := HC.out _ K4.out 1; have a2 : w4.cell? ⟨w.heap.size, 2, none⟩ = some (.int .i64 xj) := HC.out _ K4.out 2; have a3 : w4.cell? ⟨w.heap.size, 3, none⟩ = some (.int .i64 xk) := HC.out _ K4.out 3; clear h4 q4 k4) | fail)) | fail
        rename_i hHeld
        clear hHeld
        go_wp2_with fail
        go_ret
        exact ⟨rfl, below_on HBW.out K7.out⟩
    · obtain ⟨⟨V1, b1⟩, h1⟩ : ∃ q, orM V xi xj xk = q := ⟨_, rfl⟩
      have h2 := or_back V xi xj xk
      rw [h1] at h2
      simp only at h2
      have HE1 := hide h1
      have HE2 := hide h2
      have HL1 : Hid (V1.length ≤ 900) := by
        have h9 := or_len V xi xj xk
        rw [h1] at h9
        show _ ≤ _
        simp only at h9
        rw [h9, HM.out]
        omega
      clear h1 h2
      have H1 : Hid (∀ {lb : Nat} (W2 : World), LineV W2 lb V → Calls Try.prog 20 #[.pointer (some ⟨lb, 0, none⟩), .int .i64 xi, .int .i64 xj, .int .i64 xk] W2 (ChQ W2 lb (orM V xi xj xk))) := fun {lb} W2 h9 => oropt_any h9 (by rw [HM.out]; omega) xi xj xk
      have H2 : Hid (∀ {lb : Nat} (W2 : World), LineV W2 lb V1 → Calls Try.prog 20 #[.pointer (some ⟨lb, 0, none⟩), .int .i64 xj, .int .i64 xi, .int .i64 xk] W2 (ChQ W2 lb (orM V1 xj xi xk))) := fun {lb} W2 h9 => oropt_any h9 HL1.out xj xi xk
      cases b1
      all_goals
        go_enter Try.func6, Try.ntmps6
        go_wp2_with (first | (go_at_call 10; refine (new_copy R2.out HM.out (by omega)).mono ?_; rintro e w3 ⟨lb, rfl, q3, hlb, k3⟩; have L3 := hide q3; have HLB : Hid (W.heap.size ≤ lb) := (Nat.le_trans K2.out.size hlb); have K3 := hide (below_on K2.out k3); have z0 : w3.cell? ⟨w.heap.size, 0, none⟩ = some (.int .i64 ch) := HC.out _ K3.out 0; have z1 : w3.cell? ⟨w.heap.size, 1, none⟩ = some (.int .i64 xi) := HC.out _ K3.out 1; have z2 : w3.cell? ⟨w.heap.size, 2, none⟩ = some (.int .i64 xj) := HC.out _ K3.out 2; have z3 : w3.cell? ⟨w.heap.size, 3, none⟩ = some (.int .i64 xk) := HC.out _ K3.out 3; clear q3 k3 hlb) | (at_builtin; refine app_copy (.tmp 11) (.tmp 12) rfl rfl rfl rfl (PrV.on HV.out (below_on HBW.out K1.out)) HM.out HZ.out (by omega) ?_; intro a2 c2 w2 r2 k2; have R2 := hide r2; have K2 := hide (below_on K1.out k2); clear r2 k2) | (go_at_call 9; rw [← hW]; refine H9.out.mono ?_; rintro e w1 ⟨rfl, k1⟩; have K1 := hide k1; clear k1) | fail)
        first | (go_region_held3 (fun w' => w'.cell? ⟨w.heap.size, 1, none⟩ = some (.int .i64 xi) ∧ w'.cell? ⟨w.heap.size, 2, none⟩ = some (.int .i64 xj) ∧ w'.cell? ⟨w.heap.size, 3, none⟩ = some (.int .i64 xk)) (go_keep) (first | (go_at_call 13; refine (same_vs R6.out (PrV.on HV.out (below_on HBW.out K6.out))).mono ?_; rintro e w7 ⟨rfl, k7⟩; have K7 := hide (below_on K6.out k7); have d1 : w7.cell? ⟨w.heap.size, 1, none⟩ = some (.int .i64 xi) := HC.out _ K7.out 1; have d2 : w7.cell? ⟨w.heap.size, 2, none⟩ = some (.int .i64 xj) := HC.out _ K7.out 2; have d3 : w7.cell? ⟨w.heap.size, 3, none⟩ = some (.int .i64 xk) := HC.out _ K7.out 3; clear k7) | (go_at_call 14; refine (visits_any L5.out (by rw [HM.out]; omega)).mono ?_; rintro e w6 ⟨a6, c6, rfl, r6, k6⟩; have K6 := hide (below_on K5.out k6); have R6 := hide (r6.vs (by rw [HM.out]; omega)); have c1 : w6.cell? ⟨w.heap.size, 1, none⟩ = some (.int .i64 xi) := HC.out _ K6.out 1; have c2 : w6.cell? ⟨w.heap.size, 2, none⟩ = some (.int .i64 xj) := HC.out _ K6.out 2; have c3 : w6.cell? ⟨w.heap.size, 3, none⟩ = some (.int .i64 xk) := HC.out _ K6.out 3; clear k6 r6) | (go_at_call 20; refine (H2.out _ L4.out).mono ?_; intro e w5 h5; obtain ⟨rfl, q5, k5⟩ := chq_low h5 K4.out HLB.out K4.out.size; rw [HE2.out] at q5 ⊢; have L5 := hide q5; have K5 := hide k5; have b1 : w5.cell? ⟨w.heap.size, 1, none⟩ = some (.int .i64 xi) := HC.out _ K5.out 1; have b2 : w5.cell? ⟨w.heap.size, 2, none⟩ = some (.int .i64 xj) := HC.out _ K5.out 2; have b3 : w5.cell? ⟨w.heap.size, 3, none⟩ = some (.int .i64 xk) := HC.out _ K5.out 3; clear h5 q5 k5) | (go_at_call 20; refine (H1.out _ (L3.out.on ((Below.refl _ _).drew))).mono ?_; intro e w4 h4; obtain ⟨rfl, q4, k4⟩ := chq_low h4 (below_on K3.out ((Below.refl _ _).drew)) HLB.out (below_on K3.out ((Below.refl _ _).drew)).size; rw [HE1.out] at q4 ⊢; have L4 := hide q4; have K4 := hide k4; have a1 : w4.cell? ⟨w.heap.size, 1, none⟩ = some (.int .i64 xi) := HC.out _ K4.out 1; have a2 : w4.cell? ⟨w.heap.size, 2, none⟩ = some (.int .i64 xj) := HC.out _ K4.out 2; have a3 : w4.cell? ⟨w.heap.size, 3, none⟩ = some (.int .i64 xk) := HC.out _ K4.out 3; clear h4 q4 k4) | fail)) | fail
        rename_i hHeld
        clear hHeld
        go_wp2_with fail
        go_ret
        exact ⟨rfl, below_on HBW.out K7.out⟩
end Go.Proofs.Ytlaaeimjbojejaa
