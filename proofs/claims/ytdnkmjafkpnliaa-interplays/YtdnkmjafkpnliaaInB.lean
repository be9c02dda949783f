/-
  What the document's Inner answers: change 3.
-/
import Derived.Test.YtdnkmjafkpnliaaInA
import Derived.BigRegion
namespace Go.Proofs.Ytdnkmjafkpnliaa
open Go.RowKit

theorem set_mid (A : List Vst) (x y : Vst) (C : List Vst) : (A ++ x :: C).set A.length y = A ++ y :: C := by
  rw [List.set_append_right _ _ (Nat.le_refl _), Nat.sub_self, List.set_cons_zero]
theorem swap_set {V : List Vst} {a b : Nat} {x y : Vst} (hab : a < b) (hx : V[a]? = some x) (hy : V[b]? = some y) : swapM V a (a + 1) b (b + 1) = (V.set a y).set b x := by
  have hbn := (List.getElem?_eq_some_iff.1 hy).1
  obtain ⟨A, B, C, D, E, rfl, e1, e2, e3, e4⟩ := parts (V := V) (a := a) (b := a + 1) (x := b) (y := b + 1) (by omega) (by omega) (by omega) (by omega)
  have h5 := swap_parts A B C D E
  rw [e2, e3, e4, e1] at h5
  rw [h5]
  have lb : B.length = 1 := by omega
  have ld : D.length = 1 := by omega
  match B, lb with
  | [x'], _ =>
    match D, ld with
    | [y'], _ =>
      have ex : x' = x := by
        rw [List.getElem?_append_right (by omega), show a - A.length = 0 by omega] at hx
        simpa using hx
      have ey : y' = y := by
        rw [List.getElem?_append_right (by omega), List.getElem?_append_right (by simp at e3 ⊢; omega), List.getElem?_append_right (by simp at e3 ⊢; omega)] at hy
        have e9 : b - A.length - ([x'] : List Vst).length - C.length = 0 := by simp at e3 ⊢; omega
        rw [e9] at hy
        simpa using hy
      subst ex ey
      have s1 : (A ++ ([x'] ++ (C ++ ([y'] ++ E)))).set a y' = A ++ y' :: (C ++ ([y'] ++ E)) := by rw [← e1]; exact set_mid A x' y' _
      have s2 : (A ++ y' :: (C ++ ([y'] ++ E))) = (A ++ y' :: C) ++ y' :: E := by simp
      have s3 : b = (A ++ y' :: C).length := by simp at e3 ⊢; omega
      rw [s1, s2, s3, set_mid]
      simp
set_option maxRecDepth 100000 in
set_option maxHeartbeats 12800000 in
theorem inner_ex {w : World} {va : Option Addr} {n vc : Nat} {V : List Vst} (h : SlI w va n vc V) (hn : n ≤ 300) (i j k : Int) : Calls Try.prog 15 #[.slice va n vc, .int .i64 3, .int .i64 i, .int .i64 j, .int .i64 k] w (DIn w (exM V i j) n) := by
  have H := hide h
  have KZ : Hid (Below w.heap.size w w) := Below.refl _ _
  clear h
  rcases (show i < 0 ∨ (n : Int) ≤ i ∨ (0 ≤ i ∧ i < (n : Int)) by omega) with hi | hi | hi
  · have HR : Hid (exM V i j = (V, false)) := by show _ = _; unfold exM; rw [H.out.len, if_neg (by simp only [riseB, Bool.and_eq_true, decide_eq_true_eq]; omega)]
    have fi0 : i < 0 := by omega
    have fi1 : ¬ 0 ≤ i := by omega
    clear hi
    go_enter Try.func15, Try.ntmps15
    go_wp2_with (first | (go_at_call 39; (with_reducible refine (copiedV_any H.out.vs H.out.len (by omega) H.out.nz).mono ?_); rintro e x1 ⟨y1, d1, rfl, r1, k1⟩; have RX := hide r1.1; have KX := hide k1; clear r1 k1) | fail)
    go_ret2
    exact din_no HR.out RX.out KX.out
  · have HR : Hid (exM V i j = (V, false)) := by show _ = _; unfold exM; rw [H.out.len, if_neg (by simp only [riseB, Bool.and_eq_true, decide_eq_true_eq]; omega)]
    have fi0 : 0 ≤ i := by omega
    have fi1 : ¬ i < (n : Int) := by omega
    have fi2 : (n : Int) ≤ i := by omega
    have fi3 : ¬ i < 0 := by omega
    clear hi
    go_enter Try.func15, Try.ntmps15
    go_wp2_with (first | (go_at_call 39; (with_reducible refine (copiedV_any H.out.vs H.out.len (by omega) H.out.nz).mono ?_); rintro e x1 ⟨y1, d1, rfl, r1, k1⟩; have RX := hide r1.1; have KX := hide k1; clear r1 k1) | fail)
    go_ret2
    exact din_no HR.out RX.out KX.out
  · rcases (show j < 0 ∨ (n : Int) ≤ j ∨ (0 ≤ j ∧ j < (n : Int)) by omega) with hj | hj | hj
    · have HR : Hid (exM V i j = (V, false)) := by show _ = _; unfold exM; rw [H.out.len, if_neg (by simp only [riseB, Bool.and_eq_true, decide_eq_true_eq]; omega)]
      have fi0 : 0 ≤ i := by omega
      have fi1 : i < (n : Int) := by omega
      have fi2 : ¬ (n : Int) ≤ i := by omega
      have fi3 : ¬ i < 0 := by omega
      have fj0 : j < 0 := by omega
      have fj1 : ¬ 0 ≤ j := by omega
      clear hi hj
      go_enter Try.func15, Try.ntmps15
      go_wp2_with (first | (go_at_call 39; (with_reducible refine (copiedV_any H.out.vs H.out.len (by omega) H.out.nz).mono ?_); rintro e x1 ⟨y1, d1, rfl, r1, k1⟩; have RX := hide r1.1; have KX := hide k1; clear r1 k1) | fail)
      go_ret2
      exact din_no HR.out RX.out KX.out
    · have HR : Hid (exM V i j = (V, false)) := by show _ = _; unfold exM; rw [H.out.len, if_neg (by simp only [riseB, Bool.and_eq_true, decide_eq_true_eq]; omega)]
      have fi0 : 0 ≤ i := by omega
      have fi1 : i < (n : Int) := by omega
      have fi2 : ¬ (n : Int) ≤ i := by omega
      have fi3 : ¬ i < 0 := by omega
      have fj0 : 0 ≤ j := by omega
      have fj1 : ¬ j < (n : Int) := by omega
      have fj2 : (n : Int) ≤ j := by omega
      have fj3 : ¬ j < 0 := by omega
      clear hi hj
      go_enter Try.func15, Try.ntmps15
      go_wp2_with (first | (go_at_call 39; (with_reducible refine (copiedV_any H.out.vs H.out.len (by omega) H.out.nz).mono ?_); rintro e x1 ⟨y1, d1, rfl, r1, k1⟩; have RX := hide r1.1; have KX := hide k1; clear r1 k1) | fail)
      go_ret2
      exact din_no HR.out RX.out KX.out
    · by_cases hlt : i < j
      · have fi0 : 0 ≤ i := by omega
        have fi1 : i < (n : Int) := by omega
        have fi2 : ¬ (n : Int) ≤ i := by omega
        have fi3 : ¬ i < 0 := by omega
        have fj0 : 0 ≤ j := by omega
        have fj1 : j < (n : Int) := by omega
        have fj2 : ¬ (n : Int) ≤ j := by omega
        have fj3 : ¬ j < 0 := by omega
        have gg1 : ¬ j ≤ i := by omega
        have gg2 : i < j := hlt
        obtain ⟨a, ha⟩ : ∃ a : Nat, i = a := ⟨i.toNat, by omega⟩
        obtain ⟨b, hb⟩ : ∃ b : Nat, j = b := ⟨j.toNat, by omega⟩
        subst ha hb
        have hab : a < b := by omega
        obtain ⟨⟨x1, x2⟩, hx⟩ : ∃ u, V[a]? = some u := ⟨_, List.getElem?_eq_getElem (by rw [H.out.len]; omega)⟩
        obtain ⟨⟨y1, y2⟩, hy⟩ : ∃ u, V[b]? = some u := ⟨_, List.getElem?_eq_getElem (by rw [H.out.len]; omega)⟩
        have HR : Hid (exM V a b = ((V.set a (y1, y2)).set b (x1, x2), true)) := by
          show _ = _
          unfold exM
          rw [H.out.len, if_pos (by simp only [riseB, Bool.and_eq_true, decide_eq_true_eq]; omega)]
          simp only [Int.toNat_natCast]
          rw [swap_set hab hx hy]
        obtain ⟨bb, off, hbb, hbl, cx1, cx2, -⟩ := vs_cells H.out.vs hx
        subst hbb
        obtain ⟨bb', off', hbb, -, cy1, cy2, -⟩ := vs_cells H.out.vs hy
        injection hbb with hbb
        injection hbb with e1 e2 _
        subst e1 e2
        simp only at cx1 cx2 cy1 cy2
        have HX := hide hx
        have HY := hide hy
        have HC : Hid (∀ W, Below w.heap.size w W → (W.cell? ⟨bb, off + a * 2, none⟩ = some (.int .i64 x1) ∧ W.cell? ⟨bb, off + a * 2 + 1, none⟩ = some (.int .i64 x2)) ∧ W.cell? ⟨bb, off + b * 2, none⟩ = some (.int .i64 y1) ∧ W.cell? ⟨bb, off + b * 2 + 1, none⟩ = some (.int .i64 y2)) := fun W hf => ⟨⟨((bcell hf).1 _ _ hbl).trans cx1, ((bcell hf).1 _ _ hbl).trans cx2⟩, ((bcell hf).1 _ _ hbl).trans cy1, ((bcell hf).1 _ _ hbl).trans cy2⟩
        have hd : ¬ a * 2 = b * 2 := by omega
        have hd2 : ¬ a = b := by omega
        clear hx hy cx1 cx2 cy1 cy2 hi hj hlt
        go_enter Try.func15, Try.ntmps15
        go_wp2_with (first | (go_at_call 39; (with_reducible refine (copiedV_any H.out.vs H.out.len (by omega) H.out.nz).mono ?_); rintro e w1 ⟨g1, c1, rfl, r1, k1⟩; have R1 := hide r1.1; have K1 := hide k1; clear r1 k1) | fail)
        obtain ⟨⟨z1, z2⟩, z3, z4⟩ := HC.out _ K1.out
        obtain ⟨z5, z6⟩ := VRow.cells R1.out H.out.len HX.out
        obtain ⟨z7, z8⟩ := VRow.cells R1.out H.out.len HY.out
        have hfz := VRow.frozen R1.out
        have hgb : ¬ bb = g1 := by have h9 := (World.ownsRow.lt R1.out g1 rfl).1; omega
        have hgb2 : ¬ g1 = bb := fun e => hgb e.symm
        go_region
        have HH : Hid (∀ W2, W2 = ((((w1.setCell ⟨g1, a * 2, none⟩ (.int .i64 y1)).setCell ⟨g1, a * 2 + 1, none⟩ (.int .i64 y2)).setCell ⟨g1, b * 2, none⟩ (.int .i64 x1)).setCell ⟨g1, b * 2 + 1, none⟩ (.int .i64 x2)) → VRow W2 w.heap.size (.slice (some ⟨g1, 0, none⟩) n c1) ((V.set a (y1, y2)).set b (x1, x2)) ∧ Below w.heap.size w W2) := fun W2 e9 => by
          rw [e9]
          have h8 := (World.ownsRow.lt R1.out g1 rfl).1
          exact ⟨VRow.set (VRow.set R1.out H.out.len a (y1, y2)) (by rw [List.length_set]; exact H.out.len) b (x1, x2), (((K1.out.setCell h8 _).setCell h8 _).setCell h8 _).setCell h8 _⟩
        go_wp2_with fail
        go_ret2
        exact din_yes HR.out (VRow.later (HH.out _ rfl).1 (Nat.le_refl _) ((Below.refl _ _).drew)) (low_drew (HH.out _ rfl).2)
      · have HR : Hid (exM V i j = (V, false)) := by show _ = _; unfold exM; rw [H.out.len, if_neg (by simp only [riseB, Bool.and_eq_true, decide_eq_true_eq]; omega)]
        have fi0 : 0 ≤ i := by omega
        have fi1 : i < (n : Int) := by omega
        have fi2 : ¬ (n : Int) ≤ i := by omega
        have fi3 : ¬ i < 0 := by omega
        have fj0 : 0 ≤ j := by omega
        have fj1 : j < (n : Int) := by omega
        have fj2 : ¬ (n : Int) ≤ j := by omega
        have fj3 : ¬ j < 0 := by omega
        have g1 : j ≤ i := by omega
        clear hi hj
        go_enter Try.func15, Try.ntmps15
        go_wp2_with (first | (go_at_call 39; (with_reducible refine (copiedV_any H.out.vs H.out.len (by omega) H.out.nz).mono ?_); rintro e x1 ⟨y1, d1, rfl, r1, k1⟩; have RX := hide r1.1; have KX := hide k1; clear r1 k1) | fail)
        go_ret2
        exact din_no HR.out RX.out KX.out
end Go.Proofs.Ytdnkmjafkpnliaa
