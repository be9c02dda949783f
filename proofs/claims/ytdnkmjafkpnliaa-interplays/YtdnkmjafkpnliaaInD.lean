/-
  What the document's Inner answers: change 5.
-/
import Derived.Test.YtdnkmjafkpnliaaInA
import Derived.Test.YtdnkmjafkpnliaaDvH
namespace Go.Proofs.Ytdnkmjafkpnliaa
open Go.RowKit

theorem pair_whole {V : List Vst} {a : Nat} {kd it : Int} (hu : V[a]? = some (kd, it)) (hk : kd = 2 ∨ kd = 3) : tkF V (a : Int) = (true, it) ∧ whF V (a : Int) = (if (V.count (2, it) == 1 && V.count (3, it) == 1) = true then some (true, it) else none) := by
  have hgd : V.getD a (0, 0) = (kd, it) := by rw [List.getD_eq_getElem?_getD, hu]; rfl
  have hof : ofM kd it = ((true, it), true) := by unfold ofM; rcases hk with rfl | rfl <;> rfl
  have hl := (List.getElem?_eq_some_iff.1 hu).1
  have hw : witB (a : Int) ((V.length : Int) - 1) = true := by unfold witB; rw [decide_eq_true (by omega), decide_eq_true (by omega)]; rfl
  have hb : whlB true it V = (V.count (2, it) == 1 && V.count (3, it) == 1) := by unfold whlB; simp [visL]
  unfold tkF whF
  rw [Int.toNat_natCast, hgd, hw, if_pos rfl]
  simp only [hof, hb]
  refine ⟨trivial, ?_⟩
  cases (V.count (2, it) == 1 && V.count (3, it) == 1) <;> rfl
theorem pair_at {V : List Vst} {a : Nat} {j k : Int} {kd it : Int} (hu : V[a]? = some (kd, it)) : pairM V a j k = if (riseB V.length j k = true ∧ (kd = 2 ∨ kd = 3) ∧ V.count (2, it) = 1 ∧ V.count (3, it) = 1) then (insM (insM (oth it V) j.toNat (2, it)) k.toNat (3, it), true) else (V, false) := by
  have hgd : V.getD a (0, 0) = (kd, it) := by rw [List.getD_eq_getElem?_getD, hu]; rfl
  have hl := (List.getElem?_eq_some_iff.1 hu).1
  have hw : witB (a : Int) ((V.length : Int) - 1) = true := by unfold witB; rw [decide_eq_true (by omega), decide_eq_true (by omega)]; rfl
  unfold pairM
  rw [hw, Bool.true_and, Int.toNat_natCast, hgd]
  simp only
  by_cases h1 : riseB V.length j k = true
  · rw [if_pos h1]
    by_cases h2 : (kd = 2 ∨ kd = 3) ∧ V.count (2, it) = 1 ∧ V.count (3, it) = 1
    · rw [if_pos h2, if_pos ⟨h1, h2⟩]
    · rw [if_neg h2, if_neg (fun h => h2 h.2)]
  · rw [if_neg h1, if_neg (fun h => h1 h.1)]
theorem pair_fit {n q : Nat} {j k : Int} (h : q + 2 = n) : fitB true q j k = riseB n j k := by
  have e : (fitB true q j k = true) ↔ (riseB n j k = true) := by
    unfold fitB riseB witB
    simp only [Bool.and_eq_true, decide_eq_true_eq, Bool.not_true, Bool.false_or]
    omega
  cases h1 : fitB true q j k <;> cases h2 : riseB n j k <;> first | rfl | (rw [h1, h2] at e; simp at e)
set_option maxRecDepth 100000 in
set_option maxHeartbeats 12800000 in
theorem inner_pair {w : World} {va : Option Addr} {n vc : Nat} {V : List Vst} (h : SlI w va n vc V) (hn : n ≤ 300) (i j k : Int) : Calls Try.prog 15 #[.slice va n vc, .int .i64 5, .int .i64 i, .int .i64 j, .int .i64 k] w (DIn w (pairM V i j k) n) := by
  have H := hide h
  have KZ : Hid (Below w.heap.size w w) := Below.refl _ _
  clear h
  have HCA := hide (copied_in H.out (by omega))
  have KK := KZ
  rcases (show i < 0 ∨ (n : Int) ≤ i ∨ (0 ≤ i ∧ i < (n : Int)) by omega) with hi | hi | hi
  · have HR : Hid (pairM V i j k = (V, false)) := by show _ = _; unfold pairM; rw [H.out.len, if_neg (by simp only [Bool.and_eq_true, witB, riseB, decide_eq_true_eq]; omega)]
    have fi0 : i < 0 := by omega
    have fi1 : ¬ 0 ≤ i := by omega
    clear hi
    go_enter Try.func15, Try.ntmps15
    go_wp2_with (first | (go_at_call 39; (with_reducible refine (HCA.out _ (by first | (with_reducible exact KK.out) | (with_reducible exact low_alloc KK.out _))).mono ?_); rintro e x1 ⟨y1, d1, rfl, r1, k1, -⟩; have RX := hide r1; have KX := hide k1; clear r1 k1) | fail)
    go_ret2
    exact din_no HR.out RX.out KX.out
  · have HR : Hid (pairM V i j k = (V, false)) := by show _ = _; unfold pairM; rw [H.out.len, if_neg (by simp only [Bool.and_eq_true, witB, riseB, decide_eq_true_eq]; omega)]
    have fi0 : 0 ≤ i := by omega
    have fi1 : ¬ i < (n : Int) := by omega
    have fi2 : (n : Int) ≤ i := by omega
    have fi3 : ¬ i < 0 := by omega
    clear hi
    go_enter Try.func15, Try.ntmps15
    go_wp2_with (first | (go_at_call 39; (with_reducible refine (HCA.out _ (by first | (with_reducible exact KK.out) | (with_reducible exact low_alloc KK.out _))).mono ?_); rintro e x1 ⟨y1, d1, rfl, r1, k1, -⟩; have RX := hide r1; have KX := hide k1; clear r1 k1) | fail)
    go_ret2
    exact din_no HR.out RX.out KX.out
  · rcases (show j < 0 ∨ (n : Int) ≤ j ∨ (0 ≤ j ∧ j < (n : Int)) by omega) with hj | hj | hj
    · have fi0 : 0 ≤ i := by omega
      have fi1 : i < (n : Int) := by omega
      have fi2 : ¬ (n : Int) ≤ i := by omega
      have fi3 : ¬ i < 0 := by omega
      have fj0 : j < 0 := by omega
      have fj1 : ¬ 0 ≤ j := by omega
      obtain ⟨a, ha⟩ : ∃ a : Nat, i = a := ⟨i.toNat, by omega⟩
      obtain ⟨⟨kd, it⟩, hu⟩ : ∃ u, V[a]? = some u := ⟨_, List.getElem?_eq_getElem (by rw [H.out.len]; omega)⟩
      have hpa := pair_at (j := j) (k := k) hu
      rw [← ha] at hpa
      obtain ⟨bb, off, hbb, hbl, z1, z2, -⟩ := vs_cells H.out.vs hu
      subst hbb
      simp only at z1 z2
      have HC : Hid (∀ W, Below w.heap.size w W → W.cell? ⟨bb, off + a * 2, none⟩ = some (.int .i64 kd) ∧ W.cell? ⟨bb, off + a * 2 + 1, none⟩ = some (.int .i64 it)) := fun W hf => ⟨((bcell hf).1 _ _ hbl).trans z1, ((bcell hf).1 _ _ hbl).trans z2⟩
      have hia : i.toNat = a := by omega
      clear hi hj
      by_cases hk : kd = 2 ∨ kd = 3
      · obtain ⟨htk, hwf⟩ := pair_whole hu hk
        rw [← ha] at htk hwf
        obtain ⟨q, hq⟩ : ∃ q, (outM true it V).length = q := ⟨_, rfl⟩
        have HTK := hide htk
        have HQ := hide hq
        have hq9 : q ≤ 300 := by have h9 := out_le true it V; rw [hq, H.out.len] at h9; omega
        have HRN : Hid (¬ (V.count (2, it) = 1 ∧ V.count (3, it) = 1) → pairM V i j k = (V, false)) := fun h9 => by rw [hpa, if_neg (fun h8 => h9 h8.2.2)]
        obtain ⟨z, hz⟩ : ∃ z, (V.count (2, it) == 1 && V.count (3, it) == 1) = z := ⟨_, rfl⟩
        rw [hz] at hwf
        have hkk : (kd == 2) = true ∨ ((kd == 2) = false ∧ (kd == 3) = true) := by rcases hk with rfl | rfl; exact .inl rfl; exact .inr ⟨rfl, rfl⟩
        clear hu hk hbl ha
        cases z with
        | false =>
          have HWF : Hid (whF V i = none) := hwf
          have HR : Hid (pairM V i j k = (V, false)) := HRN.out (fun h8 => by rw [h8.1, h8.2] at hz; cases hz)
          clear hpa hwf hz hq htk
          rcases hkk with y1 | ⟨y1, y2⟩
          · go_enter Try.func15, Try.ntmps15
            go_wp2_with (first | (go_at_call 39; (with_reducible refine (HCA.out _ (by first | (with_reducible exact KK.out) | (with_reducible exact low_alloc KK.out _))).mono ?_); rintro e x1 ⟨y1, d1, rfl, r1, k1, -⟩; have RX := hide r1; have KX := hide k1; clear r1 k1) | (go_at_call 40; (with_reducible refine (rwhole_f H.out (by omega) fi0 fi1 HTK.out HWF.out HQ.out).mono ?_); rintro e w1 ⟨a1, c1, rfl, r1, k1⟩; have S1 := hide (SlI.row r1 HQ.out (by omega)); have K1 := hide k1; clear r1 k1 KK; have KK := K1) | fail)
            go_ret2
            exact din_no HR.out RX.out KX.out
          · go_enter Try.func15, Try.ntmps15
            go_wp2_with (first | (go_at_call 39; (with_reducible refine (HCA.out _ (by first | (with_reducible exact KK.out) | (with_reducible exact low_alloc KK.out _))).mono ?_); rintro e x1 ⟨y1, d1, rfl, r1, k1, -⟩; have RX := hide r1; have KX := hide k1; clear r1 k1) | (go_at_call 40; (with_reducible refine (rwhole_f H.out (by omega) fi0 fi1 HTK.out HWF.out HQ.out).mono ?_); rintro e w1 ⟨a1, c1, rfl, r1, k1⟩; have S1 := hide (SlI.row r1 HQ.out (by omega)); have K1 := hide k1; clear r1 k1 KK; have KK := K1) | fail)
            go_ret2
            exact din_no HR.out RX.out KX.out
        | true =>
          have HWF : Hid (whF V i = some (true, it)) := hwf
          rw [Bool.and_eq_true] at hz
          have hc2 : V.count (2, it) = 1 := by simpa using hz.1
          have hc3 : V.count (3, it) = 1 := by simpa using hz.2
          have hqn : q + 2 = n := by
            have h9 := oth_len it V
            rw [hc2, hc3, H.out.len, ← out_oth, hq] at h9
            omega
          obtain ⟨f, hf⟩ : ∃ f, fitB true q j k = f := ⟨_, rfl⟩
          have HF := hide hf
          have hfr := pair_fit (j := j) (k := k) hqn
          rw [hf] at hfr
          cases f with
          | false =>
            have HR : Hid (pairM V i j k = (V, false)) := by show _ = _; rw [hpa, H.out.len, ← hfr, if_neg (fun h8 => by cases h8.1)]
            clear hpa hwf hz hq htk hc2 hc3 hqn hf hfr
            rcases hkk with y1 | ⟨y1, y2⟩
            · go_enter Try.func15, Try.ntmps15
              go_wp2_with (first | (go_at_call 39; (with_reducible refine (HCA.out _ (by first | (with_reducible exact KK.out) | (with_reducible exact low_alloc KK.out _))).mono ?_); rintro e x1 ⟨y1, d1, rfl, r1, k1, -⟩; have RX := hide r1; have KX := hide k1; clear r1 k1) | (go_at_call 41; (with_reducible refine (rput_no (S1.out.on ((Below.refl _ _).alloc (Nat.le_refl _) _)) (by omega) HF.out).mono ?_); rintro e w2 ⟨a2, q2, c2, rfl, k2⟩; have K2 : Hid (Below w.heap.size w w2) := (below_on (low_alloc K1.out _) k2); clear k2 KK; have KK := K2) | (go_at_call 40; (with_reducible refine (rwhole_t H.out (by omega) fi0 fi1 HTK.out HWF.out HQ.out).mono ?_); rintro e w1 ⟨a1, c1, rfl, r1, k1⟩; have S1 := hide (SlI.row r1 HQ.out (by omega)); have K1 := hide k1; clear r1 k1 KK; have KK := K1) | fail)
              go_ret2
              exact din_no HR.out RX.out KX.out
            · go_enter Try.func15, Try.ntmps15
              go_wp2_with (first | (go_at_call 39; (with_reducible refine (HCA.out _ (by first | (with_reducible exact KK.out) | (with_reducible exact low_alloc KK.out _))).mono ?_); rintro e x1 ⟨y1, d1, rfl, r1, k1, -⟩; have RX := hide r1; have KX := hide k1; clear r1 k1) | (go_at_call 41; (with_reducible refine (rput_no (S1.out.on ((Below.refl _ _).alloc (Nat.le_refl _) _)) (by omega) HF.out).mono ?_); rintro e w2 ⟨a2, q2, c2, rfl, k2⟩; have K2 : Hid (Below w.heap.size w w2) := (below_on (low_alloc K1.out _) k2); clear k2 KK; have KK := K2) | (go_at_call 40; (with_reducible refine (rwhole_t H.out (by omega) fi0 fi1 HTK.out HWF.out HQ.out).mono ?_); rintro e w1 ⟨a1, c1, rfl, r1, k1⟩; have S1 := hide (SlI.row r1 HQ.out (by omega)); have K1 := hide k1; clear r1 k1 KK; have KK := K1) | fail)
              go_ret2
              exact din_no HR.out RX.out KX.out
          | true =>
            obtain ⟨PL, hPL⟩ : ∃ L, putL true it (outM true it V) j.toNat k.toNat = L := ⟨_, rfl⟩
            have HPL := hide hPL
            have HPN : Hid (q + visN true = n) := hqn
            have HR : Hid (pairM V i j k = (PL, true)) := by
              show _ = _
              rw [hpa, H.out.len, ← hfr, if_pos ⟨rfl, (by rcases hkk with h9 | h9; exact .inl (by simpa using h9); exact .inr (by simpa using h9.2)), hc2, hc3⟩, ← hPL]
              unfold putL
              rw [if_pos rfl, out_oth]
            clear hpa hwf hz hq htk hc2 hc3 hqn hf hfr hPL
            rcases hkk with y1 | ⟨y1, y2⟩
            · go_enter Try.func15, Try.ntmps15
              go_wp2_with (first | (go_at_call 41; (with_reducible refine (rput_yes (S1.out.on ((Below.refl _ _).alloc (Nat.le_refl _) _)) (by omega) HF.out HPN.out HPL.out).mono ?_); rintro e w2 ⟨a2, c2, rfl, r2, k2⟩; have R2 : Hid (VRow w2 w.heap.size (.slice a2 n c2) PL) := (own_mono r2 (low_alloc K1.out (.cells #[.bool true, .int .i64 it] 67)).size); have K2 : Hid (Below w.heap.size w w2) := (below_on (low_alloc K1.out _) k2); clear r2 k2 KK; have KK := K2) | (go_at_call 40; (with_reducible refine (rwhole_t H.out (by omega) fi0 fi1 HTK.out HWF.out HQ.out).mono ?_); rintro e w1 ⟨a1, c1, rfl, r1, k1⟩; have S1 := hide (SlI.row r1 HQ.out (by omega)); have K1 := hide k1; clear r1 k1 KK; have KK := K1) | fail)
              go_ret2
              exact din_yes HR.out R2.out K2.out
            · go_enter Try.func15, Try.ntmps15
              go_wp2_with (first | (go_at_call 41; (with_reducible refine (rput_yes (S1.out.on ((Below.refl _ _).alloc (Nat.le_refl _) _)) (by omega) HF.out HPN.out HPL.out).mono ?_); rintro e w2 ⟨a2, c2, rfl, r2, k2⟩; have R2 : Hid (VRow w2 w.heap.size (.slice a2 n c2) PL) := (own_mono r2 (low_alloc K1.out (.cells #[.bool true, .int .i64 it] 67)).size); have K2 : Hid (Below w.heap.size w w2) := (below_on (low_alloc K1.out _) k2); clear r2 k2 KK; have KK := K2) | (go_at_call 40; (with_reducible refine (rwhole_t H.out (by omega) fi0 fi1 HTK.out HWF.out HQ.out).mono ?_); rintro e w1 ⟨a1, c1, rfl, r1, k1⟩; have S1 := hide (SlI.row r1 HQ.out (by omega)); have K1 := hide k1; clear r1 k1 KK; have KK := K1) | fail)
              go_ret2
              exact din_yes HR.out R2.out K2.out
      · have y1 : (kd == 2) = false := by simp; exact fun e => hk (.inl e)
        have y2 : (kd == 3) = false := by simp; exact fun e => hk (.inr e)
        have HR : Hid (pairM V i j k = (V, false)) := by show _ = _; rw [hpa, if_neg (fun h8 => hk h8.2.1)]
        clear hpa hu hk hbl ha
        go_enter Try.func15, Try.ntmps15
        go_wp2_with (first | (go_at_call 39; (with_reducible refine (HCA.out _ (by first | (with_reducible exact KK.out) | (with_reducible exact low_alloc KK.out _))).mono ?_); rintro e x1 ⟨y1, d1, rfl, r1, k1, -⟩; have RX := hide r1; have KX := hide k1; clear r1 k1) | fail)
        go_ret2
        exact din_no HR.out RX.out KX.out
    · have fi0 : 0 ≤ i := by omega
      have fi1 : i < (n : Int) := by omega
      have fi2 : ¬ (n : Int) ≤ i := by omega
      have fi3 : ¬ i < 0 := by omega
      have fj0 : 0 ≤ j := by omega
      have fj1 : ¬ j < (n : Int) := by omega
      have fj2 : (n : Int) ≤ j := by omega
      have fj3 : ¬ j < 0 := by omega
      obtain ⟨a, ha⟩ : ∃ a : Nat, i = a := ⟨i.toNat, by omega⟩
      obtain ⟨⟨kd, it⟩, hu⟩ : ∃ u, V[a]? = some u := ⟨_, List.getElem?_eq_getElem (by rw [H.out.len]; omega)⟩
      have hpa := pair_at (j := j) (k := k) hu
      rw [← ha] at hpa
      obtain ⟨bb, off, hbb, hbl, z1, z2, -⟩ := vs_cells H.out.vs hu
      subst hbb
      simp only at z1 z2
      have HC : Hid (∀ W, Below w.heap.size w W → W.cell? ⟨bb, off + a * 2, none⟩ = some (.int .i64 kd) ∧ W.cell? ⟨bb, off + a * 2 + 1, none⟩ = some (.int .i64 it)) := fun W hf => ⟨((bcell hf).1 _ _ hbl).trans z1, ((bcell hf).1 _ _ hbl).trans z2⟩
      have hia : i.toNat = a := by omega
      clear hi hj
      by_cases hk : kd = 2 ∨ kd = 3
      · obtain ⟨htk, hwf⟩ := pair_whole hu hk
        rw [← ha] at htk hwf
        obtain ⟨q, hq⟩ : ∃ q, (outM true it V).length = q := ⟨_, rfl⟩
        have HTK := hide htk
        have HQ := hide hq
        have hq9 : q ≤ 300 := by have h9 := out_le true it V; rw [hq, H.out.len] at h9; omega
        have HRN : Hid (¬ (V.count (2, it) = 1 ∧ V.count (3, it) = 1) → pairM V i j k = (V, false)) := fun h9 => by rw [hpa, if_neg (fun h8 => h9 h8.2.2)]
        obtain ⟨z, hz⟩ : ∃ z, (V.count (2, it) == 1 && V.count (3, it) == 1) = z := ⟨_, rfl⟩
        rw [hz] at hwf
        have hkk : (kd == 2) = true ∨ ((kd == 2) = false ∧ (kd == 3) = true) := by rcases hk with rfl | rfl; exact .inl rfl; exact .inr ⟨rfl, rfl⟩
        clear hu hk hbl ha
        cases z with
        | false =>
          have HWF : Hid (whF V i = none) := hwf
          have HR : Hid (pairM V i j k = (V, false)) := HRN.out (fun h8 => by rw [h8.1, h8.2] at hz; cases hz)
          clear hpa hwf hz hq htk
          rcases hkk with y1 | ⟨y1, y2⟩
          · go_enter Try.func15, Try.ntmps15
            go_wp2_with (first | (go_at_call 39; (with_reducible refine (HCA.out _ (by first | (with_reducible exact KK.out) | (with_reducible exact low_alloc KK.out _))).mono ?_); rintro e x1 ⟨y1, d1, rfl, r1, k1, -⟩; have RX := hide r1; have KX := hide k1; clear r1 k1) | (go_at_call 40; (with_reducible refine (rwhole_f H.out (by omega) fi0 fi1 HTK.out HWF.out HQ.out).mono ?_); rintro e w1 ⟨a1, c1, rfl, r1, k1⟩; have S1 := hide (SlI.row r1 HQ.out (by omega)); have K1 := hide k1; clear r1 k1 KK; have KK := K1) | fail)
            go_ret2
            exact din_no HR.out RX.out KX.out
          · go_enter Try.func15, Try.ntmps15
            go_wp2_with (first | (go_at_call 39; (with_reducible refine (HCA.out _ (by first | (with_reducible exact KK.out) | (with_reducible exact low_alloc KK.out _))).mono ?_); rintro e x1 ⟨y1, d1, rfl, r1, k1, -⟩; have RX := hide r1; have KX := hide k1; clear r1 k1) | (go_at_call 40; (with_reducible refine (rwhole_f H.out (by omega) fi0 fi1 HTK.out HWF.out HQ.out).mono ?_); rintro e w1 ⟨a1, c1, rfl, r1, k1⟩; have S1 := hide (SlI.row r1 HQ.out (by omega)); have K1 := hide k1; clear r1 k1 KK; have KK := K1) | fail)
            go_ret2
            exact din_no HR.out RX.out KX.out
        | true =>
          have HWF : Hid (whF V i = some (true, it)) := hwf
          rw [Bool.and_eq_true] at hz
          have hc2 : V.count (2, it) = 1 := by simpa using hz.1
          have hc3 : V.count (3, it) = 1 := by simpa using hz.2
          have hqn : q + 2 = n := by
            have h9 := oth_len it V
            rw [hc2, hc3, H.out.len, ← out_oth, hq] at h9
            omega
          obtain ⟨f, hf⟩ : ∃ f, fitB true q j k = f := ⟨_, rfl⟩
          have HF := hide hf
          have hfr := pair_fit (j := j) (k := k) hqn
          rw [hf] at hfr
          cases f with
          | false =>
            have HR : Hid (pairM V i j k = (V, false)) := by show _ = _; rw [hpa, H.out.len, ← hfr, if_neg (fun h8 => by cases h8.1)]
            clear hpa hwf hz hq htk hc2 hc3 hqn hf hfr
            rcases hkk with y1 | ⟨y1, y2⟩
            · go_enter Try.func15, Try.ntmps15
              go_wp2_with (first | (go_at_call 39; (with_reducible refine (HCA.out _ (by first | (with_reducible exact KK.out) | (with_reducible exact low_alloc KK.out _))).mono ?_); rintro e x1 ⟨y1, d1, rfl, r1, k1, -⟩; have RX := hide r1; have KX := hide k1; clear r1 k1) | (go_at_call 41; (with_reducible refine (rput_no (S1.out.on ((Below.refl _ _).alloc (Nat.le_refl _) _)) (by omega) HF.out).mono ?_); rintro e w2 ⟨a2, q2, c2, rfl, k2⟩; have K2 : Hid (Below w.heap.size w w2) := (below_on (low_alloc K1.out _) k2); clear k2 KK; have KK := K2) | (go_at_call 40; (with_reducible refine (rwhole_t H.out (by omega) fi0 fi1 HTK.out HWF.out HQ.out).mono ?_); rintro e w1 ⟨a1, c1, rfl, r1, k1⟩; have S1 := hide (SlI.row r1 HQ.out (by omega)); have K1 := hide k1; clear r1 k1 KK; have KK := K1) | fail)
              go_ret2
              exact din_no HR.out RX.out KX.out
            · go_enter Try.func15, Try.ntmps15
              go_wp2_with (first | (go_at_call 39; (with_reducible refine (HCA.out _ (by first | (with_reducible exact KK.out) | (with_reducible exact low_alloc KK.out _))).mono ?_); rintro e x1 ⟨y1, d1, rfl, r1, k1, -⟩; have RX := hide r1; have KX := hide k1; clear r1 k1) | (go_at_call 41; (with_reducible refine (rput_no (S1.out.on ((Below.refl _ _).alloc (Nat.le_refl _) _)) (by omega) HF.out).mono ?_); rintro e w2 ⟨a2, q2, c2, rfl, k2⟩; have K2 : Hid (Below w.heap.size w w2) := (below_on (low_alloc K1.out _) k2); clear k2 KK; have KK := K2) | (go_at_call 40; (with_reducible refine (rwhole_t H.out (by omega) fi0 fi1 HTK.out HWF.out HQ.out).mono ?_); rintro e w1 ⟨a1, c1, rfl, r1, k1⟩; have S1 := hide (SlI.row r1 HQ.out (by omega)); have K1 := hide k1; clear r1 k1 KK; have KK := K1) | fail)
              go_ret2
              exact din_no HR.out RX.out KX.out
          | true =>
            obtain ⟨PL, hPL⟩ : ∃ L, putL true it (outM true it V) j.toNat k.toNat = L := ⟨_, rfl⟩
            have HPL := hide hPL
            have HPN : Hid (q + visN true = n) := hqn
            have HR : Hid (pairM V i j k = (PL, true)) := by
              show _ = _
              rw [hpa, H.out.len, ← hfr, if_pos ⟨rfl, (by rcases hkk with h9 | h9; exact .inl (by simpa using h9); exact .inr (by simpa using h9.2)), hc2, hc3⟩, ← hPL]
              unfold putL
              rw [if_pos rfl, out_oth]
            clear hpa hwf hz hq htk hc2 hc3 hqn hf hfr hPL
            rcases hkk with y1 | ⟨y1, y2⟩
            · go_enter Try.func15, Try.ntmps15
              go_wp2_with (first | (go_at_call 41; (with_reducible refine (rput_yes (S1.out.on ((Below.refl _ _).alloc (Nat.le_refl _) _)) (by omega) HF.out HPN.out HPL.out).mono ?_); rintro e w2 ⟨a2, c2, rfl, r2, k2⟩; have R2 : Hid (VRow w2 w.heap.size (.slice a2 n c2) PL) := (own_mono r2 (low_alloc K1.out (.cells #[.bool true, .int .i64 it] 67)).size); have K2 : Hid (Below w.heap.size w w2) := (below_on (low_alloc K1.out _) k2); clear r2 k2 KK; have KK := K2) | (go_at_call 40; (with_reducible refine (rwhole_t H.out (by omega) fi0 fi1 HTK.out HWF.out HQ.out).mono ?_); rintro e w1 ⟨a1, c1, rfl, r1, k1⟩; have S1 := hide (SlI.row r1 HQ.out (by omega)); have K1 := hide k1; clear r1 k1 KK; have KK := K1) | fail)
              go_ret2
              exact din_yes HR.out R2.out K2.out
            · go_enter Try.func15, Try.ntmps15
              go_wp2_with (first | (go_at_call 41; (with_reducible refine (rput_yes (S1.out.on ((Below.refl _ _).alloc (Nat.le_refl _) _)) (by omega) HF.out HPN.out HPL.out).mono ?_); rintro e w2 ⟨a2, c2, rfl, r2, k2⟩; have R2 : Hid (VRow w2 w.heap.size (.slice a2 n c2) PL) := (own_mono r2 (low_alloc K1.out (.cells #[.bool true, .int .i64 it] 67)).size); have K2 : Hid (Below w.heap.size w w2) := (below_on (low_alloc K1.out _) k2); clear r2 k2 KK; have KK := K2) | (go_at_call 40; (with_reducible refine (rwhole_t H.out (by omega) fi0 fi1 HTK.out HWF.out HQ.out).mono ?_); rintro e w1 ⟨a1, c1, rfl, r1, k1⟩; have S1 := hide (SlI.row r1 HQ.out (by omega)); have K1 := hide k1; clear r1 k1 KK; have KK := K1) | fail)
              go_ret2
              exact din_yes HR.out R2.out K2.out
      · have y1 : (kd == 2) = false := by simp; exact fun e => hk (.inl e)
        have y2 : (kd == 3) = false := by simp; exact fun e => hk (.inr e)
        have HR : Hid (pairM V i j k = (V, false)) := by show _ = _; rw [hpa, if_neg (fun h8 => hk h8.2.1)]
        clear hpa hu hk hbl ha
        go_enter Try.func15, Try.ntmps15
        go_wp2_with (first | (go_at_call 39; (with_reducible refine (HCA.out _ (by first | (with_reducible exact KK.out) | (with_reducible exact low_alloc KK.out _))).mono ?_); rintro e x1 ⟨y1, d1, rfl, r1, k1, -⟩; have RX := hide r1; have KX := hide k1; clear r1 k1) | fail)
        go_ret2
        exact din_no HR.out RX.out KX.out
    · have fi0 : 0 ≤ i := by omega
      have fi1 : i < (n : Int) := by omega
      have fi2 : ¬ (n : Int) ≤ i := by omega
      have fi3 : ¬ i < 0 := by omega
      have fj0 : 0 ≤ j := by omega
      have fj1 : j < (n : Int) := by omega
      have fj2 : ¬ (n : Int) ≤ j := by omega
      have fj3 : ¬ j < 0 := by omega
      obtain ⟨a, ha⟩ : ∃ a : Nat, i = a := ⟨i.toNat, by omega⟩
      obtain ⟨⟨kd, it⟩, hu⟩ : ∃ u, V[a]? = some u := ⟨_, List.getElem?_eq_getElem (by rw [H.out.len]; omega)⟩
      have hpa := pair_at (j := j) (k := k) hu
      rw [← ha] at hpa
      obtain ⟨bb, off, hbb, hbl, z1, z2, -⟩ := vs_cells H.out.vs hu
      subst hbb
      simp only at z1 z2
      have HC : Hid (∀ W, Below w.heap.size w W → W.cell? ⟨bb, off + a * 2, none⟩ = some (.int .i64 kd) ∧ W.cell? ⟨bb, off + a * 2 + 1, none⟩ = some (.int .i64 it)) := fun W hf => ⟨((bcell hf).1 _ _ hbl).trans z1, ((bcell hf).1 _ _ hbl).trans z2⟩
      have hia : i.toNat = a := by omega
      clear hi hj
      by_cases hk : kd = 2 ∨ kd = 3
      · obtain ⟨htk, hwf⟩ := pair_whole hu hk
        rw [← ha] at htk hwf
        obtain ⟨q, hq⟩ : ∃ q, (outM true it V).length = q := ⟨_, rfl⟩
        have HTK := hide htk
        have HQ := hide hq
        have hq9 : q ≤ 300 := by have h9 := out_le true it V; rw [hq, H.out.len] at h9; omega
        have HRN : Hid (¬ (V.count (2, it) = 1 ∧ V.count (3, it) = 1) → pairM V i j k = (V, false)) := fun h9 => by rw [hpa, if_neg (fun h8 => h9 h8.2.2)]
        obtain ⟨z, hz⟩ : ∃ z, (V.count (2, it) == 1 && V.count (3, it) == 1) = z := ⟨_, rfl⟩
        rw [hz] at hwf
        have hkk : (kd == 2) = true ∨ ((kd == 2) = false ∧ (kd == 3) = true) := by rcases hk with rfl | rfl; exact .inl rfl; exact .inr ⟨rfl, rfl⟩
        clear hu hk hbl ha
        cases z with
        | false =>
          have HWF : Hid (whF V i = none) := hwf
          have HR : Hid (pairM V i j k = (V, false)) := HRN.out (fun h8 => by rw [h8.1, h8.2] at hz; cases hz)
          clear hpa hwf hz hq htk
          rcases hkk with y1 | ⟨y1, y2⟩
          · go_enter Try.func15, Try.ntmps15
            go_wp2_with (first | (go_at_call 39; (with_reducible refine (HCA.out _ (by first | (with_reducible exact KK.out) | (with_reducible exact low_alloc KK.out _))).mono ?_); rintro e x1 ⟨y1, d1, rfl, r1, k1, -⟩; have RX := hide r1; have KX := hide k1; clear r1 k1) | (go_at_call 40; (with_reducible refine (rwhole_f H.out (by omega) fi0 fi1 HTK.out HWF.out HQ.out).mono ?_); rintro e w1 ⟨a1, c1, rfl, r1, k1⟩; have S1 := hide (SlI.row r1 HQ.out (by omega)); have K1 := hide k1; clear r1 k1 KK; have KK := K1) | fail)
            go_ret2
            exact din_no HR.out RX.out KX.out
          · go_enter Try.func15, Try.ntmps15
            go_wp2_with (first | (go_at_call 39; (with_reducible refine (HCA.out _ (by first | (with_reducible exact KK.out) | (with_reducible exact low_alloc KK.out _))).mono ?_); rintro e x1 ⟨y1, d1, rfl, r1, k1, -⟩; have RX := hide r1; have KX := hide k1; clear r1 k1) | (go_at_call 40; (with_reducible refine (rwhole_f H.out (by omega) fi0 fi1 HTK.out HWF.out HQ.out).mono ?_); rintro e w1 ⟨a1, c1, rfl, r1, k1⟩; have S1 := hide (SlI.row r1 HQ.out (by omega)); have K1 := hide k1; clear r1 k1 KK; have KK := K1) | fail)
            go_ret2
            exact din_no HR.out RX.out KX.out
        | true =>
          have HWF : Hid (whF V i = some (true, it)) := hwf
          rw [Bool.and_eq_true] at hz
          have hc2 : V.count (2, it) = 1 := by simpa using hz.1
          have hc3 : V.count (3, it) = 1 := by simpa using hz.2
          have hqn : q + 2 = n := by
            have h9 := oth_len it V
            rw [hc2, hc3, H.out.len, ← out_oth, hq] at h9
            omega
          obtain ⟨f, hf⟩ : ∃ f, fitB true q j k = f := ⟨_, rfl⟩
          have HF := hide hf
          have hfr := pair_fit (j := j) (k := k) hqn
          rw [hf] at hfr
          cases f with
          | false =>
            have HR : Hid (pairM V i j k = (V, false)) := by show _ = _; rw [hpa, H.out.len, ← hfr, if_neg (fun h8 => by cases h8.1)]
            clear hpa hwf hz hq htk hc2 hc3 hqn hf hfr
            rcases hkk with y1 | ⟨y1, y2⟩
            · go_enter Try.func15, Try.ntmps15
              go_wp2_with (first | (go_at_call 39; (with_reducible refine (HCA.out _ (by first | (with_reducible exact KK.out) | (with_reducible exact low_alloc KK.out _))).mono ?_); rintro e x1 ⟨y1, d1, rfl, r1, k1, -⟩; have RX := hide r1; have KX := hide k1; clear r1 k1) | (go_at_call 41; (with_reducible refine (rput_no (S1.out.on ((Below.refl _ _).alloc (Nat.le_refl _) _)) (by omega) HF.out).mono ?_); rintro e w2 ⟨a2, q2, c2, rfl, k2⟩; have K2 : Hid (Below w.heap.size w w2) := (below_on (low_alloc K1.out _) k2); clear k2 KK; have KK := K2) | (go_at_call 40; (with_reducible refine (rwhole_t H.out (by omega) fi0 fi1 HTK.out HWF.out HQ.out).mono ?_); rintro e w1 ⟨a1, c1, rfl, r1, k1⟩; have S1 := hide (SlI.row r1 HQ.out (by omega)); have K1 := hide k1; clear r1 k1 KK; have KK := K1) | fail)
              go_ret2
              exact din_no HR.out RX.out KX.out
            · go_enter Try.func15, Try.ntmps15
              go_wp2_with (first | (go_at_call 39; (with_reducible refine (HCA.out _ (by first | (with_reducible exact KK.out) | (with_reducible exact low_alloc KK.out _))).mono ?_); rintro e x1 ⟨y1, d1, rfl, r1, k1, -⟩; have RX := hide r1; have KX := hide k1; clear r1 k1) | (go_at_call 41; (with_reducible refine (rput_no (S1.out.on ((Below.refl _ _).alloc (Nat.le_refl _) _)) (by omega) HF.out).mono ?_); rintro e w2 ⟨a2, q2, c2, rfl, k2⟩; have K2 : Hid (Below w.heap.size w w2) := (below_on (low_alloc K1.out _) k2); clear k2 KK; have KK := K2) | (go_at_call 40; (with_reducible refine (rwhole_t H.out (by omega) fi0 fi1 HTK.out HWF.out HQ.out).mono ?_); rintro e w1 ⟨a1, c1, rfl, r1, k1⟩; have S1 := hide (SlI.row r1 HQ.out (by omega)); have K1 := hide k1; clear r1 k1 KK; have KK := K1) | fail)
              go_ret2
              exact din_no HR.out RX.out KX.out
          | true =>
            obtain ⟨PL, hPL⟩ : ∃ L, putL true it (outM true it V) j.toNat k.toNat = L := ⟨_, rfl⟩
            have HPL := hide hPL
            have HPN : Hid (q + visN true = n) := hqn
            have HR : Hid (pairM V i j k = (PL, true)) := by
              show _ = _
              rw [hpa, H.out.len, ← hfr, if_pos ⟨rfl, (by rcases hkk with h9 | h9; exact .inl (by simpa using h9); exact .inr (by simpa using h9.2)), hc2, hc3⟩, ← hPL]
              unfold putL
              rw [if_pos rfl, out_oth]
            clear hpa hwf hz hq htk hc2 hc3 hqn hf hfr hPL
            rcases hkk with y1 | ⟨y1, y2⟩
            · go_enter Try.func15, Try.ntmps15
              go_wp2_with (first | (go_at_call 41; (with_reducible refine (rput_yes (S1.out.on ((Below.refl _ _).alloc (Nat.le_refl _) _)) (by omega) HF.out HPN.out HPL.out).mono ?_); rintro e w2 ⟨a2, c2, rfl, r2, k2⟩; have R2 : Hid (VRow w2 w.heap.size (.slice a2 n c2) PL) := (own_mono r2 (low_alloc K1.out (.cells #[.bool true, .int .i64 it] 67)).size); have K2 : Hid (Below w.heap.size w w2) := (below_on (low_alloc K1.out _) k2); clear r2 k2 KK; have KK := K2) | (go_at_call 40; (with_reducible refine (rwhole_t H.out (by omega) fi0 fi1 HTK.out HWF.out HQ.out).mono ?_); rintro e w1 ⟨a1, c1, rfl, r1, k1⟩; have S1 := hide (SlI.row r1 HQ.out (by omega)); have K1 := hide k1; clear r1 k1 KK; have KK := K1) | fail)
              go_ret2
              exact din_yes HR.out R2.out K2.out
            · go_enter Try.func15, Try.ntmps15
              go_wp2_with (first | (go_at_call 41; (with_reducible refine (rput_yes (S1.out.on ((Below.refl _ _).alloc (Nat.le_refl _) _)) (by omega) HF.out HPN.out HPL.out).mono ?_); rintro e w2 ⟨a2, c2, rfl, r2, k2⟩; have R2 : Hid (VRow w2 w.heap.size (.slice a2 n c2) PL) := (own_mono r2 (low_alloc K1.out (.cells #[.bool true, .int .i64 it] 67)).size); have K2 : Hid (Below w.heap.size w w2) := (below_on (low_alloc K1.out _) k2); clear r2 k2 KK; have KK := K2) | (go_at_call 40; (with_reducible refine (rwhole_t H.out (by omega) fi0 fi1 HTK.out HWF.out HQ.out).mono ?_); rintro e w1 ⟨a1, c1, rfl, r1, k1⟩; have S1 := hide (SlI.row r1 HQ.out (by omega)); have K1 := hide k1; clear r1 k1 KK; have KK := K1) | fail)
              go_ret2
              exact din_yes HR.out R2.out K2.out
      · have y1 : (kd == 2) = false := by simp; exact fun e => hk (.inl e)
        have y2 : (kd == 3) = false := by simp; exact fun e => hk (.inr e)
        have HR : Hid (pairM V i j k = (V, false)) := by show _ = _; rw [hpa, if_neg (fun h8 => hk h8.2.1)]
        clear hpa hu hk hbl ha
        go_enter Try.func15, Try.ntmps15
        go_wp2_with (first | (go_at_call 39; (with_reducible refine (HCA.out _ (by first | (with_reducible exact KK.out) | (with_reducible exact low_alloc KK.out _))).mono ?_); rintro e x1 ⟨y1, d1, rfl, r1, k1, -⟩; have RX := hide r1; have KX := hide k1; clear r1 k1) | fail)
        go_ret2
        exact din_no HR.out RX.out KX.out
end Go.Proofs.Ytdnkmjafkpnliaa
