/-
  What the call of model.Check does.
-/
import Derived.Test.YtgjpkpmikbpcnaaAlls
import Derived.Test.YtgjpkpmikbpcnaaMatW
namespace Go.Proofs.Ytgjpkpmikbpcnaa
open Go.RowKit

theorem checkM_eq {p : Prb} {b1 b2 b3 bf b4 b5 b6 : Bool} (h1 : dimB p = b1) (h2 : matB p.time.n p.time = b2) (h3 : matB p.time.n p.dist = b3) (hf : fewB p = bf) (h4 : p.vs.all (vehB p.dims p.time.n) = b4) (h5 : p.js.all (jobB p.dims p.time.n) = b5) (h6 : p.ss.all (shpB p.dims p.time.n) = b6) :
    checkM p = if (b1 && b2 && b3) = false then 2 else if bf = false then 27 else if (b4 && b5 && b6) = false then 2 else 0 := by
  unfold checkM allB
  rw [h1, h2, h3, hf, h4, h5, h6]
theorem dimB_in {p : Prb} (h : dimB p = true) : 1 ≤ p.time.n ∧ p.time.n ≤ 32 ∧ 0 ≤ p.dims ∧ p.dims ≤ 3 := by
  unfold dimB at h
  rw [Bool.and_eq_true] at h
  have h1 := upB_iff.1 h.1
  have h2 := of_decide_eq_true h.2
  omega
theorem few_yes {p : Prb} (h : fewB p = true) : p.vs.length ≤ 4 ∧ p.js.length + p.ss.length ≤ 12 := of_decide_eq_true h
theorem few_no {p : Prb} (h : fewB p = false) : ¬ (p.vs.length ≤ 4 ∧ p.js.length + p.ss.length ≤ 12) := of_decide_eq_false h
/-- The slices of a problem, written out. -/
theorem PrbV.open {w : World} {x : PrbS} {p : Prb} (h : PrbV w x p) : ∃ ta tc da dc va vc ja jc sa sc, x = ⟨.slice ta p.time.cells.length tc, .slice da p.dist.cells.length dc, .slice va p.vs.length vc, .slice ja p.js.length jc, .slice sa p.ss.length sc⟩ := by
  obtain ⟨ta, tc, h1⟩ := h.t.shape
  obtain ⟨da, dc, h2⟩ := h.d.shape
  obtain ⟨va, vc, h3⟩ := SlV.shape h.v
  obtain ⟨ja, jc, h4⟩ := SlV.shape h.j
  obtain ⟨sa, sc, h5⟩ := SlV.shape h.s
  obtain ⟨x1, x2, x3, x4, x5⟩ := x
  simp only at h1 h2 h3 h4 h5
  exact ⟨ta, tc, da, dc, va, vc, ja, jc, sa, sc, by rw [h1, h2, h3, h4, h5]⟩
theorem SlV.bound {α : Type} {z y : Nat} {zero : α} {V : World → List Value → α → Prop} {w : World} {v : Value} {L : List α} (h : SlV z y zero V w v L) : L.length * y ≤ 140737488351232 := by
  obtain ⟨_, _, _, _, h, _⟩ := h
  exact h
theorem IntsV.bound {w : World} {v : Value} {L : List Int} (h : IntsV w v L) : L.length * 8 ≤ 140737488351232 := by
  obtain ⟨_, _, _, _, h, _⟩ := h
  exact h
set_option maxRecDepth 100000 in
set_option maxHeartbeats 3200000 in
theorem check_any {w : World} {x : PrbS} {p : Prb} (h : PrbV w x p) : Calls Try.prog 34 #[.agg (prbE p x)] w fun e w' => e = .returned (.int .i64 (checkM p)) ∧ Below w.heap.size w w' := by
  obtain ⟨ta, tc, da, dc, va, vc, ja, jc, sa, sc, rfl⟩ := h.open
  have HP := hide h
  have hv := SlV.bound h.v
  have hj := SlV.bound h.j
  have hs := SlV.bound h.s
  have HB0 : Hid (∀ A B, Below w.heap.size w ((w.alloc A).alloc B)) := fun A B => ((Below.refl _ _).alloc (Nat.le_refl _) A).alloc (by simp) B
  clear h
  obtain ⟨b1, h1⟩ : ∃ b, dimB p = b := ⟨_, rfl⟩
  obtain ⟨b2, h2⟩ : ∃ b, matB p.time.n p.time = b := ⟨_, rfl⟩
  obtain ⟨b3, h3⟩ : ∃ b, matB p.time.n p.dist = b := ⟨_, rfl⟩
  obtain ⟨bf, hf⟩ : ∃ b, fewB p = b := ⟨_, rfl⟩
  obtain ⟨b4, h4⟩ : ∃ b, p.vs.all (vehB p.dims p.time.n) = b := ⟨_, rfl⟩
  obtain ⟨b5, h5⟩ : ∃ b, p.js.all (jobB p.dims p.time.n) = b := ⟨_, rfl⟩
  obtain ⟨b6, h6⟩ : ∃ b, p.ss.all (shpB p.dims p.time.n) = b := ⟨_, rfl⟩
  have HC := hide (checkM_eq h1 h2 h3 hf h4 h5 h6)
  have HN0 : Hid (b1 = true → 1 ≤ p.time.n ∧ p.time.n ≤ 32 ∧ 0 ≤ p.dims ∧ p.dims ≤ 3) := fun e => dimB_in (h1.trans e)
  have HFY : Hid (bf = true → p.vs.length ≤ 4 ∧ p.js.length + p.ss.length ≤ 12) := fun e => few_yes (hf.trans e)
  have HFN : Hid (bf = false → ¬ (p.vs.length ≤ 4 ∧ p.js.length + p.ss.length ≤ 12)) := fun e => few_no (hf.trans e)
  have H1 := hide h1
  have H2 := hide h2
  have H3 := hide h3
  have H4 := hide h4
  have H5 := hide h5
  have H6 := hide h6
  unfold prbE
  unfold dimB at H1
  obtain ⟨d, ⟨n, tL⟩, ⟨dn, dL⟩, vL, jL, sL⟩ := p
  simp only at HP hv hj hs HC HN0 HFY HFN H1 H2 H3 H4 H5 H6 ⊢
  obtain ⟨lt, hlt⟩ : ∃ k, tL.length = k := ⟨_, rfl⟩
  obtain ⟨ld, hld⟩ : ∃ k, dL.length = k := ⟨_, rfl⟩
  obtain ⟨lv, hlv⟩ : ∃ k, vL.length = k := ⟨_, rfl⟩
  obtain ⟨lj, hlj⟩ : ∃ k, jL.length = k := ⟨_, rfl⟩
  obtain ⟨ls, hls⟩ : ∃ k, sL.length = k := ⟨_, rfl⟩
  rw [hlt, hld, hlv, hlj, hls] at HP
  rw [hlv] at hv
  rw [hlj] at hj
  rw [hls] at hs
  rw [hlv, hlj, hls] at HFY HFN
  rw [hlt, hld, hlv, hlj, hls]
  clear h1 h2 h3 hf h4 h5 h6 hlt hld hlv hlj hls
  cases b1 with
  | false =>
    go_enter Try.func34, Try.ntmps34
    go_wp2_with (first
      | (go_at_call 66; refine (all_shps _ _ (HP.out.on (below_on (HB0.out _ _) K5.out)).s).mono ?_; rintro e w6 ⟨rfl, k6⟩; rw [H6.out]; have K6 := hide (below_on K5.out k6); obtain ⟨hc6, hf6⟩ := bcell K6.out; clear k6 hc5 hf5)
      | (go_at_call 64; refine (all_jobs _ _ (HP.out.on (below_on (HB0.out _ _) K4.out)).j).mono ?_; rintro e w5 ⟨rfl, k5⟩; rw [H5.out]; have K5 := hide (below_on K4.out k5); obtain ⟨hc5, hf5⟩ := bcell K5.out; clear k5 hc4 hf4)
      | (go_at_call 62; refine (all_vehs _ _ (HP.out.on (below_on (HB0.out _ _) K3.out)).v).mono ?_; rintro e w4 ⟨rfl, k4⟩; rw [H4.out]; have K4 := hide (below_on K3.out k4); obtain ⟨hc4, hf4⟩ := bcell K4.out; clear k4 hc3 hf3)
      | (go_at_call 61; refine (matrix_any (m := ⟨dn, dL⟩) _ _ (HP.out.on (below_on (HB0.out _ _) K2.out)).d HN.out.1 HN.out.2.1).mono ?_; rintro e w3 ⟨rfl, k3⟩; rw [H3.out]; have K3 := hide (below_on K2.out k3); obtain ⟨hc3, hf3⟩ := bcell K3.out; clear k3 hc2 hf2)
      | (go_at_call 61; refine (matrix_any (m := ⟨n, tL⟩) _ _ (HP.out.on (below_on (HB0.out _ _) K1.out)).t HN.out.1 HN.out.2.1).mono ?_; rintro e w2 ⟨rfl, k2⟩; rw [H2.out]; have K2 := hide (below_on K1.out k2); obtain ⟨hc2, hf2⟩ := bcell K2.out; clear k2 hc1 hf1)
      | (go_at_call 60; refine (lawful_any _ _ _).mono ?_; rintro e w1 ⟨rfl, k1⟩; rw [H1.out]; obtain ⟨hc1, hf1⟩ := bcell k1; have K1 := hide k1; clear k1))
    go_ret
    first
      | exact ⟨by rw [HC.out]; rfl, below_on (HB0.out _ _) K6.out⟩
      | exact ⟨by rw [HC.out]; rfl, below_on (HB0.out _ _) K5.out⟩
      | exact ⟨by rw [HC.out]; rfl, below_on (HB0.out _ _) K4.out⟩
      | exact ⟨by rw [HC.out]; rfl, below_on (HB0.out _ _) K3.out⟩
      | exact ⟨by rw [HC.out]; rfl, below_on (HB0.out _ _) K2.out⟩
      | exact ⟨by rw [HC.out]; rfl, below_on (HB0.out _ _) K1.out⟩
  | true =>
    have HN : Hid (1 ≤ n ∧ n ≤ 32 ∧ 0 ≤ d ∧ d ≤ 3) := HN0.out rfl
    cases b2 with
    | false =>
      go_enter Try.func34, Try.ntmps34
      go_wp2_with (first
        | (go_at_call 66; refine (all_shps _ _ (HP.out.on (below_on (HB0.out _ _) K5.out)).s).mono ?_; rintro e w6 ⟨rfl, k6⟩; rw [H6.out]; have K6 := hide (below_on K5.out k6); obtain ⟨hc6, hf6⟩ := bcell K6.out; clear k6 hc5 hf5)
        | (go_at_call 64; refine (all_jobs _ _ (HP.out.on (below_on (HB0.out _ _) K4.out)).j).mono ?_; rintro e w5 ⟨rfl, k5⟩; rw [H5.out]; have K5 := hide (below_on K4.out k5); obtain ⟨hc5, hf5⟩ := bcell K5.out; clear k5 hc4 hf4)
        | (go_at_call 62; refine (all_vehs _ _ (HP.out.on (below_on (HB0.out _ _) K3.out)).v).mono ?_; rintro e w4 ⟨rfl, k4⟩; rw [H4.out]; have K4 := hide (below_on K3.out k4); obtain ⟨hc4, hf4⟩ := bcell K4.out; clear k4 hc3 hf3)
        | (go_at_call 61; refine (matrix_any (m := ⟨dn, dL⟩) _ _ (HP.out.on (below_on (HB0.out _ _) K2.out)).d HN.out.1 HN.out.2.1).mono ?_; rintro e w3 ⟨rfl, k3⟩; rw [H3.out]; have K3 := hide (below_on K2.out k3); obtain ⟨hc3, hf3⟩ := bcell K3.out; clear k3 hc2 hf2)
        | (go_at_call 61; refine (matrix_any (m := ⟨n, tL⟩) _ _ (HP.out.on (below_on (HB0.out _ _) K1.out)).t HN.out.1 HN.out.2.1).mono ?_; rintro e w2 ⟨rfl, k2⟩; rw [H2.out]; have K2 := hide (below_on K1.out k2); obtain ⟨hc2, hf2⟩ := bcell K2.out; clear k2 hc1 hf1)
        | (go_at_call 60; refine (lawful_any _ _ _).mono ?_; rintro e w1 ⟨rfl, k1⟩; rw [H1.out]; obtain ⟨hc1, hf1⟩ := bcell k1; have K1 := hide k1; clear k1))
      go_ret
      first
        | exact ⟨by rw [HC.out]; rfl, below_on (HB0.out _ _) K6.out⟩
        | exact ⟨by rw [HC.out]; rfl, below_on (HB0.out _ _) K5.out⟩
        | exact ⟨by rw [HC.out]; rfl, below_on (HB0.out _ _) K4.out⟩
        | exact ⟨by rw [HC.out]; rfl, below_on (HB0.out _ _) K3.out⟩
        | exact ⟨by rw [HC.out]; rfl, below_on (HB0.out _ _) K2.out⟩
        | exact ⟨by rw [HC.out]; rfl, below_on (HB0.out _ _) K1.out⟩
    | true =>
      cases b3 with
      | false =>
        go_enter Try.func34, Try.ntmps34
        go_wp2_with (first
          | (go_at_call 66; refine (all_shps _ _ (HP.out.on (below_on (HB0.out _ _) K5.out)).s).mono ?_; rintro e w6 ⟨rfl, k6⟩; rw [H6.out]; have K6 := hide (below_on K5.out k6); obtain ⟨hc6, hf6⟩ := bcell K6.out; clear k6 hc5 hf5)
          | (go_at_call 64; refine (all_jobs _ _ (HP.out.on (below_on (HB0.out _ _) K4.out)).j).mono ?_; rintro e w5 ⟨rfl, k5⟩; rw [H5.out]; have K5 := hide (below_on K4.out k5); obtain ⟨hc5, hf5⟩ := bcell K5.out; clear k5 hc4 hf4)
          | (go_at_call 62; refine (all_vehs _ _ (HP.out.on (below_on (HB0.out _ _) K3.out)).v).mono ?_; rintro e w4 ⟨rfl, k4⟩; rw [H4.out]; have K4 := hide (below_on K3.out k4); obtain ⟨hc4, hf4⟩ := bcell K4.out; clear k4 hc3 hf3)
          | (go_at_call 61; refine (matrix_any (m := ⟨dn, dL⟩) _ _ (HP.out.on (below_on (HB0.out _ _) K2.out)).d HN.out.1 HN.out.2.1).mono ?_; rintro e w3 ⟨rfl, k3⟩; rw [H3.out]; have K3 := hide (below_on K2.out k3); obtain ⟨hc3, hf3⟩ := bcell K3.out; clear k3 hc2 hf2)
          | (go_at_call 61; refine (matrix_any (m := ⟨n, tL⟩) _ _ (HP.out.on (below_on (HB0.out _ _) K1.out)).t HN.out.1 HN.out.2.1).mono ?_; rintro e w2 ⟨rfl, k2⟩; rw [H2.out]; have K2 := hide (below_on K1.out k2); obtain ⟨hc2, hf2⟩ := bcell K2.out; clear k2 hc1 hf1)
          | (go_at_call 60; refine (lawful_any _ _ _).mono ?_; rintro e w1 ⟨rfl, k1⟩; rw [H1.out]; obtain ⟨hc1, hf1⟩ := bcell k1; have K1 := hide k1; clear k1))
        go_ret
        first
          | exact ⟨by rw [HC.out]; rfl, below_on (HB0.out _ _) K6.out⟩
          | exact ⟨by rw [HC.out]; rfl, below_on (HB0.out _ _) K5.out⟩
          | exact ⟨by rw [HC.out]; rfl, below_on (HB0.out _ _) K4.out⟩
          | exact ⟨by rw [HC.out]; rfl, below_on (HB0.out _ _) K3.out⟩
          | exact ⟨by rw [HC.out]; rfl, below_on (HB0.out _ _) K2.out⟩
          | exact ⟨by rw [HC.out]; rfl, below_on (HB0.out _ _) K1.out⟩
      | true =>
        cases bf with
        | false =>
          by_cases i1 : (4 : Int) < (lv : Int)
          · clear HFN HFY
            go_enter Try.func34, Try.ntmps34
            go_wp2_with (first
              | (go_at_call 66; refine (all_shps _ _ (HP.out.on (below_on (HB0.out _ _) K5.out)).s).mono ?_; rintro e w6 ⟨rfl, k6⟩; rw [H6.out]; have K6 := hide (below_on K5.out k6); obtain ⟨hc6, hf6⟩ := bcell K6.out; clear k6 hc5 hf5)
              | (go_at_call 64; refine (all_jobs _ _ (HP.out.on (below_on (HB0.out _ _) K4.out)).j).mono ?_; rintro e w5 ⟨rfl, k5⟩; rw [H5.out]; have K5 := hide (below_on K4.out k5); obtain ⟨hc5, hf5⟩ := bcell K5.out; clear k5 hc4 hf4)
              | (go_at_call 62; refine (all_vehs _ _ (HP.out.on (below_on (HB0.out _ _) K3.out)).v).mono ?_; rintro e w4 ⟨rfl, k4⟩; rw [H4.out]; have K4 := hide (below_on K3.out k4); obtain ⟨hc4, hf4⟩ := bcell K4.out; clear k4 hc3 hf3)
              | (go_at_call 61; refine (matrix_any (m := ⟨dn, dL⟩) _ _ (HP.out.on (below_on (HB0.out _ _) K2.out)).d HN.out.1 HN.out.2.1).mono ?_; rintro e w3 ⟨rfl, k3⟩; rw [H3.out]; have K3 := hide (below_on K2.out k3); obtain ⟨hc3, hf3⟩ := bcell K3.out; clear k3 hc2 hf2)
              | (go_at_call 61; refine (matrix_any (m := ⟨n, tL⟩) _ _ (HP.out.on (below_on (HB0.out _ _) K1.out)).t HN.out.1 HN.out.2.1).mono ?_; rintro e w2 ⟨rfl, k2⟩; rw [H2.out]; have K2 := hide (below_on K1.out k2); obtain ⟨hc2, hf2⟩ := bcell K2.out; clear k2 hc1 hf1)
              | (go_at_call 60; refine (lawful_any _ _ _).mono ?_; rintro e w1 ⟨rfl, k1⟩; rw [H1.out]; obtain ⟨hc1, hf1⟩ := bcell k1; have K1 := hide k1; clear k1))
            go_ret
            first
              | exact ⟨by rw [HC.out]; rfl, below_on (HB0.out _ _) K6.out⟩
              | exact ⟨by rw [HC.out]; rfl, below_on (HB0.out _ _) K5.out⟩
              | exact ⟨by rw [HC.out]; rfl, below_on (HB0.out _ _) K4.out⟩
              | exact ⟨by rw [HC.out]; rfl, below_on (HB0.out _ _) K3.out⟩
              | exact ⟨by rw [HC.out]; rfl, below_on (HB0.out _ _) K2.out⟩
              | exact ⟨by rw [HC.out]; rfl, below_on (HB0.out _ _) K1.out⟩
          · have i2 : (12 : Int) < (lj : Int) + (ls : Int) := by have := HFN.out rfl; omega
            clear HFN HFY
            go_enter Try.func34, Try.ntmps34
            go_wp2_with (first
              | (go_at_call 66; refine (all_shps _ _ (HP.out.on (below_on (HB0.out _ _) K5.out)).s).mono ?_; rintro e w6 ⟨rfl, k6⟩; rw [H6.out]; have K6 := hide (below_on K5.out k6); obtain ⟨hc6, hf6⟩ := bcell K6.out; clear k6 hc5 hf5)
              | (go_at_call 64; refine (all_jobs _ _ (HP.out.on (below_on (HB0.out _ _) K4.out)).j).mono ?_; rintro e w5 ⟨rfl, k5⟩; rw [H5.out]; have K5 := hide (below_on K4.out k5); obtain ⟨hc5, hf5⟩ := bcell K5.out; clear k5 hc4 hf4)
              | (go_at_call 62; refine (all_vehs _ _ (HP.out.on (below_on (HB0.out _ _) K3.out)).v).mono ?_; rintro e w4 ⟨rfl, k4⟩; rw [H4.out]; have K4 := hide (below_on K3.out k4); obtain ⟨hc4, hf4⟩ := bcell K4.out; clear k4 hc3 hf3)
              | (go_at_call 61; refine (matrix_any (m := ⟨dn, dL⟩) _ _ (HP.out.on (below_on (HB0.out _ _) K2.out)).d HN.out.1 HN.out.2.1).mono ?_; rintro e w3 ⟨rfl, k3⟩; rw [H3.out]; have K3 := hide (below_on K2.out k3); obtain ⟨hc3, hf3⟩ := bcell K3.out; clear k3 hc2 hf2)
              | (go_at_call 61; refine (matrix_any (m := ⟨n, tL⟩) _ _ (HP.out.on (below_on (HB0.out _ _) K1.out)).t HN.out.1 HN.out.2.1).mono ?_; rintro e w2 ⟨rfl, k2⟩; rw [H2.out]; have K2 := hide (below_on K1.out k2); obtain ⟨hc2, hf2⟩ := bcell K2.out; clear k2 hc1 hf1)
              | (go_at_call 60; refine (lawful_any _ _ _).mono ?_; rintro e w1 ⟨rfl, k1⟩; rw [H1.out]; obtain ⟨hc1, hf1⟩ := bcell k1; have K1 := hide k1; clear k1))
            go_ret
            first
              | exact ⟨by rw [HC.out]; rfl, below_on (HB0.out _ _) K6.out⟩
              | exact ⟨by rw [HC.out]; rfl, below_on (HB0.out _ _) K5.out⟩
              | exact ⟨by rw [HC.out]; rfl, below_on (HB0.out _ _) K4.out⟩
              | exact ⟨by rw [HC.out]; rfl, below_on (HB0.out _ _) K3.out⟩
              | exact ⟨by rw [HC.out]; rfl, below_on (HB0.out _ _) K2.out⟩
              | exact ⟨by rw [HC.out]; rfl, below_on (HB0.out _ _) K1.out⟩
        | true =>
          have i1 : ¬ (4 : Int) < (lv : Int) := by have := HFY.out rfl; omega
          have i2 : ¬ (12 : Int) < (lj : Int) + (ls : Int) := by have := HFY.out rfl; omega
          clear HFN HFY
          cases b4 with
          | false =>
            go_enter Try.func34, Try.ntmps34
            go_wp2_with (first
              | (go_at_call 66; refine (all_shps _ _ (HP.out.on (below_on (HB0.out _ _) K5.out)).s).mono ?_; rintro e w6 ⟨rfl, k6⟩; rw [H6.out]; have K6 := hide (below_on K5.out k6); obtain ⟨hc6, hf6⟩ := bcell K6.out; clear k6 hc5 hf5)
              | (go_at_call 64; refine (all_jobs _ _ (HP.out.on (below_on (HB0.out _ _) K4.out)).j).mono ?_; rintro e w5 ⟨rfl, k5⟩; rw [H5.out]; have K5 := hide (below_on K4.out k5); obtain ⟨hc5, hf5⟩ := bcell K5.out; clear k5 hc4 hf4)
              | (go_at_call 62; refine (all_vehs _ _ (HP.out.on (below_on (HB0.out _ _) K3.out)).v).mono ?_; rintro e w4 ⟨rfl, k4⟩; rw [H4.out]; have K4 := hide (below_on K3.out k4); obtain ⟨hc4, hf4⟩ := bcell K4.out; clear k4 hc3 hf3)
              | (go_at_call 61; refine (matrix_any (m := ⟨dn, dL⟩) _ _ (HP.out.on (below_on (HB0.out _ _) K2.out)).d HN.out.1 HN.out.2.1).mono ?_; rintro e w3 ⟨rfl, k3⟩; rw [H3.out]; have K3 := hide (below_on K2.out k3); obtain ⟨hc3, hf3⟩ := bcell K3.out; clear k3 hc2 hf2)
              | (go_at_call 61; refine (matrix_any (m := ⟨n, tL⟩) _ _ (HP.out.on (below_on (HB0.out _ _) K1.out)).t HN.out.1 HN.out.2.1).mono ?_; rintro e w2 ⟨rfl, k2⟩; rw [H2.out]; have K2 := hide (below_on K1.out k2); obtain ⟨hc2, hf2⟩ := bcell K2.out; clear k2 hc1 hf1)
              | (go_at_call 60; refine (lawful_any _ _ _).mono ?_; rintro e w1 ⟨rfl, k1⟩; rw [H1.out]; obtain ⟨hc1, hf1⟩ := bcell k1; have K1 := hide k1; clear k1))
            go_ret
            first
              | exact ⟨by rw [HC.out]; rfl, below_on (HB0.out _ _) K6.out⟩
              | exact ⟨by rw [HC.out]; rfl, below_on (HB0.out _ _) K5.out⟩
              | exact ⟨by rw [HC.out]; rfl, below_on (HB0.out _ _) K4.out⟩
              | exact ⟨by rw [HC.out]; rfl, below_on (HB0.out _ _) K3.out⟩
              | exact ⟨by rw [HC.out]; rfl, below_on (HB0.out _ _) K2.out⟩
              | exact ⟨by rw [HC.out]; rfl, below_on (HB0.out _ _) K1.out⟩
          | true =>
            cases b5 with
            | false =>
              go_enter Try.func34, Try.ntmps34
              go_wp2_with (first
                | (go_at_call 66; refine (all_shps _ _ (HP.out.on (below_on (HB0.out _ _) K5.out)).s).mono ?_; rintro e w6 ⟨rfl, k6⟩; rw [H6.out]; have K6 := hide (below_on K5.out k6); obtain ⟨hc6, hf6⟩ := bcell K6.out; clear k6 hc5 hf5)
                | (go_at_call 64; refine (all_jobs _ _ (HP.out.on (below_on (HB0.out _ _) K4.out)).j).mono ?_; rintro e w5 ⟨rfl, k5⟩; rw [H5.out]; have K5 := hide (below_on K4.out k5); obtain ⟨hc5, hf5⟩ := bcell K5.out; clear k5 hc4 hf4)
                | (go_at_call 62; refine (all_vehs _ _ (HP.out.on (below_on (HB0.out _ _) K3.out)).v).mono ?_; rintro e w4 ⟨rfl, k4⟩; rw [H4.out]; have K4 := hide (below_on K3.out k4); obtain ⟨hc4, hf4⟩ := bcell K4.out; clear k4 hc3 hf3)
                | (go_at_call 61; refine (matrix_any (m := ⟨dn, dL⟩) _ _ (HP.out.on (below_on (HB0.out _ _) K2.out)).d HN.out.1 HN.out.2.1).mono ?_; rintro e w3 ⟨rfl, k3⟩; rw [H3.out]; have K3 := hide (below_on K2.out k3); obtain ⟨hc3, hf3⟩ := bcell K3.out; clear k3 hc2 hf2)
                | (go_at_call 61; refine (matrix_any (m := ⟨n, tL⟩) _ _ (HP.out.on (below_on (HB0.out _ _) K1.out)).t HN.out.1 HN.out.2.1).mono ?_; rintro e w2 ⟨rfl, k2⟩; rw [H2.out]; have K2 := hide (below_on K1.out k2); obtain ⟨hc2, hf2⟩ := bcell K2.out; clear k2 hc1 hf1)
                | (go_at_call 60; refine (lawful_any _ _ _).mono ?_; rintro e w1 ⟨rfl, k1⟩; rw [H1.out]; obtain ⟨hc1, hf1⟩ := bcell k1; have K1 := hide k1; clear k1))
              go_ret
              first
                | exact ⟨by rw [HC.out]; rfl, below_on (HB0.out _ _) K6.out⟩
                | exact ⟨by rw [HC.out]; rfl, below_on (HB0.out _ _) K5.out⟩
                | exact ⟨by rw [HC.out]; rfl, below_on (HB0.out _ _) K4.out⟩
                | exact ⟨by rw [HC.out]; rfl, below_on (HB0.out _ _) K3.out⟩
                | exact ⟨by rw [HC.out]; rfl, below_on (HB0.out _ _) K2.out⟩
                | exact ⟨by rw [HC.out]; rfl, below_on (HB0.out _ _) K1.out⟩
            | true =>
              cases b6 with
              | false =>
                go_enter Try.func34, Try.ntmps34
                go_wp2_with (first
                  | (go_at_call 66; refine (all_shps _ _ (HP.out.on (below_on (HB0.out _ _) K5.out)).s).mono ?_; rintro e w6 ⟨rfl, k6⟩; rw [H6.out]; have K6 := hide (below_on K5.out k6); obtain ⟨hc6, hf6⟩ := bcell K6.out; clear k6 hc5 hf5)
                  | (go_at_call 64; refine (all_jobs _ _ (HP.out.on (below_on (HB0.out _ _) K4.out)).j).mono ?_; rintro e w5 ⟨rfl, k5⟩; rw [H5.out]; have K5 := hide (below_on K4.out k5); obtain ⟨hc5, hf5⟩ := bcell K5.out; clear k5 hc4 hf4)
                  | (go_at_call 62; refine (all_vehs _ _ (HP.out.on (below_on (HB0.out _ _) K3.out)).v).mono ?_; rintro e w4 ⟨rfl, k4⟩; rw [H4.out]; have K4 := hide (below_on K3.out k4); obtain ⟨hc4, hf4⟩ := bcell K4.out; clear k4 hc3 hf3)
                  | (go_at_call 61; refine (matrix_any (m := ⟨dn, dL⟩) _ _ (HP.out.on (below_on (HB0.out _ _) K2.out)).d HN.out.1 HN.out.2.1).mono ?_; rintro e w3 ⟨rfl, k3⟩; rw [H3.out]; have K3 := hide (below_on K2.out k3); obtain ⟨hc3, hf3⟩ := bcell K3.out; clear k3 hc2 hf2)
                  | (go_at_call 61; refine (matrix_any (m := ⟨n, tL⟩) _ _ (HP.out.on (below_on (HB0.out _ _) K1.out)).t HN.out.1 HN.out.2.1).mono ?_; rintro e w2 ⟨rfl, k2⟩; rw [H2.out]; have K2 := hide (below_on K1.out k2); obtain ⟨hc2, hf2⟩ := bcell K2.out; clear k2 hc1 hf1)
                  | (go_at_call 60; refine (lawful_any _ _ _).mono ?_; rintro e w1 ⟨rfl, k1⟩; rw [H1.out]; obtain ⟨hc1, hf1⟩ := bcell k1; have K1 := hide k1; clear k1))
                go_ret
                first
                  | exact ⟨by rw [HC.out]; rfl, below_on (HB0.out _ _) K6.out⟩
                  | exact ⟨by rw [HC.out]; rfl, below_on (HB0.out _ _) K5.out⟩
                  | exact ⟨by rw [HC.out]; rfl, below_on (HB0.out _ _) K4.out⟩
                  | exact ⟨by rw [HC.out]; rfl, below_on (HB0.out _ _) K3.out⟩
                  | exact ⟨by rw [HC.out]; rfl, below_on (HB0.out _ _) K2.out⟩
                  | exact ⟨by rw [HC.out]; rfl, below_on (HB0.out _ _) K1.out⟩
              | true =>
                go_enter Try.func34, Try.ntmps34
                go_wp2_with (first
                  | (go_at_call 66; refine (all_shps _ _ (HP.out.on (below_on (HB0.out _ _) K5.out)).s).mono ?_; rintro e w6 ⟨rfl, k6⟩; rw [H6.out]; have K6 := hide (below_on K5.out k6); obtain ⟨hc6, hf6⟩ := bcell K6.out; clear k6 hc5 hf5)
                  | (go_at_call 64; refine (all_jobs _ _ (HP.out.on (below_on (HB0.out _ _) K4.out)).j).mono ?_; rintro e w5 ⟨rfl, k5⟩; rw [H5.out]; have K5 := hide (below_on K4.out k5); obtain ⟨hc5, hf5⟩ := bcell K5.out; clear k5 hc4 hf4)
                  | (go_at_call 62; refine (all_vehs _ _ (HP.out.on (below_on (HB0.out _ _) K3.out)).v).mono ?_; rintro e w4 ⟨rfl, k4⟩; rw [H4.out]; have K4 := hide (below_on K3.out k4); obtain ⟨hc4, hf4⟩ := bcell K4.out; clear k4 hc3 hf3)
                  | (go_at_call 61; refine (matrix_any (m := ⟨dn, dL⟩) _ _ (HP.out.on (below_on (HB0.out _ _) K2.out)).d HN.out.1 HN.out.2.1).mono ?_; rintro e w3 ⟨rfl, k3⟩; rw [H3.out]; have K3 := hide (below_on K2.out k3); obtain ⟨hc3, hf3⟩ := bcell K3.out; clear k3 hc2 hf2)
                  | (go_at_call 61; refine (matrix_any (m := ⟨n, tL⟩) _ _ (HP.out.on (below_on (HB0.out _ _) K1.out)).t HN.out.1 HN.out.2.1).mono ?_; rintro e w2 ⟨rfl, k2⟩; rw [H2.out]; have K2 := hide (below_on K1.out k2); obtain ⟨hc2, hf2⟩ := bcell K2.out; clear k2 hc1 hf1)
                  | (go_at_call 60; refine (lawful_any _ _ _).mono ?_; rintro e w1 ⟨rfl, k1⟩; rw [H1.out]; obtain ⟨hc1, hf1⟩ := bcell k1; have K1 := hide k1; clear k1))
                go_ret
                first
                  | exact ⟨by rw [HC.out]; rfl, below_on (HB0.out _ _) K6.out⟩
                  | exact ⟨by rw [HC.out]; rfl, below_on (HB0.out _ _) K5.out⟩
                  | exact ⟨by rw [HC.out]; rfl, below_on (HB0.out _ _) K4.out⟩
                  | exact ⟨by rw [HC.out]; rfl, below_on (HB0.out _ _) K3.out⟩
                  | exact ⟨by rw [HC.out]; rfl, below_on (HB0.out _ _) K2.out⟩
                  | exact ⟨by rw [HC.out]; rfl, below_on (HB0.out _ _) K1.out⟩
end Go.Proofs.Ytgjpkpmikbpcnaa
