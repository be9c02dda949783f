/-
  What the calls of job, shipment and vehicle do.
-/
import Derived.Test.YtgjpkpmikbpcnaaVehA
namespace Go.Proofs.Ytgjpkpmikbpcnaa
open Go.RowKit

set_option maxRecDepth 100000 in
set_option maxHeartbeats 3200000 in
theorem job_any {w : World} (n d : Int) {l : List Value} {j : Jb} (h : JobV w l j) : Calls Try.prog 65 #[.agg #[.int .i64 n, .int .i64 d], .agg l.toArray] w fun e w' => e = .returned (.bool (jobB d n j)) ∧ Below w.heap.size w w' := by
  obtain ⟨xw, xd, xp, rfl, hw, hd, hp, hs⟩ := h
  obtain ⟨wa, wc, rfl⟩ := hw.shape
  obtain ⟨da, dc, rfl⟩ := hd.shape
  obtain ⟨pa, pc, rfl⟩ := hp.shape
  have HW := hide hw
  have HD := hide hd
  have HP := hide hp
  have HS := hide hs
  have HB0 : Hid (∀ A B, Below w.heap.size w ((w.alloc A).alloc B)) := fun A B => ((Below.refl _ _).alloc (Nat.le_refl _) A).alloc (by simp) B
  unfold jobB jobE
  obtain ⟨s, s2, s3, s4, s5⟩ := j
  simp only at HW HD HP HS ⊢
  clear hw hd hp hs
  obtain ⟨b1, h1⟩ : ∃ b, stpB n s = b := ⟨_, rfl⟩
  have H1 := hide h1
  obtain ⟨b2, h2⟩ : ∃ b, amtB s2 d = b := ⟨_, rfl⟩
  have H2 := hide h2
  obtain ⟨b3, h3⟩ : ∃ b, amtB s3 d = b := ⟨_, rfl⟩
  have H3 := hide h3
  obtain ⟨b4, h4⟩ : ∃ b, sklB s4 = b := ⟨_, rfl⟩
  have H4 := hide h4
  obtain ⟨b5, h5⟩ : ∃ b, upB s5 100 = b := ⟨_, rfl⟩
  have H5 := hide h5
  rw [h1, h2, h3, h4, h5]
  clear h1 h2 h3 h4 h5
  obtain ⟨lw, hlw⟩ : ∃ lw, s.wins.length = lw := ⟨_, rfl⟩
  rw [hlw] at HW ⊢
  clear hlw
  cases b1 with
  | false =>
    go_enter Try.func65, Try.ntmps65
    go_wp2_with (first
      | (go_at_call 97; refine (priority_any _ _).mono ?_; rintro e w' ⟨rfl, rfl⟩; rw [H5.out])
      | (go_at_call 91; refine (valid_any HS.out _).mono ?_; rintro e w' ⟨rfl, rfl⟩; rw [H4.out])
      | (go_at_call 90; refine (amount_any _ _ (HP.out.on (below_on (HB0.out _ _) K2.out))).mono ?_; rintro e w3 ⟨rfl, k3⟩; rw [H3.out]; have K3 := hide (below_on K2.out k3); obtain ⟨hc3, hf3⟩ := bcell K3.out; clear k3 hc2 hf2)
      | (go_at_call 90; refine (amount_any _ _ (HD.out.on (below_on (HB0.out _ _) K1.out))).mono ?_; rintro e w2 ⟨rfl, k2⟩; rw [H2.out]; have K2 := hide (below_on K1.out k2); obtain ⟨hc2, hf2⟩ := bcell K2.out; clear k2 hc1 hf1)
      | (go_at_call 96; refine (stop_any (s := s) _ _ (HW.out.on (HB0.out _ _))).mono ?_; rintro e w1 ⟨rfl, k1⟩; rw [H1.out]; obtain ⟨hc1, hf1⟩ := bcell k1; have K1 := hide k1; clear k1))
    go_ret
    first
      | exact ⟨by simp, below_on (HB0.out _ _) K3.out⟩
      | exact ⟨by simp, below_on (HB0.out _ _) K2.out⟩
      | exact ⟨by simp, below_on (HB0.out _ _) K1.out⟩
  | true =>
    cases b2 with
    | false =>
      go_enter Try.func65, Try.ntmps65
      go_wp2_with (first
        | (go_at_call 97; refine (priority_any _ _).mono ?_; rintro e w' ⟨rfl, rfl⟩; rw [H5.out])
        | (go_at_call 91; refine (valid_any HS.out _).mono ?_; rintro e w' ⟨rfl, rfl⟩; rw [H4.out])
        | (go_at_call 90; refine (amount_any _ _ (HP.out.on (below_on (HB0.out _ _) K2.out))).mono ?_; rintro e w3 ⟨rfl, k3⟩; rw [H3.out]; have K3 := hide (below_on K2.out k3); obtain ⟨hc3, hf3⟩ := bcell K3.out; clear k3 hc2 hf2)
        | (go_at_call 90; refine (amount_any _ _ (HD.out.on (below_on (HB0.out _ _) K1.out))).mono ?_; rintro e w2 ⟨rfl, k2⟩; rw [H2.out]; have K2 := hide (below_on K1.out k2); obtain ⟨hc2, hf2⟩ := bcell K2.out; clear k2 hc1 hf1)
        | (go_at_call 96; refine (stop_any (s := s) _ _ (HW.out.on (HB0.out _ _))).mono ?_; rintro e w1 ⟨rfl, k1⟩; rw [H1.out]; obtain ⟨hc1, hf1⟩ := bcell k1; have K1 := hide k1; clear k1))
      go_ret
      first
        | exact ⟨by simp, below_on (HB0.out _ _) K3.out⟩
        | exact ⟨by simp, below_on (HB0.out _ _) K2.out⟩
        | exact ⟨by simp, below_on (HB0.out _ _) K1.out⟩
    | true =>
      cases b3 with
      | false =>
        go_enter Try.func65, Try.ntmps65
        go_wp2_with (first
          | (go_at_call 97; refine (priority_any _ _).mono ?_; rintro e w' ⟨rfl, rfl⟩; rw [H5.out])
          | (go_at_call 91; refine (valid_any HS.out _).mono ?_; rintro e w' ⟨rfl, rfl⟩; rw [H4.out])
          | (go_at_call 90; refine (amount_any _ _ (HP.out.on (below_on (HB0.out _ _) K2.out))).mono ?_; rintro e w3 ⟨rfl, k3⟩; rw [H3.out]; have K3 := hide (below_on K2.out k3); obtain ⟨hc3, hf3⟩ := bcell K3.out; clear k3 hc2 hf2)
          | (go_at_call 90; refine (amount_any _ _ (HD.out.on (below_on (HB0.out _ _) K1.out))).mono ?_; rintro e w2 ⟨rfl, k2⟩; rw [H2.out]; have K2 := hide (below_on K1.out k2); obtain ⟨hc2, hf2⟩ := bcell K2.out; clear k2 hc1 hf1)
          | (go_at_call 96; refine (stop_any (s := s) _ _ (HW.out.on (HB0.out _ _))).mono ?_; rintro e w1 ⟨rfl, k1⟩; rw [H1.out]; obtain ⟨hc1, hf1⟩ := bcell k1; have K1 := hide k1; clear k1))
        go_ret
        first
          | exact ⟨by simp, below_on (HB0.out _ _) K3.out⟩
          | exact ⟨by simp, below_on (HB0.out _ _) K2.out⟩
          | exact ⟨by simp, below_on (HB0.out _ _) K1.out⟩
      | true =>
        cases b4 with
        | false =>
          go_enter Try.func65, Try.ntmps65
          go_wp2_with (first
            | (go_at_call 97; refine (priority_any _ _).mono ?_; rintro e w' ⟨rfl, rfl⟩; rw [H5.out])
            | (go_at_call 91; refine (valid_any HS.out _).mono ?_; rintro e w' ⟨rfl, rfl⟩; rw [H4.out])
            | (go_at_call 90; refine (amount_any _ _ (HP.out.on (below_on (HB0.out _ _) K2.out))).mono ?_; rintro e w3 ⟨rfl, k3⟩; rw [H3.out]; have K3 := hide (below_on K2.out k3); obtain ⟨hc3, hf3⟩ := bcell K3.out; clear k3 hc2 hf2)
            | (go_at_call 90; refine (amount_any _ _ (HD.out.on (below_on (HB0.out _ _) K1.out))).mono ?_; rintro e w2 ⟨rfl, k2⟩; rw [H2.out]; have K2 := hide (below_on K1.out k2); obtain ⟨hc2, hf2⟩ := bcell K2.out; clear k2 hc1 hf1)
            | (go_at_call 96; refine (stop_any (s := s) _ _ (HW.out.on (HB0.out _ _))).mono ?_; rintro e w1 ⟨rfl, k1⟩; rw [H1.out]; obtain ⟨hc1, hf1⟩ := bcell k1; have K1 := hide k1; clear k1))
          go_ret
          first
            | exact ⟨by simp, below_on (HB0.out _ _) K3.out⟩
            | exact ⟨by simp, below_on (HB0.out _ _) K2.out⟩
            | exact ⟨by simp, below_on (HB0.out _ _) K1.out⟩
        | true =>
          go_enter Try.func65, Try.ntmps65
          go_wp2_with (first
            | (go_at_call 97; refine (priority_any _ _).mono ?_; rintro e w' ⟨rfl, rfl⟩; rw [H5.out])
            | (go_at_call 91; refine (valid_any HS.out _).mono ?_; rintro e w' ⟨rfl, rfl⟩; rw [H4.out])
            | (go_at_call 90; refine (amount_any _ _ (HP.out.on (below_on (HB0.out _ _) K2.out))).mono ?_; rintro e w3 ⟨rfl, k3⟩; rw [H3.out]; have K3 := hide (below_on K2.out k3); obtain ⟨hc3, hf3⟩ := bcell K3.out; clear k3 hc2 hf2)
            | (go_at_call 90; refine (amount_any _ _ (HD.out.on (below_on (HB0.out _ _) K1.out))).mono ?_; rintro e w2 ⟨rfl, k2⟩; rw [H2.out]; have K2 := hide (below_on K1.out k2); obtain ⟨hc2, hf2⟩ := bcell K2.out; clear k2 hc1 hf1)
            | (go_at_call 96; refine (stop_any (s := s) _ _ (HW.out.on (HB0.out _ _))).mono ?_; rintro e w1 ⟨rfl, k1⟩; rw [H1.out]; obtain ⟨hc1, hf1⟩ := bcell k1; have K1 := hide k1; clear k1))
          go_ret
          first
            | exact ⟨by simp, below_on (HB0.out _ _) K3.out⟩
            | exact ⟨by simp, below_on (HB0.out _ _) K2.out⟩
            | exact ⟨by simp, below_on (HB0.out _ _) K1.out⟩
set_option maxRecDepth 100000 in
set_option maxHeartbeats 3200000 in
theorem shipment_any {w : World} (n d : Int) {l : List Value} {j : Shp} (h : ShpV w l j) : Calls Try.prog 67 #[.agg #[.int .i64 n, .int .i64 d], .agg l.toArray] w fun e w' => e = .returned (.bool (shpB d n j)) ∧ Below w.heap.size w w' := by
  obtain ⟨xw, xd, xp, rfl, hw, hd, hp, hs⟩ := h
  obtain ⟨wa, wc, rfl⟩ := hw.shape
  obtain ⟨da, dc, rfl⟩ := hd.shape
  obtain ⟨pa, pc, rfl⟩ := hp.shape
  have HW := hide hw
  have HD := hide hd
  have HP := hide hp
  have HS := hide hs
  have HB0 : Hid (∀ A B, Below w.heap.size w ((w.alloc A).alloc B)) := fun A B => ((Below.refl _ _).alloc (Nat.le_refl _) A).alloc (by simp) B
  unfold shpB shpE
  obtain ⟨s, s2, s3, s4, s5⟩ := j
  simp only at HW HD HP HS ⊢
  clear hw hd hp hs
  obtain ⟨b1, h1⟩ : ∃ b, stpB n s = b := ⟨_, rfl⟩
  have H1 := hide h1
  obtain ⟨b2, h2⟩ : ∃ b, stpB n s2 = b := ⟨_, rfl⟩
  have H2 := hide h2
  obtain ⟨b3, h3⟩ : ∃ b, amtB s3 d = b := ⟨_, rfl⟩
  have H3 := hide h3
  obtain ⟨b4, h4⟩ : ∃ b, sklB s4 = b := ⟨_, rfl⟩
  have H4 := hide h4
  obtain ⟨b5, h5⟩ : ∃ b, upB s5 100 = b := ⟨_, rfl⟩
  have H5 := hide h5
  rw [h1, h2, h3, h4, h5]
  clear h1 h2 h3 h4 h5
  cases b1 with
  | false =>
    go_enter Try.func67, Try.ntmps67
    go_wp2_with (first
      | (go_at_call 97; refine (priority_any _ _).mono ?_; rintro e w' ⟨rfl, rfl⟩; rw [H5.out])
      | (go_at_call 91; refine (valid_any HS.out _).mono ?_; rintro e w' ⟨rfl, rfl⟩; rw [H4.out])
      | (go_at_call 90; refine (amount_any _ _ (HP.out.on (below_on (HB0.out _ _) K2.out))).mono ?_; rintro e w3 ⟨rfl, k3⟩; rw [H3.out]; have K3 := hide (below_on K2.out k3); obtain ⟨hc3, hf3⟩ := bcell K3.out; clear k3 hc2 hf2)
      | (go_at_call 96; refine (stop_any (s := s2) _ _ (HD.out.on (below_on (HB0.out _ _) K1.out))).mono ?_; rintro e w2 ⟨rfl, k2⟩; rw [H2.out]; have K2 := hide (below_on K1.out k2); obtain ⟨hc2, hf2⟩ := bcell K2.out; clear k2 hc1 hf1)
      | (go_at_call 96; refine (stop_any (s := s) _ _ (HW.out.on (HB0.out _ _))).mono ?_; rintro e w1 ⟨rfl, k1⟩; rw [H1.out]; obtain ⟨hc1, hf1⟩ := bcell k1; have K1 := hide k1; clear k1))
    go_ret
    first
      | exact ⟨by simp, below_on (HB0.out _ _) K3.out⟩
      | exact ⟨by simp, below_on (HB0.out _ _) K2.out⟩
      | exact ⟨by simp, below_on (HB0.out _ _) K1.out⟩
  | true =>
    cases b2 with
    | false =>
      go_enter Try.func67, Try.ntmps67
      go_wp2_with (first
        | (go_at_call 97; refine (priority_any _ _).mono ?_; rintro e w' ⟨rfl, rfl⟩; rw [H5.out])
        | (go_at_call 91; refine (valid_any HS.out _).mono ?_; rintro e w' ⟨rfl, rfl⟩; rw [H4.out])
        | (go_at_call 90; refine (amount_any _ _ (HP.out.on (below_on (HB0.out _ _) K2.out))).mono ?_; rintro e w3 ⟨rfl, k3⟩; rw [H3.out]; have K3 := hide (below_on K2.out k3); obtain ⟨hc3, hf3⟩ := bcell K3.out; clear k3 hc2 hf2)
        | (go_at_call 96; refine (stop_any (s := s2) _ _ (HD.out.on (below_on (HB0.out _ _) K1.out))).mono ?_; rintro e w2 ⟨rfl, k2⟩; rw [H2.out]; have K2 := hide (below_on K1.out k2); obtain ⟨hc2, hf2⟩ := bcell K2.out; clear k2 hc1 hf1)
        | (go_at_call 96; refine (stop_any (s := s) _ _ (HW.out.on (HB0.out _ _))).mono ?_; rintro e w1 ⟨rfl, k1⟩; rw [H1.out]; obtain ⟨hc1, hf1⟩ := bcell k1; have K1 := hide k1; clear k1))
      go_ret
      first
        | exact ⟨by simp, below_on (HB0.out _ _) K3.out⟩
        | exact ⟨by simp, below_on (HB0.out _ _) K2.out⟩
        | exact ⟨by simp, below_on (HB0.out _ _) K1.out⟩
    | true =>
      cases b3 with
      | false =>
        go_enter Try.func67, Try.ntmps67
        go_wp2_with (first
          | (go_at_call 97; refine (priority_any _ _).mono ?_; rintro e w' ⟨rfl, rfl⟩; rw [H5.out])
          | (go_at_call 91; refine (valid_any HS.out _).mono ?_; rintro e w' ⟨rfl, rfl⟩; rw [H4.out])
          | (go_at_call 90; refine (amount_any _ _ (HP.out.on (below_on (HB0.out _ _) K2.out))).mono ?_; rintro e w3 ⟨rfl, k3⟩; rw [H3.out]; have K3 := hide (below_on K2.out k3); obtain ⟨hc3, hf3⟩ := bcell K3.out; clear k3 hc2 hf2)
          | (go_at_call 96; refine (stop_any (s := s2) _ _ (HD.out.on (below_on (HB0.out _ _) K1.out))).mono ?_; rintro e w2 ⟨rfl, k2⟩; rw [H2.out]; have K2 := hide (below_on K1.out k2); obtain ⟨hc2, hf2⟩ := bcell K2.out; clear k2 hc1 hf1)
          | (go_at_call 96; refine (stop_any (s := s) _ _ (HW.out.on (HB0.out _ _))).mono ?_; rintro e w1 ⟨rfl, k1⟩; rw [H1.out]; obtain ⟨hc1, hf1⟩ := bcell k1; have K1 := hide k1; clear k1))
        go_ret
        first
          | exact ⟨by simp, below_on (HB0.out _ _) K3.out⟩
          | exact ⟨by simp, below_on (HB0.out _ _) K2.out⟩
          | exact ⟨by simp, below_on (HB0.out _ _) K1.out⟩
      | true =>
        cases b4 with
        | false =>
          go_enter Try.func67, Try.ntmps67
          go_wp2_with (first
            | (go_at_call 97; refine (priority_any _ _).mono ?_; rintro e w' ⟨rfl, rfl⟩; rw [H5.out])
            | (go_at_call 91; refine (valid_any HS.out _).mono ?_; rintro e w' ⟨rfl, rfl⟩; rw [H4.out])
            | (go_at_call 90; refine (amount_any _ _ (HP.out.on (below_on (HB0.out _ _) K2.out))).mono ?_; rintro e w3 ⟨rfl, k3⟩; rw [H3.out]; have K3 := hide (below_on K2.out k3); obtain ⟨hc3, hf3⟩ := bcell K3.out; clear k3 hc2 hf2)
            | (go_at_call 96; refine (stop_any (s := s2) _ _ (HD.out.on (below_on (HB0.out _ _) K1.out))).mono ?_; rintro e w2 ⟨rfl, k2⟩; rw [H2.out]; have K2 := hide (below_on K1.out k2); obtain ⟨hc2, hf2⟩ := bcell K2.out; clear k2 hc1 hf1)
            | (go_at_call 96; refine (stop_any (s := s) _ _ (HW.out.on (HB0.out _ _))).mono ?_; rintro e w1 ⟨rfl, k1⟩; rw [H1.out]; obtain ⟨hc1, hf1⟩ := bcell k1; have K1 := hide k1; clear k1))
          go_ret
          first
            | exact ⟨by simp, below_on (HB0.out _ _) K3.out⟩
            | exact ⟨by simp, below_on (HB0.out _ _) K2.out⟩
            | exact ⟨by simp, below_on (HB0.out _ _) K1.out⟩
        | true =>
          go_enter Try.func67, Try.ntmps67
          go_wp2_with (first
            | (go_at_call 97; refine (priority_any _ _).mono ?_; rintro e w' ⟨rfl, rfl⟩; rw [H5.out])
            | (go_at_call 91; refine (valid_any HS.out _).mono ?_; rintro e w' ⟨rfl, rfl⟩; rw [H4.out])
            | (go_at_call 90; refine (amount_any _ _ (HP.out.on (below_on (HB0.out _ _) K2.out))).mono ?_; rintro e w3 ⟨rfl, k3⟩; rw [H3.out]; have K3 := hide (below_on K2.out k3); obtain ⟨hc3, hf3⟩ := bcell K3.out; clear k3 hc2 hf2)
            | (go_at_call 96; refine (stop_any (s := s2) _ _ (HD.out.on (below_on (HB0.out _ _) K1.out))).mono ?_; rintro e w2 ⟨rfl, k2⟩; rw [H2.out]; have K2 := hide (below_on K1.out k2); obtain ⟨hc2, hf2⟩ := bcell K2.out; clear k2 hc1 hf1)
            | (go_at_call 96; refine (stop_any (s := s) _ _ (HW.out.on (HB0.out _ _))).mono ?_; rintro e w1 ⟨rfl, k1⟩; rw [H1.out]; obtain ⟨hc1, hf1⟩ := bcell k1; have K1 := hide k1; clear k1))
          go_ret
          first
            | exact ⟨by simp, below_on (HB0.out _ _) K3.out⟩
            | exact ⟨by simp, below_on (HB0.out _ _) K2.out⟩
            | exact ⟨by simp, below_on (HB0.out _ _) K1.out⟩
theorem one_win (w : World) (x y : Int) : WinsV (w.alloc (.cells #[.int .i64 x, .int .i64 y] 61)) (.slice (some ⟨w.heap.size, 0, none⟩) 1 1) [(x, y)] := by
  have hr := heap_alloc_new w (.cells #[.int .i64 x, .int .i64 y] 61)
  refine ⟨_, 1, rfl, (fun e => by cases e), rfl, by simp, fun k hk => ⟨w.heap.size, 0, rfl, ?_⟩⟩
  have : k = 0 := by simp at hk; omega
  subst this
  exact ⟨by rw [cell_of_row _ _ _ _ _ _ hr]; rfl, by rw [cell_of_row _ _ _ _ _ _ hr]; rfl⟩
set_option maxRecDepth 100000 in
set_option maxHeartbeats 3200000 in
theorem vehicle_any {w : World} (n d : Int) {l : List Value} {j : Veh} (h : VehV w l j) : Calls Try.prog 63 #[.agg #[.int .i64 n, .int .i64 d], .agg l.toArray] w fun e w' => e = .returned (.bool (vehB d n j)) ∧ Below w.heap.size w w' := by
  obtain ⟨xc, xb, rfl, hc, hk, hs⟩ := h
  obtain ⟨ca, cc, rfl⟩ := hc.shape
  obtain ⟨ka, kc, rfl⟩ := SlV.shape hk
  have HC := hide hc
  have HK := hide hk
  have HS := hide hs
  have HB0 : Hid (∀ A B, Below w.heap.size w ((w.alloc A).alloc B)) := fun A B => ((Below.refl _ _).alloc (Nat.le_refl _) A).alloc (by simp) B
  unfold vehB vehE
  obtain ⟨s1, s2, s3, s4, ⟨f1, f2⟩, s6, s7, s8, s9, s10⟩ := j
  simp only at HC HK HS ⊢
  clear hc hk hs
  rw [← inB_up s9 12]
  obtain ⟨b1, h1⟩ : ∃ b, upB s1 (n - 1) = b := ⟨_, rfl⟩
  have H1 := hide h1
  obtain ⟨b2, h2⟩ : ∃ b, upB s2 (n - 1) = b := ⟨_, rfl⟩
  have H2 := hide h2
  obtain ⟨b3, h3⟩ : ∃ b, amtB s3 d = b := ⟨_, rfl⟩
  have H3 := hide h3
  obtain ⟨b4, h4⟩ : ∃ b, sklB s4 = b := ⟨_, rfl⟩
  have H4 := hide h4
  obtain ⟨b5, h5⟩ : ∃ b, winB [(f1, f2)] = b := ⟨_, rfl⟩
  have H5 := hide h5
  obtain ⟨b6, h6⟩ : ∃ b, upB s6 1000000 = b := ⟨_, rfl⟩
  have H6 := hide h6
  obtain ⟨b7, h7⟩ : ∃ b, upB s7 1000000 = b := ⟨_, rfl⟩
  have H7 := hide h7
  obtain ⟨b8, h8⟩ : ∃ b, upB s8 1000000 = b := ⟨_, rfl⟩
  have H8 := hide h8
  obtain ⟨b9, h9⟩ : ∃ b, inB s9 0 12 = b := ⟨_, rfl⟩
  have H9 := hide h9
  obtain ⟨b10, h10⟩ : ∃ b, twoB s10 = b := ⟨_, rfl⟩
  have H10 := hide h10
  obtain ⟨b11, h11⟩ : ∃ b, s10.all brkB = b := ⟨_, rfl⟩
  have H11 := hide h11
  rw [h1, h2, h3, h4, h5, h6, h7, h8, h9, h10, h11]
  clear h1 h2 h3 h4 h5 h6 h7 h8 h9 h10 h11
  obtain ⟨lb, hlb⟩ : ∃ lb, s10.length = lb := ⟨_, rfl⟩
  have HLB : Hid (decide (lb ≤ 2) = b10) := by rw [← hlb]; exact H10.out
  rw [hlb] at HK ⊢
  clear hlb H10
  have HTT : Hid (b10 = true → ((lb : Int) ≤ 2)) := fun e => by have := HLB.out; rw [e] at this; have := of_decide_eq_true this; omega
  have HTF : Hid (b10 = false → ¬ ((lb : Int) ≤ 2)) := fun e => by have := HLB.out; rw [e] at this; have := of_decide_eq_false this; omega
  cases b1 with
  | false =>
    go_enter Try.func63, Try.ntmps63
    go_wp2_with (first
      | (go_at_call 94; refine (all_brks (HK.out.on (below_on (HB0.out _ _) K4.out))).mono ?_; rintro e w5 ⟨rfl, k5⟩; rw [H11.out]; have K5 := hide (below_on K4.out k5); obtain ⟨hc5, hf5⟩ := bcell K5.out; clear k5 hc4 hf4)
      | (go_at_call 88; refine (within_any _ _ _ _).mono ?_; rintro e w' ⟨rfl, rfl⟩; rw [H9.out])
      | (go_at_call 93; refine (number_any _ _).mono ?_; rintro e w' ⟨rfl, rfl⟩; first | rw [H6.out] | rw [H7.out] | rw [H8.out])
      | (go_at_call 92; refine (open_any (one_win _ _ _)).mono ?_; rintro e w4 ⟨rfl, k4⟩; rw [H5.out]; have K4 := hide (below_on (below_on K3.out ((Below.refl _ _).alloc (Nat.le_refl _) _)) k4); obtain ⟨hc4, hf4⟩ := bcell K4.out; clear k4 hc3 hf3)
      | (go_at_call 91; refine (valid_any HS.out _).mono ?_; rintro e w' ⟨rfl, rfl⟩; rw [H4.out])
      | (go_at_call 90; refine (amount_any _ _ (HC.out.on (below_on (HB0.out _ _) K2.out))).mono ?_; rintro e w3 ⟨rfl, k3⟩; rw [H3.out]; have K3 := hide (below_on K2.out k3); obtain ⟨hc3, hf3⟩ := bcell K3.out; clear k3 hc2 hf2)
      | (go_at_call 89; refine (place_any _ _ _ _).mono ?_; rintro e w2 ⟨rfl, k2⟩; rw [H2.out]; have K2 := hide (below_on K1.out k2); obtain ⟨hc2, hf2⟩ := bcell K2.out; clear k2 hc1 hf1)
      | (go_at_call 89; refine (place_any _ _ _ _).mono ?_; rintro e w1 ⟨rfl, k1⟩; rw [H1.out]; obtain ⟨hc1, hf1⟩ := bcell k1; have K1 := hide k1; clear k1))
    go_ret
    first
      | exact ⟨by simp, below_on (HB0.out _ _) K5.out⟩
      | exact ⟨by simp, below_on (HB0.out _ _) K4.out⟩
      | exact ⟨by simp, below_on (HB0.out _ _) K3.out⟩
      | exact ⟨by simp, below_on (HB0.out _ _) K2.out⟩
      | exact ⟨by simp, below_on (HB0.out _ _) K1.out⟩
  | true =>
    cases b2 with
    | false =>
      go_enter Try.func63, Try.ntmps63
      go_wp2_with (first
        | (go_at_call 94; refine (all_brks (HK.out.on (below_on (HB0.out _ _) K4.out))).mono ?_; rintro e w5 ⟨rfl, k5⟩; rw [H11.out]; have K5 := hide (below_on K4.out k5); obtain ⟨hc5, hf5⟩ := bcell K5.out; clear k5 hc4 hf4)
        | (go_at_call 88; refine (within_any _ _ _ _).mono ?_; rintro e w' ⟨rfl, rfl⟩; rw [H9.out])
        | (go_at_call 93; refine (number_any _ _).mono ?_; rintro e w' ⟨rfl, rfl⟩; first | rw [H6.out] | rw [H7.out] | rw [H8.out])
        | (go_at_call 92; refine (open_any (one_win _ _ _)).mono ?_; rintro e w4 ⟨rfl, k4⟩; rw [H5.out]; have K4 := hide (below_on (below_on K3.out ((Below.refl _ _).alloc (Nat.le_refl _) _)) k4); obtain ⟨hc4, hf4⟩ := bcell K4.out; clear k4 hc3 hf3)
        | (go_at_call 91; refine (valid_any HS.out _).mono ?_; rintro e w' ⟨rfl, rfl⟩; rw [H4.out])
        | (go_at_call 90; refine (amount_any _ _ (HC.out.on (below_on (HB0.out _ _) K2.out))).mono ?_; rintro e w3 ⟨rfl, k3⟩; rw [H3.out]; have K3 := hide (below_on K2.out k3); obtain ⟨hc3, hf3⟩ := bcell K3.out; clear k3 hc2 hf2)
        | (go_at_call 89; refine (place_any _ _ _ _).mono ?_; rintro e w2 ⟨rfl, k2⟩; rw [H2.out]; have K2 := hide (below_on K1.out k2); obtain ⟨hc2, hf2⟩ := bcell K2.out; clear k2 hc1 hf1)
        | (go_at_call 89; refine (place_any _ _ _ _).mono ?_; rintro e w1 ⟨rfl, k1⟩; rw [H1.out]; obtain ⟨hc1, hf1⟩ := bcell k1; have K1 := hide k1; clear k1))
      go_ret
      first
        | exact ⟨by simp, below_on (HB0.out _ _) K5.out⟩
        | exact ⟨by simp, below_on (HB0.out _ _) K4.out⟩
        | exact ⟨by simp, below_on (HB0.out _ _) K3.out⟩
        | exact ⟨by simp, below_on (HB0.out _ _) K2.out⟩
        | exact ⟨by simp, below_on (HB0.out _ _) K1.out⟩
    | true =>
      cases b3 with
      | false =>
        go_enter Try.func63, Try.ntmps63
        go_wp2_with (first
          | (go_at_call 94; refine (all_brks (HK.out.on (below_on (HB0.out _ _) K4.out))).mono ?_; rintro e w5 ⟨rfl, k5⟩; rw [H11.out]; have K5 := hide (below_on K4.out k5); obtain ⟨hc5, hf5⟩ := bcell K5.out; clear k5 hc4 hf4)
          | (go_at_call 88; refine (within_any _ _ _ _).mono ?_; rintro e w' ⟨rfl, rfl⟩; rw [H9.out])
          | (go_at_call 93; refine (number_any _ _).mono ?_; rintro e w' ⟨rfl, rfl⟩; first | rw [H6.out] | rw [H7.out] | rw [H8.out])
          | (go_at_call 92; refine (open_any (one_win _ _ _)).mono ?_; rintro e w4 ⟨rfl, k4⟩; rw [H5.out]; have K4 := hide (below_on (below_on K3.out ((Below.refl _ _).alloc (Nat.le_refl _) _)) k4); obtain ⟨hc4, hf4⟩ := bcell K4.out; clear k4 hc3 hf3)
          | (go_at_call 91; refine (valid_any HS.out _).mono ?_; rintro e w' ⟨rfl, rfl⟩; rw [H4.out])
          | (go_at_call 90; refine (amount_any _ _ (HC.out.on (below_on (HB0.out _ _) K2.out))).mono ?_; rintro e w3 ⟨rfl, k3⟩; rw [H3.out]; have K3 := hide (below_on K2.out k3); obtain ⟨hc3, hf3⟩ := bcell K3.out; clear k3 hc2 hf2)
          | (go_at_call 89; refine (place_any _ _ _ _).mono ?_; rintro e w2 ⟨rfl, k2⟩; rw [H2.out]; have K2 := hide (below_on K1.out k2); obtain ⟨hc2, hf2⟩ := bcell K2.out; clear k2 hc1 hf1)
          | (go_at_call 89; refine (place_any _ _ _ _).mono ?_; rintro e w1 ⟨rfl, k1⟩; rw [H1.out]; obtain ⟨hc1, hf1⟩ := bcell k1; have K1 := hide k1; clear k1))
        go_ret
        first
          | exact ⟨by simp, below_on (HB0.out _ _) K5.out⟩
          | exact ⟨by simp, below_on (HB0.out _ _) K4.out⟩
          | exact ⟨by simp, below_on (HB0.out _ _) K3.out⟩
          | exact ⟨by simp, below_on (HB0.out _ _) K2.out⟩
          | exact ⟨by simp, below_on (HB0.out _ _) K1.out⟩
      | true =>
        cases b4 with
        | false =>
          go_enter Try.func63, Try.ntmps63
          go_wp2_with (first
            | (go_at_call 94; refine (all_brks (HK.out.on (below_on (HB0.out _ _) K4.out))).mono ?_; rintro e w5 ⟨rfl, k5⟩; rw [H11.out]; have K5 := hide (below_on K4.out k5); obtain ⟨hc5, hf5⟩ := bcell K5.out; clear k5 hc4 hf4)
            | (go_at_call 88; refine (within_any _ _ _ _).mono ?_; rintro e w' ⟨rfl, rfl⟩; rw [H9.out])
            | (go_at_call 93; refine (number_any _ _).mono ?_; rintro e w' ⟨rfl, rfl⟩; first | rw [H6.out] | rw [H7.out] | rw [H8.out])
            | (go_at_call 92; refine (open_any (one_win _ _ _)).mono ?_; rintro e w4 ⟨rfl, k4⟩; rw [H5.out]; have K4 := hide (below_on (below_on K3.out ((Below.refl _ _).alloc (Nat.le_refl _) _)) k4); obtain ⟨hc4, hf4⟩ := bcell K4.out; clear k4 hc3 hf3)
            | (go_at_call 91; refine (valid_any HS.out _).mono ?_; rintro e w' ⟨rfl, rfl⟩; rw [H4.out])
            | (go_at_call 90; refine (amount_any _ _ (HC.out.on (below_on (HB0.out _ _) K2.out))).mono ?_; rintro e w3 ⟨rfl, k3⟩; rw [H3.out]; have K3 := hide (below_on K2.out k3); obtain ⟨hc3, hf3⟩ := bcell K3.out; clear k3 hc2 hf2)
            | (go_at_call 89; refine (place_any _ _ _ _).mono ?_; rintro e w2 ⟨rfl, k2⟩; rw [H2.out]; have K2 := hide (below_on K1.out k2); obtain ⟨hc2, hf2⟩ := bcell K2.out; clear k2 hc1 hf1)
            | (go_at_call 89; refine (place_any _ _ _ _).mono ?_; rintro e w1 ⟨rfl, k1⟩; rw [H1.out]; obtain ⟨hc1, hf1⟩ := bcell k1; have K1 := hide k1; clear k1))
          go_ret
          first
            | exact ⟨by simp, below_on (HB0.out _ _) K5.out⟩
            | exact ⟨by simp, below_on (HB0.out _ _) K4.out⟩
            | exact ⟨by simp, below_on (HB0.out _ _) K3.out⟩
            | exact ⟨by simp, below_on (HB0.out _ _) K2.out⟩
            | exact ⟨by simp, below_on (HB0.out _ _) K1.out⟩
        | true =>
          cases b5 with
          | false =>
            go_enter Try.func63, Try.ntmps63
            go_wp2_with (first
              | (go_at_call 94; refine (all_brks (HK.out.on (below_on (HB0.out _ _) K4.out))).mono ?_; rintro e w5 ⟨rfl, k5⟩; rw [H11.out]; have K5 := hide (below_on K4.out k5); obtain ⟨hc5, hf5⟩ := bcell K5.out; clear k5 hc4 hf4)
              | (go_at_call 88; refine (within_any _ _ _ _).mono ?_; rintro e w' ⟨rfl, rfl⟩; rw [H9.out])
              | (go_at_call 93; refine (number_any _ _).mono ?_; rintro e w' ⟨rfl, rfl⟩; first | rw [H6.out] | rw [H7.out] | rw [H8.out])
              | (go_at_call 92; refine (open_any (one_win _ _ _)).mono ?_; rintro e w4 ⟨rfl, k4⟩; rw [H5.out]; have K4 := hide (below_on (below_on K3.out ((Below.refl _ _).alloc (Nat.le_refl _) _)) k4); obtain ⟨hc4, hf4⟩ := bcell K4.out; clear k4 hc3 hf3)
              | (go_at_call 91; refine (valid_any HS.out _).mono ?_; rintro e w' ⟨rfl, rfl⟩; rw [H4.out])
              | (go_at_call 90; refine (amount_any _ _ (HC.out.on (below_on (HB0.out _ _) K2.out))).mono ?_; rintro e w3 ⟨rfl, k3⟩; rw [H3.out]; have K3 := hide (below_on K2.out k3); obtain ⟨hc3, hf3⟩ := bcell K3.out; clear k3 hc2 hf2)
              | (go_at_call 89; refine (place_any _ _ _ _).mono ?_; rintro e w2 ⟨rfl, k2⟩; rw [H2.out]; have K2 := hide (below_on K1.out k2); obtain ⟨hc2, hf2⟩ := bcell K2.out; clear k2 hc1 hf1)
              | (go_at_call 89; refine (place_any _ _ _ _).mono ?_; rintro e w1 ⟨rfl, k1⟩; rw [H1.out]; obtain ⟨hc1, hf1⟩ := bcell k1; have K1 := hide k1; clear k1))
            go_ret
            first
              | exact ⟨by simp, below_on (HB0.out _ _) K5.out⟩
              | exact ⟨by simp, below_on (HB0.out _ _) K4.out⟩
              | exact ⟨by simp, below_on (HB0.out _ _) K3.out⟩
              | exact ⟨by simp, below_on (HB0.out _ _) K2.out⟩
              | exact ⟨by simp, below_on (HB0.out _ _) K1.out⟩
          | true =>
            cases b6 with
            | false =>
              go_enter Try.func63, Try.ntmps63
              go_wp2_with (first
                | (go_at_call 94; refine (all_brks (HK.out.on (below_on (HB0.out _ _) K4.out))).mono ?_; rintro e w5 ⟨rfl, k5⟩; rw [H11.out]; have K5 := hide (below_on K4.out k5); obtain ⟨hc5, hf5⟩ := bcell K5.out; clear k5 hc4 hf4)
                | (go_at_call 88; refine (within_any _ _ _ _).mono ?_; rintro e w' ⟨rfl, rfl⟩; rw [H9.out])
                | (go_at_call 93; refine (number_any _ _).mono ?_; rintro e w' ⟨rfl, rfl⟩; first | rw [H6.out] | rw [H7.out] | rw [H8.out])
                | (go_at_call 92; refine (open_any (one_win _ _ _)).mono ?_; rintro e w4 ⟨rfl, k4⟩; rw [H5.out]; have K4 := hide (below_on (below_on K3.out ((Below.refl _ _).alloc (Nat.le_refl _) _)) k4); obtain ⟨hc4, hf4⟩ := bcell K4.out; clear k4 hc3 hf3)
                | (go_at_call 91; refine (valid_any HS.out _).mono ?_; rintro e w' ⟨rfl, rfl⟩; rw [H4.out])
                | (go_at_call 90; refine (amount_any _ _ (HC.out.on (below_on (HB0.out _ _) K2.out))).mono ?_; rintro e w3 ⟨rfl, k3⟩; rw [H3.out]; have K3 := hide (below_on K2.out k3); obtain ⟨hc3, hf3⟩ := bcell K3.out; clear k3 hc2 hf2)
                | (go_at_call 89; refine (place_any _ _ _ _).mono ?_; rintro e w2 ⟨rfl, k2⟩; rw [H2.out]; have K2 := hide (below_on K1.out k2); obtain ⟨hc2, hf2⟩ := bcell K2.out; clear k2 hc1 hf1)
                | (go_at_call 89; refine (place_any _ _ _ _).mono ?_; rintro e w1 ⟨rfl, k1⟩; rw [H1.out]; obtain ⟨hc1, hf1⟩ := bcell k1; have K1 := hide k1; clear k1))
              go_ret
              first
                | exact ⟨by simp, below_on (HB0.out _ _) K5.out⟩
                | exact ⟨by simp, below_on (HB0.out _ _) K4.out⟩
                | exact ⟨by simp, below_on (HB0.out _ _) K3.out⟩
                | exact ⟨by simp, below_on (HB0.out _ _) K2.out⟩
                | exact ⟨by simp, below_on (HB0.out _ _) K1.out⟩
            | true =>
              cases b7 with
              | false =>
                go_enter Try.func63, Try.ntmps63
                go_wp2_with (first
                  | (go_at_call 94; refine (all_brks (HK.out.on (below_on (HB0.out _ _) K4.out))).mono ?_; rintro e w5 ⟨rfl, k5⟩; rw [H11.out]; have K5 := hide (below_on K4.out k5); obtain ⟨hc5, hf5⟩ := bcell K5.out; clear k5 hc4 hf4)
                  | (go_at_call 88; refine (within_any _ _ _ _).mono ?_; rintro e w' ⟨rfl, rfl⟩; rw [H9.out])
                  | (go_at_call 93; refine (number_any _ _).mono ?_; rintro e w' ⟨rfl, rfl⟩; first | rw [H6.out] | rw [H7.out] | rw [H8.out])
                  | (go_at_call 92; refine (open_any (one_win _ _ _)).mono ?_; rintro e w4 ⟨rfl, k4⟩; rw [H5.out]; have K4 := hide (below_on (below_on K3.out ((Below.refl _ _).alloc (Nat.le_refl _) _)) k4); obtain ⟨hc4, hf4⟩ := bcell K4.out; clear k4 hc3 hf3)
                  | (go_at_call 91; refine (valid_any HS.out _).mono ?_; rintro e w' ⟨rfl, rfl⟩; rw [H4.out])
                  | (go_at_call 90; refine (amount_any _ _ (HC.out.on (below_on (HB0.out _ _) K2.out))).mono ?_; rintro e w3 ⟨rfl, k3⟩; rw [H3.out]; have K3 := hide (below_on K2.out k3); obtain ⟨hc3, hf3⟩ := bcell K3.out; clear k3 hc2 hf2)
                  | (go_at_call 89; refine (place_any _ _ _ _).mono ?_; rintro e w2 ⟨rfl, k2⟩; rw [H2.out]; have K2 := hide (below_on K1.out k2); obtain ⟨hc2, hf2⟩ := bcell K2.out; clear k2 hc1 hf1)
                  | (go_at_call 89; refine (place_any _ _ _ _).mono ?_; rintro e w1 ⟨rfl, k1⟩; rw [H1.out]; obtain ⟨hc1, hf1⟩ := bcell k1; have K1 := hide k1; clear k1))
                go_ret
                first
                  | exact ⟨by simp, below_on (HB0.out _ _) K5.out⟩
                  | exact ⟨by simp, below_on (HB0.out _ _) K4.out⟩
                  | exact ⟨by simp, below_on (HB0.out _ _) K3.out⟩
                  | exact ⟨by simp, below_on (HB0.out _ _) K2.out⟩
                  | exact ⟨by simp, below_on (HB0.out _ _) K1.out⟩
              | true =>
                cases b8 with
                | false =>
                  go_enter Try.func63, Try.ntmps63
                  go_wp2_with (first
                    | (go_at_call 94; refine (all_brks (HK.out.on (below_on (HB0.out _ _) K4.out))).mono ?_; rintro e w5 ⟨rfl, k5⟩; rw [H11.out]; have K5 := hide (below_on K4.out k5); obtain ⟨hc5, hf5⟩ := bcell K5.out; clear k5 hc4 hf4)
                    | (go_at_call 88; refine (within_any _ _ _ _).mono ?_; rintro e w' ⟨rfl, rfl⟩; rw [H9.out])
                    | (go_at_call 93; refine (number_any _ _).mono ?_; rintro e w' ⟨rfl, rfl⟩; first | rw [H6.out] | rw [H7.out] | rw [H8.out])
                    | (go_at_call 92; refine (open_any (one_win _ _ _)).mono ?_; rintro e w4 ⟨rfl, k4⟩; rw [H5.out]; have K4 := hide (below_on (below_on K3.out ((Below.refl _ _).alloc (Nat.le_refl _) _)) k4); obtain ⟨hc4, hf4⟩ := bcell K4.out; clear k4 hc3 hf3)
                    | (go_at_call 91; refine (valid_any HS.out _).mono ?_; rintro e w' ⟨rfl, rfl⟩; rw [H4.out])
                    | (go_at_call 90; refine (amount_any _ _ (HC.out.on (below_on (HB0.out _ _) K2.out))).mono ?_; rintro e w3 ⟨rfl, k3⟩; rw [H3.out]; have K3 := hide (below_on K2.out k3); obtain ⟨hc3, hf3⟩ := bcell K3.out; clear k3 hc2 hf2)
                    | (go_at_call 89; refine (place_any _ _ _ _).mono ?_; rintro e w2 ⟨rfl, k2⟩; rw [H2.out]; have K2 := hide (below_on K1.out k2); obtain ⟨hc2, hf2⟩ := bcell K2.out; clear k2 hc1 hf1)
                    | (go_at_call 89; refine (place_any _ _ _ _).mono ?_; rintro e w1 ⟨rfl, k1⟩; rw [H1.out]; obtain ⟨hc1, hf1⟩ := bcell k1; have K1 := hide k1; clear k1))
                  go_ret
                  first
                    | exact ⟨by simp, below_on (HB0.out _ _) K5.out⟩
                    | exact ⟨by simp, below_on (HB0.out _ _) K4.out⟩
                    | exact ⟨by simp, below_on (HB0.out _ _) K3.out⟩
                    | exact ⟨by simp, below_on (HB0.out _ _) K2.out⟩
                    | exact ⟨by simp, below_on (HB0.out _ _) K1.out⟩
                | true =>
                  cases b9 with
                  | false =>
                    go_enter Try.func63, Try.ntmps63
                    go_wp2_with (first
                      | (go_at_call 94; refine (all_brks (HK.out.on (below_on (HB0.out _ _) K4.out))).mono ?_; rintro e w5 ⟨rfl, k5⟩; rw [H11.out]; have K5 := hide (below_on K4.out k5); obtain ⟨hc5, hf5⟩ := bcell K5.out; clear k5 hc4 hf4)
                      | (go_at_call 88; refine (within_any _ _ _ _).mono ?_; rintro e w' ⟨rfl, rfl⟩; rw [H9.out])
                      | (go_at_call 93; refine (number_any _ _).mono ?_; rintro e w' ⟨rfl, rfl⟩; first | rw [H6.out] | rw [H7.out] | rw [H8.out])
                      | (go_at_call 92; refine (open_any (one_win _ _ _)).mono ?_; rintro e w4 ⟨rfl, k4⟩; rw [H5.out]; have K4 := hide (below_on (below_on K3.out ((Below.refl _ _).alloc (Nat.le_refl _) _)) k4); obtain ⟨hc4, hf4⟩ := bcell K4.out; clear k4 hc3 hf3)
                      | (go_at_call 91; refine (valid_any HS.out _).mono ?_; rintro e w' ⟨rfl, rfl⟩; rw [H4.out])
                      | (go_at_call 90; refine (amount_any _ _ (HC.out.on (below_on (HB0.out _ _) K2.out))).mono ?_; rintro e w3 ⟨rfl, k3⟩; rw [H3.out]; have K3 := hide (below_on K2.out k3); obtain ⟨hc3, hf3⟩ := bcell K3.out; clear k3 hc2 hf2)
                      | (go_at_call 89; refine (place_any _ _ _ _).mono ?_; rintro e w2 ⟨rfl, k2⟩; rw [H2.out]; have K2 := hide (below_on K1.out k2); obtain ⟨hc2, hf2⟩ := bcell K2.out; clear k2 hc1 hf1)
                      | (go_at_call 89; refine (place_any _ _ _ _).mono ?_; rintro e w1 ⟨rfl, k1⟩; rw [H1.out]; obtain ⟨hc1, hf1⟩ := bcell k1; have K1 := hide k1; clear k1))
                    go_ret
                    first
                      | exact ⟨by simp, below_on (HB0.out _ _) K5.out⟩
                      | exact ⟨by simp, below_on (HB0.out _ _) K4.out⟩
                      | exact ⟨by simp, below_on (HB0.out _ _) K3.out⟩
                      | exact ⟨by simp, below_on (HB0.out _ _) K2.out⟩
                      | exact ⟨by simp, below_on (HB0.out _ _) K1.out⟩
                  | true =>
                    cases b10 with
                    | false =>
                      have i10 := HTF.out rfl
                      go_enter Try.func63, Try.ntmps63
                      go_wp2_with (first
                        | (go_at_call 94; refine (all_brks (HK.out.on (below_on (HB0.out _ _) K4.out))).mono ?_; rintro e w5 ⟨rfl, k5⟩; rw [H11.out]; have K5 := hide (below_on K4.out k5); obtain ⟨hc5, hf5⟩ := bcell K5.out; clear k5 hc4 hf4)
                        | (go_at_call 88; refine (within_any _ _ _ _).mono ?_; rintro e w' ⟨rfl, rfl⟩; rw [H9.out])
                        | (go_at_call 93; refine (number_any _ _).mono ?_; rintro e w' ⟨rfl, rfl⟩; first | rw [H6.out] | rw [H7.out] | rw [H8.out])
                        | (go_at_call 92; refine (open_any (one_win _ _ _)).mono ?_; rintro e w4 ⟨rfl, k4⟩; rw [H5.out]; have K4 := hide (below_on (below_on K3.out ((Below.refl _ _).alloc (Nat.le_refl _) _)) k4); obtain ⟨hc4, hf4⟩ := bcell K4.out; clear k4 hc3 hf3)
                        | (go_at_call 91; refine (valid_any HS.out _).mono ?_; rintro e w' ⟨rfl, rfl⟩; rw [H4.out])
                        | (go_at_call 90; refine (amount_any _ _ (HC.out.on (below_on (HB0.out _ _) K2.out))).mono ?_; rintro e w3 ⟨rfl, k3⟩; rw [H3.out]; have K3 := hide (below_on K2.out k3); obtain ⟨hc3, hf3⟩ := bcell K3.out; clear k3 hc2 hf2)
                        | (go_at_call 89; refine (place_any _ _ _ _).mono ?_; rintro e w2 ⟨rfl, k2⟩; rw [H2.out]; have K2 := hide (below_on K1.out k2); obtain ⟨hc2, hf2⟩ := bcell K2.out; clear k2 hc1 hf1)
                        | (go_at_call 89; refine (place_any _ _ _ _).mono ?_; rintro e w1 ⟨rfl, k1⟩; rw [H1.out]; obtain ⟨hc1, hf1⟩ := bcell k1; have K1 := hide k1; clear k1))
                      go_ret
                      first
                        | exact ⟨by simp, below_on (HB0.out _ _) K5.out⟩
                        | exact ⟨by simp, below_on (HB0.out _ _) K4.out⟩
                        | exact ⟨by simp, below_on (HB0.out _ _) K3.out⟩
                        | exact ⟨by simp, below_on (HB0.out _ _) K2.out⟩
                        | exact ⟨by simp, below_on (HB0.out _ _) K1.out⟩
                    | true =>
                      have i10 := HTT.out rfl
                      go_enter Try.func63, Try.ntmps63
                      go_wp2_with (first
                        | (go_at_call 94; refine (all_brks (HK.out.on (below_on (HB0.out _ _) K4.out))).mono ?_; rintro e w5 ⟨rfl, k5⟩; rw [H11.out]; have K5 := hide (below_on K4.out k5); obtain ⟨hc5, hf5⟩ := bcell K5.out; clear k5 hc4 hf4)
                        | (go_at_call 88; refine (within_any _ _ _ _).mono ?_; rintro e w' ⟨rfl, rfl⟩; rw [H9.out])
                        | (go_at_call 93; refine (number_any _ _).mono ?_; rintro e w' ⟨rfl, rfl⟩; first | rw [H6.out] | rw [H7.out] | rw [H8.out])
                        | (go_at_call 92; refine (open_any (one_win _ _ _)).mono ?_; rintro e w4 ⟨rfl, k4⟩; rw [H5.out]; have K4 := hide (below_on (below_on K3.out ((Below.refl _ _).alloc (Nat.le_refl _) _)) k4); obtain ⟨hc4, hf4⟩ := bcell K4.out; clear k4 hc3 hf3)
                        | (go_at_call 91; refine (valid_any HS.out _).mono ?_; rintro e w' ⟨rfl, rfl⟩; rw [H4.out])
                        | (go_at_call 90; refine (amount_any _ _ (HC.out.on (below_on (HB0.out _ _) K2.out))).mono ?_; rintro e w3 ⟨rfl, k3⟩; rw [H3.out]; have K3 := hide (below_on K2.out k3); obtain ⟨hc3, hf3⟩ := bcell K3.out; clear k3 hc2 hf2)
                        | (go_at_call 89; refine (place_any _ _ _ _).mono ?_; rintro e w2 ⟨rfl, k2⟩; rw [H2.out]; have K2 := hide (below_on K1.out k2); obtain ⟨hc2, hf2⟩ := bcell K2.out; clear k2 hc1 hf1)
                        | (go_at_call 89; refine (place_any _ _ _ _).mono ?_; rintro e w1 ⟨rfl, k1⟩; rw [H1.out]; obtain ⟨hc1, hf1⟩ := bcell k1; have K1 := hide k1; clear k1))
                      go_ret
                      first
                        | exact ⟨by simp, below_on (HB0.out _ _) K5.out⟩
                        | exact ⟨by simp, below_on (HB0.out _ _) K4.out⟩
                        | exact ⟨by simp, below_on (HB0.out _ _) K3.out⟩
                        | exact ⟨by simp, below_on (HB0.out _ _) K2.out⟩
                        | exact ⟨by simp, below_on (HB0.out _ _) K1.out⟩
end Go.Proofs.Ytgjpkpmikbpcnaa
