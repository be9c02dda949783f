/-
  What the document's put does.
-/
import Derived.Test.YtdnkmjafkpnliaaTwF
import Derived.Test.YtdnkmjafkpnliaaDcB
import Derived.Deep.RegionHeld3
namespace Go.Proofs.Ytdnkmjafkpnliaa
open Go.RowKit

theorem part_at {w : World} {va : Option Addr} {m vc : Nat} {V : List Vst} {x y : Int} (a l : Nat) (h : SlI w va m vc V) (hx : x = (a : Int)) (hy : y = ((a + l : Nat) : Int)) (hm2 : m ≤ 900) (hb : a + l ≤ m) : Calls Try.prog 37 #[.slice va m vc, .int .i64 x, .int .i64 y] w fun e w' => ∃ g c, e = .returned (.slice (some ⟨g, 0, none⟩) l c) ∧ SlI w' (some ⟨g, 0, none⟩) l c ((V.drop a).take l) ∧ Below w.heap.size w w' := by
  subst hx hy
  refine (part_any h hm2 (Nat.le_add_right a l) hb).mono ?_
  rintro e w' ⟨g, c, rfl, ⟨h1, _⟩, h2⟩
  rw [Nat.add_sub_cancel_left] at h1 ⊢
  exact ⟨g, c, rfl, SlI.row h1 (by rw [List.length_take, List.length_drop, h.len]; omega) (by omega), h2⟩
/-- A part of a list, called in any later world. -/
theorem part_in {w : World} {va : Option Addr} {m vc : Nat} {V P : List Vst} {x y : Int} (a l : Nat) (h : SlI w va m vc V) (hP : (V.drop a).take l = P) (hx : x = (a : Int)) (hy : y = ((a + l : Nat) : Int)) (hm2 : m ≤ 900) (hb : a + l ≤ m) : ∀ W, Below w.heap.size w W → Calls Try.prog 37 #[.slice va m vc, .int .i64 x, .int .i64 y] W fun e w' => ∃ g c, e = .returned (.slice (some ⟨g, 0, none⟩) l c) ∧ SlI w' (some ⟨g, 0, none⟩) l c P ∧ Below W.heap.size W w' := fun W hf => by
  subst hP
  exact part_at a l (h.on hf) hx hy hm2 hb
theorem part_low {V : List Vst} {l : Nat} : (V.drop 0).take l = V.take l := by rw [List.drop_zero]
theorem part_high {V : List Vst} {a l : Nat} (h : a + l = V.length) : (V.drop a).take l = V.drop a := List.take_of_length_le (by rw [List.length_drop]; omega)
theorem join_at {w : World} {a1 a2 a3 : Option Addr} {m1 m2 m3 c1 c2 c3 : Nat} {A B C L : List Vst} {n : Nat} (hn : m1 + m2 + m3 = n) (hL : A ++ (B ++ C) = L) (h1 : SlI w a1 m1 c1 A) (h2 : SlI w a2 m2 c2 B) (h3 : SlI w a3 m3 c3 C) (hb : n ≤ 900) : Calls Try.prog 36 #[.slice a1 m1 c1, .slice a2 m2 c2, .slice a3 m3 c3] w fun e w' => ∃ a c, e = .returned (.slice a n c) ∧ (VRow w' w.heap.size (.slice a n c) L ∧ SlI w' a n c L) ∧ Below w.heap.size w w' := by
  subst hn hL
  refine (join_any h1 h2 h3 hb).mono ?_
  rintro e w' ⟨a, c, rfl, h4, h5⟩
  exact ⟨a, c, rfl, ⟨h4, SlI.row h4 (by rw [List.length_append, List.length_append, h1.len, h2.len, h3.len]; omega) (by omega)⟩, h5⟩
/-- What the document's put answers. -/
def PtD (w : World) (s : Bool) (it : Int) (V : List Vst) (j k : Int) (e : Ending) (w' : World) : Prop := ∃ a q c, e = .returned (.tuple #[.slice a q c, .bool (fitB s V.length j k)]) ∧ (fitB s V.length j k = true → q = V.length + visN s ∧ VRow w' w.heap.size (.slice a q c) (putL s it V j.toNat k.toNat)) ∧ Below w.heap.size w w'
set_option maxRecDepth 100000 in
set_option maxHeartbeats 12800000 in
theorem rput_any {w : World} {va : Option Addr} {m vc : Nat} {V : List Vst} (h : SlI w va m vc V) (hm2 : m ≤ 800) (s : Bool) (it j k : Int) : Calls Try.prog 41 #[.slice va m vc, .agg #[.bool s, .int .i64 it], .int .i64 j, .int .i64 k] w (PtD w s it V j k) := by
  have H := hide h
  clear h
  obtain ⟨w0, hw0⟩ : ∃ W, W = w.alloc (.cells #[.bool s, .int .i64 it] 67) := ⟨_, rfl⟩
  have HW0 := hide hw0
  have KZ : Hid (Below w.heap.size w w0) := by rw [hw0]; exact (Below.refl _ _).alloc (Nat.le_refl _) _
  have HX0 : Hid (w0.heap[w.heap.size]? = some (.cells #[.bool s, .int .i64 it] 67)) := by show _ = _; rw [hw0]; exact heap_alloc_new _ _
  clear hw0
  have w1' : IntKind.i64.wrap ((m : Int) + 1) = (m : Int) + 1 := by rw [IntKind.wrap_i64]; omega
  by_cases h1 : j < 0
  · have h1' : ¬ 0 ≤ j := by omega
    have HF : Hid (fitB s V.length j k = false) := by show _ = _; rw [H.out.len]; unfold fitB; unfold witB; rw [decide_eq_false (by omega)]; rfl
    go_enter Try.func41, Try.ntmps41
    go_wp2_with fail
    go_ret2
    exact ⟨_, _, _, by rw [HF.out]; rfl, (fun h9 => by rw [HF.out] at h9; cases h9), by rw [← HW0.out]; exact KZ.out⟩
  · have h1' : 0 ≤ j := by omega
    by_cases h2 : j > (m : Int)
    · have h2' : (m : Int) < j := by omega
      have h2'' : ¬ j ≤ (m : Int) := by omega
      have HF : Hid (fitB s V.length j k = false) := by show _ = _; rw [H.out.len]; unfold fitB; unfold witB; rw [decide_eq_false (p := j ≤ (m : Int)) (by omega), Bool.and_false]; rfl
      go_enter Try.func41, Try.ntmps41
      go_wp2_with fail
      go_ret2
      exact ⟨_, _, _, by rw [HF.out]; rfl, (fun h9 => by rw [HF.out] at h9; cases h9), by rw [← HW0.out]; exact KZ.out⟩
    · have h2' : ¬ (m : Int) < j := by omega
      have h2'' : j ≤ (m : Int) := by omega
      cases s with
      | false =>
        obtain ⟨jj, rfl⟩ : ∃ a : Nat, j = a := ⟨j.toNat, by omega⟩
        obtain ⟨r, hr⟩ : ∃ r : Nat, jj + r = m := ⟨m - jj, by omega⟩
        have hv : visN false = 1 := rfl
        have HF : Hid (fitB false V.length (jj : Int) k = true) := by show _ = _; rw [H.out.len]; unfold fitB witB; simp; omega
        have HL : Hid (V.take jj ++ ([(1, it)] ++ V.drop jj) = insM V jj (1, it)) := (by show _ = _; rfl)
        have HN : Hid (jj + 1 + r = m + 1) := (by show _ = _; omega)
        go_enter Try.func41, Try.ntmps41
        go_wp2_with (first | (go_at_call 47; rw [← HW0.out]; refine (rvis_any _ _ _).mono ?_; rintro e w2 ⟨a2, c2, rfl, q2, k2⟩; have Q2 := hide q2; have K2 := hide (below_on KZ.out k2); have HX2 := hide ((k2.block _ (lt_of_block HX0.out)).trans HX0.out); have x1 : w2.cell? ⟨w.heap.size, 0, none⟩ = some (.bool false) := (cell_of_row _ _ _ _ _ _ HX2.out); have x2 : w2.cell? ⟨w.heap.size, 1, none⟩ = some (.int .i64 it) := (cell_of_row _ _ _ _ _ _ HX2.out); clear q2 k2) | fail)
        rw [hv] at Q2
        try (rw [hv])
        obtain ⟨A1, C1, e1, p1'⟩ := sl_h Q2.out (y := 1) 1 rfl (by omega)
        have p1 : Hid (SlI w2 A1 1 C1 [(1, it)]) := p1'
        have HP1 := hide (part_in 0 jj (P := V.take jj) (x := 0) (y := (jj : Int)) (H.out.on K2.out) part_low rfl (by omega) (by omega) (by omega))
        have HP2 := hide (part_in jj r (P := V.drop jj) (x := (jj : Int)) (y := (m : Int)) (H.out.on K2.out) (part_high (by rw [H.out.len]; exact hr)) rfl (by omega) (by omega) (by omega))
        clear p1' hr
        go_wp2_with fail
        go_region_held3 (fun _ => True) (trivial) (first | (go_at_call 36; refine (join_at HN.out HL.out (Q3.out.on B4.out) (p1.out.on K4.out) Q4.out (by omega)).mono ?_; rintro e w5 ⟨a5, c5, rfl, r5, k5⟩; have R5 := hide r5.1; have S5 := hide r5.2; have K5 := hide (below_on K4.out k5); have HX5 := hide ((K5.out.block _ (lt_of_block HX2.out)).trans HX2.out); have x5 : w5.cell? ⟨w.heap.size, 0, none⟩ = some (.bool false) := (cell_of_row _ _ _ _ _ _ HX5.out); have x6 : w5.cell? ⟨w.heap.size, 1, none⟩ = some (.int .i64 it) := (cell_of_row _ _ _ _ _ _ HX5.out); clear r5 k5) | (go_at_call 37; (with_reducible refine (HP2.out _ K3.out).mono ?_); rintro e w4 ⟨g4, c4, rfl, q4, k4⟩; have Q4 := hide q4; have B4 := hide k4; have K4 := hide (below_on K3.out k4); clear q4 k4) | (go_at_call 37; (with_reducible refine (HP1.out _ (low_drew (Below.refl _ _))).mono ?_); rintro e w3 ⟨g3, c3, rfl, q3, k3⟩; have Q3 := hide q3; have K3 : Hid (Below w2.heap.size w2 w3) := (below_on (low_drew (Below.refl _ _)) k3); clear q3 k3) | fail)
        rename_i hHeld
        clear hHeld
        go_wp2_with fail
        go_ret2
        exact ⟨_, _, _, by rw [HF.out]; rfl, (fun _ => ⟨by rw [H.out.len]; rfl, own_mono R5.out (below_on K2.out K4.out).size⟩), below_on K2.out K5.out⟩
      | true =>
        by_cases h3 : k ≤ j
        · have h3' : ¬ j < k := by omega
          have HF : Hid (fitB true V.length j k = false) := by show _ = _; rw [H.out.len]; unfold fitB; rw [decide_eq_false (p := j < k) (by omega)]; simp
          go_enter Try.func41, Try.ntmps41
          go_wp2_with fail
          go_ret2
          exact ⟨_, _, _, by rw [HF.out]; rfl, (fun h9 => by rw [HF.out] at h9; cases h9), by rw [← HW0.out]; exact KZ.out⟩
        · have h3' : j < k := by omega
          by_cases h4 : k > (m : Int) + 1
          · have h4' : (m : Int) + 1 < k := by omega
            have h4'' : ¬ k ≤ (m : Int) + 1 := by omega
            have HF : Hid (fitB true V.length j k = false) := by show _ = _; rw [H.out.len]; unfold fitB; rw [decide_eq_false (p := k ≤ (m : Int) + 1) (by omega)]; simp
            go_enter Try.func41, Try.ntmps41
            go_wp2_with fail
            go_ret2
            exact ⟨_, _, _, by rw [HF.out]; rfl, (fun h9 => by rw [HF.out] at h9; cases h9), by rw [← HW0.out]; exact KZ.out⟩
          · have h4' : ¬ (m : Int) + 1 < k := by omega
            have h4'' : k ≤ (m : Int) + 1 := by omega
            obtain ⟨jj, rfl⟩ : ∃ a : Nat, j = a := ⟨j.toNat, by omega⟩
            obtain ⟨r, hr⟩ : ∃ r : Nat, jj + r = m := ⟨m - jj, by omega⟩
            have hv : visN true = 2 := rfl
            obtain ⟨kk, rfl⟩ : ∃ a : Nat, k = a := ⟨k.toNat, by omega⟩
            obtain ⟨u, hu⟩ : ∃ u : Nat, kk + u = m + 1 := ⟨m + 1 - kk, by omega⟩
            have HF : Hid (fitB true V.length (jj : Int) (kk : Int) = true) := by show _ = _; rw [H.out.len]; unfold fitB witB; simp; omega
            have HL : Hid (V.take jj ++ ([(2, it)] ++ V.drop jj) = insM V jj (2, it)) := (by show _ = _; rfl)
            have HN : Hid (jj + 1 + r = m + 1) := (by show _ = _; omega)
            go_enter Try.func41, Try.ntmps41
            go_wp2_with (first | (go_at_call 47; rw [← HW0.out]; refine (rvis_any _ _ _).mono ?_; rintro e w2 ⟨a2, c2, rfl, q2, k2⟩; have Q2 := hide q2; have K2 := hide (below_on KZ.out k2); have HX2 := hide ((k2.block _ (lt_of_block HX0.out)).trans HX0.out); have x1 : w2.cell? ⟨w.heap.size, 0, none⟩ = some (.bool true) := (cell_of_row _ _ _ _ _ _ HX2.out); have x2 : w2.cell? ⟨w.heap.size, 1, none⟩ = some (.int .i64 it) := (cell_of_row _ _ _ _ _ _ HX2.out); clear q2 k2) | fail)
            rw [hv] at Q2
            try (rw [hv])
            obtain ⟨A1, C1, e1, p1'⟩ := sl_h Q2.out (y := 1) 1 rfl (by omega)
            have p1 : Hid (SlI w2 A1 1 C1 [(2, it)]) := p1'
            have HP1 := hide (part_in 0 jj (P := V.take jj) (x := 0) (y := (jj : Int)) (H.out.on K2.out) part_low rfl (by omega) (by omega) (by omega))
            have HP2 := hide (part_in jj r (P := V.drop jj) (x := (jj : Int)) (y := (m : Int)) (H.out.on K2.out) (part_high (by rw [H.out.len]; exact hr)) rfl (by omega) (by omega) (by omega))
            clear p1' hr
            go_wp2_with fail
            go_region_held3 (fun _ => True) (trivial) (first | (go_at_call 36; refine (join_at HN.out HL.out (Q3.out.on B4.out) (p1.out.on K4.out) Q4.out (by omega)).mono ?_; rintro e w5 ⟨a5, c5, rfl, r5, k5⟩; have R5 := hide r5.1; have S5 := hide r5.2; have K5 := hide (below_on K4.out k5); have HX5 := hide ((K5.out.block _ (lt_of_block HX2.out)).trans HX2.out); have x5 : w5.cell? ⟨w.heap.size, 0, none⟩ = some (.bool true) := (cell_of_row _ _ _ _ _ _ HX5.out); have x6 : w5.cell? ⟨w.heap.size, 1, none⟩ = some (.int .i64 it) := (cell_of_row _ _ _ _ _ _ HX5.out); clear r5 k5) | (go_at_call 37; (with_reducible refine (HP2.out _ K3.out).mono ?_); rintro e w4 ⟨g4, c4, rfl, q4, k4⟩; have Q4 := hide q4; have B4 := hide k4; have K4 := hide (below_on K3.out k4); clear q4 k4) | (go_at_call 37; (with_reducible refine (HP1.out _ (low_drew (Below.refl _ _))).mono ?_); rintro e w3 ⟨g3, c3, rfl, q3, k3⟩; have Q3 := hide q3; have K3 : Hid (Below w2.heap.size w2 w3) := (below_on (low_drew (Below.refl _ _)) k3); clear q3 k3) | fail)
            rename_i hHeld
            clear hHeld
            obtain ⟨A2, C2, e2, p2'⟩ := sl_l Q2.out (x := 1) 1 1 rfl rfl
            have p2 : Hid (SlI w2 A2 1 C2 [(3, it)]) := p2'
            have HML : Hid ((insM V jj (2, it)).length = m + 1) := (by show _ = _; rw [insM_len (by rw [H.out.len]; omega), H.out.len])
            have HP3 := hide (part_in 0 kk (P := (insM V jj (2, it)).take kk) (x := 0) (y := (kk : Int)) S5.out part_low rfl (by omega) (by omega) (by omega))
            have HP4 := hide (part_in kk u (P := (insM V jj (2, it)).drop kk) (x := (kk : Int)) (y := (m : Int) + 1) S5.out (part_high (by rw [HML.out]; exact hu)) rfl (by omega) (by omega) (by omega))
            have HL2 : Hid ((insM V jj (2, it)).take kk ++ ([(3, it)] ++ (insM V jj (2, it)).drop kk) = insM (insM V jj (2, it)) kk (3, it)) := (by show _ = _; rfl)
            have HN2 : Hid (kk + 1 + u = m + 2) := (by show _ = _; omega)
            clear p2' hu
            go_wp2_with fail
            go_region_held3 (fun _ => True) (trivial) (first | (go_at_call 36; refine (join_at HN2.out HL2.out (Q6.out.on B7.out) (p2.out.on (below_on K5.out K7.out)) Q7.out (by omega)).mono ?_; rintro e w8 ⟨a8, c8, rfl, r8, k8⟩; have R8 := hide r8.1; have K8 := hide (below_on K7.out k8); clear r8 k8) | (go_at_call 37; (with_reducible refine (HP4.out _ K6.out).mono ?_); rintro e w7 ⟨g7, c7, rfl, q7, k7⟩; have Q7 := hide q7; have B7 := hide k7; have K7 := hide (below_on K6.out k7); clear q7 k7) | (go_at_call 37; (with_reducible refine (HP3.out _ (low_drew (Below.refl _ _))).mono ?_); rintro e w6 ⟨g6, c6, rfl, q6, k6⟩; have Q6 := hide q6; have K6 : Hid (Below w5.heap.size w5 w6) := (below_on (low_drew (Below.refl _ _)) k6); clear q6 k6) | fail)
            rename_i hHeld
            clear hHeld
            go_wp2_with fail
            go_ret2
            exact ⟨_, _, _, by rw [HF.out]; rfl, (fun _ => ⟨by rw [H.out.len]; rfl, own_mono R8.out (below_on (below_on K2.out K5.out) K7.out).size⟩), below_on (below_on K2.out K5.out) K8.out⟩
end Go.Proofs.Ytdnkmjafkpnliaa
