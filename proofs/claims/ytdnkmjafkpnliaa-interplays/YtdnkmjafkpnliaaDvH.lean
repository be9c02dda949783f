/-
  What the document's Inter answers: changes 0 and 5.
-/
import Derived.Test.YtdnkmjafkpnliaaDvD
import Derived.Test.YtdnkmjafkpnliaaDvF
namespace Go.Proofs.Ytdnkmjafkpnliaa
open Go.RowKit

theorem rput_no {w : World} {va : Option Addr} {m vc : Nat} {V : List Vst} {s : Bool} {it j k : Int} (h : SlI w va m vc V) (hm2 : m ≤ 800) (hf : fitB s m j k = false) : Calls Try.prog 41 #[.slice va m vc, .agg #[.bool s, .int .i64 it], .int .i64 j, .int .i64 k] w fun e w' => ∃ a q c, e = .returned (.tuple #[.slice a q c, .bool false]) ∧ Below w.heap.size w w' := by
  refine (rput_any h hm2 s it j k).mono ?_
  rintro e w' ⟨a, q, c, rfl, _, e3⟩
  rw [h.len, hf]
  exact ⟨a, q, c, rfl, e3⟩
theorem rput_yes {w : World} {va : Option Addr} {m vc p : Nat} {V P : List Vst} {s : Bool} {it j k : Int} (h : SlI w va m vc V) (hm2 : m ≤ 800) (hf : fitB s m j k = true) (hp : m + visN s = p) (hP : putL s it V j.toNat k.toNat = P) : Calls Try.prog 41 #[.slice va m vc, .agg #[.bool s, .int .i64 it], .int .i64 j, .int .i64 k] w fun e w' => ∃ a c, e = .returned (.tuple #[.slice a p c, .bool true]) ∧ VRow w' w.heap.size (.slice a p c) P ∧ Below w.heap.size w w' := by
  refine (rput_any h hm2 s it j k).mono ?_
  rintro e w' ⟨a, q, c, rfl, e2, e3⟩
  rw [h.len, hf] at e2 ⊢
  obtain ⟨e4, e5⟩ := e2 rfl
  rw [hp] at e4
  subst e4 hP
  exact ⟨a, c, rfl, e5, e3⟩

theorem rwhole_t {w : World} {va : Option Addr} {m vc q : Nat} {V : List Vst} {i : Int} {s : Bool} {it : Int} (h : SlI w va m vc V) (hm2 : m ≤ 800) (h0 : 0 ≤ i) (h1 : i < (m : Int)) (hk : tkF V i = (s, it)) (hb : whF V i = some (s, it)) (hq : (outM s it V).length = q) : Calls Try.prog 40 #[.slice va m vc, .int .i64 i] w fun e w' => ∃ a c, e = .returned (.tuple #[.agg #[.bool s, .int .i64 it], .slice a q c, .bool true]) ∧ VRow w' w.heap.size (.slice a q c) (outM s it V) ∧ Below w.heap.size w w' := rwhole_at h hm2 h0 h1 hk (b := true) hb hq
theorem rwhole_f {w : World} {va : Option Addr} {m vc q : Nat} {V : List Vst} {i : Int} {s : Bool} {it : Int} (h : SlI w va m vc V) (hm2 : m ≤ 800) (h0 : 0 ≤ i) (h1 : i < (m : Int)) (hk : tkF V i = (s, it)) (hb : whF V i = none) (hq : (outM s it V).length = q) : Calls Try.prog 40 #[.slice va m vc, .int .i64 i] w fun e w' => ∃ a c, e = .returned (.tuple #[.agg #[.bool s, .int .i64 it], .slice a q c, .bool false]) ∧ VRow w' w.heap.size (.slice a q c) (outM s it V) ∧ Below w.heap.size w w' := rwhole_at h hm2 h0 h1 hk (b := false) hb hq
theorem copied_in {w : World} {va : Option Addr} {m vc : Nat} {V : List Vst} (h : SlI w va m vc V) (hm2 : m ≤ 900) : ∀ W, Below w.heap.size w W → Calls Try.prog 39 #[.slice va m vc] W fun e w' => ∃ g c, e = .returned (.slice (some ⟨g, 0, none⟩) m c) ∧ VRow w' w.heap.size (.slice (some ⟨g, 0, none⟩) m c) V ∧ Below w.heap.size w w' ∧ Below W.heap.size W w' := fun W hf => by
  refine (copiedV_any (h.on hf).vs h.len hm2 h.nz).mono ?_
  rintro e w' ⟨g, c, rfl, e2, e3⟩
  exact ⟨g, c, rfl, own_mono e2.1 hf.size, below_on hf e3, e3⟩
theorem itd_no2 {w w1 w2 : World} {A B : List Vst} {r : List Vst × List Vst × Bool} {m n g1 c1 g2 c2 : Nat} (hr : r = (A, B, false)) (hA : A.length = m) (hB : B.length = n) (R1 : VRow w1 w.heap.size (.slice (some ⟨g1, 0, none⟩) m c1) A) (R2 : VRow w2 w.heap.size (.slice (some ⟨g2, 0, none⟩) n c2) B) (K1 : Below w1.heap.size w1 w2) (K2 : Below w.heap.size w w2) : ItD w r (.returned (.tuple #[.slice (some ⟨g1, 0, none⟩) m c1, .slice (some ⟨g2, 0, none⟩) n c2, .bool false])) w2 := by
  subst hr
  exact ⟨_, _, _, _, _, _, rfl, ⟨hA, VRow.later R1 (Nat.le_refl _) K1⟩, ⟨hB, R2⟩, K2⟩
set_option maxRecDepth 100000 in
set_option maxHeartbeats 12800000 in
theorem inter_reloc {w : World} {va vb : Option Addr} {m vc n vd : Nat} {A B : List Vst} (hA : SlI w va m vc A) (hB : SlI w vb n vd B) (hm : m ≤ 400) (hn : n ≤ 400) (i j k : Int) : Calls Try.prog 24 #[.slice va m vc, .slice vb n vd, .int .i64 0, .int .i64 i, .int .i64 j, .int .i64 k] w (ItD w (relM A B i j k)) := by
  have HA := hide hA
  have HB := hide hB
  have KZ : Hid (Below w.heap.size w w) := Below.refl _ _
  clear hA hB
  have HCA := hide (copied_in HA.out (by omega))
  have HCB := hide (copied_in HB.out (by omega))
  have KK := KZ
  rcases (show i < 0 ∨ (m : Int) < i ∨ (0 ≤ i ∧ i < (m : Int)) ∨ i = (m : Int) by omega) with hi | hi | hi | hi
  · have hwn : whF A i = none := by unfold whF; rw [HA.out.len, if_neg (by simp only [witB, Bool.and_eq_true, decide_eq_true_eq]; omega)]
    have HR : Hid (relM A B i j k = (A, B, false)) := by show _ = _; unfold relM; rw [hwn]
    have fi0 : i < 0 := by omega
    have fi1 : ¬ 0 ≤ i := by omega
    clear hi hwn
    go_enter Try.func24, Try.ntmps24
    go_wp2_with (first | (go_at_call 39; (with_reducible refine (HCB.out _ KX.out).mono ?_); rintro e x2 ⟨y2, d2, rfl, r2, k2, k2b⟩; have RY := hide r2; have KY := hide k2; have KYB := hide k2b; clear r2 k2 k2b) | (go_at_call 39; (with_reducible refine (HCA.out _ (by first | (with_reducible exact KK.out) | (with_reducible exact low_alloc KK.out _) | (with_reducible exact low_alloc (low_alloc KK.out _) _))).mono ?_); rintro e x1 ⟨y1, d1, rfl, r1, k1, -⟩; have RX := hide r1; have KX := hide k1; clear r1 k1) | fail)
    go_ret3
    exact itd_no2 HR.out HA.out.len HB.out.len RX.out RY.out KYB.out KY.out
  · have hwn : whF A i = none := by unfold whF; rw [HA.out.len, if_neg (by simp only [witB, Bool.and_eq_true, decide_eq_true_eq]; omega)]
    have HR : Hid (relM A B i j k = (A, B, false)) := by show _ = _; unfold relM; rw [hwn]
    have fi0 : 0 ≤ i := by omega
    have fi1 : ¬ i < (m : Int) := by omega
    have fi2 : ¬ i ≤ (m : Int) := by omega
    have fi3 : (m : Int) < i := by omega
    have fi4 : (m : Int) ≤ i := by omega
    have fi5 : ¬ i < 0 := by omega
    clear hi hwn
    go_enter Try.func24, Try.ntmps24
    go_wp2_with (first | (go_at_call 39; (with_reducible refine (HCB.out _ KX.out).mono ?_); rintro e x2 ⟨y2, d2, rfl, r2, k2, k2b⟩; have RY := hide r2; have KY := hide k2; have KYB := hide k2b; clear r2 k2 k2b) | (go_at_call 39; (with_reducible refine (HCA.out _ (by first | (with_reducible exact KK.out) | (with_reducible exact low_alloc KK.out _) | (with_reducible exact low_alloc (low_alloc KK.out _) _))).mono ?_); rintro e x1 ⟨y1, d1, rfl, r1, k1, -⟩; have RX := hide r1; have KX := hide k1; clear r1 k1) | fail)
    go_ret3
    exact itd_no2 HR.out HA.out.len HB.out.len RX.out RY.out KYB.out KY.out
  · rcases (show j < 0 ∨ (n : Int) < j ∨ (0 ≤ j ∧ j < (n : Int)) ∨ j = (n : Int) by omega) with hj | hj | hj | hj
    · have fi0 : 0 ≤ i := by omega
      have fi1 : i < (m : Int) := by omega
      have fi2 : i ≤ (m : Int) := by omega
      have fi3 : ¬ (m : Int) ≤ i := by omega
      have fi4 : ¬ (m : Int) < i := by omega
      have fi5 : ¬ i < 0 := by omega
      have fj0 : j < 0 := by omega
      have fj1 : ¬ 0 ≤ j := by omega
      obtain ⟨⟨s, it⟩, htk⟩ : ∃ q, tkF A i = q := ⟨_, rfl⟩
      obtain ⟨b, hwf⟩ := whF_tk A i
      rw [htk] at hwf
      obtain ⟨q, hq⟩ : ∃ q, (outM s it A).length = q := ⟨_, rfl⟩
      have HTK := hide htk
      have HWF := hide hwf
      have HQ := hide hq
      clear hi hj htk hq
      cases b with
      | false =>
        have HR : Hid (relM A B i j k = (A, B, false)) := by show _ = _; unfold relM; rw [hwf]; rfl
        clear hwf
        go_enter Try.func24, Try.ntmps24
        go_wp2_with (first | (go_at_call 39; (with_reducible refine (HCB.out _ KX.out).mono ?_); rintro e x2 ⟨y2, d2, rfl, r2, k2, k2b⟩; have RY := hide r2; have KY := hide k2; have KYB := hide k2b; clear r2 k2 k2b) | (go_at_call 39; (with_reducible refine (HCA.out _ (by first | (with_reducible exact KK.out) | (with_reducible exact low_alloc KK.out _) | (with_reducible exact low_alloc (low_alloc KK.out _) _))).mono ?_); rintro e x1 ⟨y1, d1, rfl, r1, k1, -⟩; have RX := hide r1; have KX := hide k1; clear r1 k1) | (go_at_call 40; (with_reducible refine (rwhole_at HA.out (by omega) fi0 fi1 HTK.out HWF.out HQ.out).mono ?_); rintro e w1 ⟨a1, c1, rfl, r1, k1⟩; have R1 := hide r1; have K1 := hide k1; clear r1 k1 KK; have KK := K1) | fail)
        go_ret3
        exact itd_no2 HR.out HA.out.len HB.out.len RX.out RY.out KYB.out KY.out
      | true =>
        obtain ⟨f, hf⟩ : ∃ f, fitB s n j k = f := ⟨_, rfl⟩
        have HF := hide hf
        cases f with
        | false =>
          have HR : Hid (relM A B i j k = (A, B, false)) := by show _ = _; unfold relM; rw [hwf]; simp only [if_true, HB.out.len, hf]; rfl
          clear hwf hf
          go_enter Try.func24, Try.ntmps24
          go_wp2_with (first | (go_at_call 39; (with_reducible refine (HCB.out _ KX.out).mono ?_); rintro e x2 ⟨y2, d2, rfl, r2, k2, k2b⟩; have RY := hide r2; have KY := hide k2; have KYB := hide k2b; clear r2 k2 k2b) | (go_at_call 39; (with_reducible refine (HCA.out _ (by first | (with_reducible exact KK.out) | (with_reducible exact low_alloc KK.out _) | (with_reducible exact low_alloc (low_alloc KK.out _) _))).mono ?_); rintro e x1 ⟨y1, d1, rfl, r1, k1, -⟩; have RX := hide r1; have KX := hide k1; clear r1 k1) | (go_at_call 41; (with_reducible refine (rput_no (HB.out.on (low_alloc K1.out _)) (by omega) HF.out).mono ?_); rintro e w2 ⟨a2, q2, c2, rfl, k2⟩; have K2 : Hid (Below w.heap.size w w2) := (below_on (low_alloc K1.out _) k2); clear k2 KK; have KK := K2) | (go_at_call 40; (with_reducible refine (rwhole_at HA.out (by omega) fi0 fi1 HTK.out HWF.out HQ.out).mono ?_); rintro e w1 ⟨a1, c1, rfl, r1, k1⟩; have R1 := hide r1; have K1 := hide k1; clear r1 k1 KK; have KK := K1) | fail)
          go_ret3
          exact itd_no2 HR.out HA.out.len HB.out.len RX.out RY.out KYB.out KY.out
        | true =>
          obtain ⟨p, hp⟩ : ∃ p, n + visN s = p := ⟨_, rfl⟩
          obtain ⟨PL, hPL⟩ : ∃ L, putL s it B j.toNat k.toNat = L := ⟨_, rfl⟩
          have HPN := hide hp
          have HPL := hide hPL
          have HE2 : Hid (PL.length = p) := by show _ = _; rw [← hPL, put_len (by rw [HB.out.len]; exact hf), HB.out.len, hp]
          have HR : Hid (relM A B i j k = (outM s it A, PL, true)) := by show _ = _; unfold relM; rw [hwf]; simp only [if_true, HB.out.len, hf, hPL]
          clear hwf hf hp hPL
          go_enter Try.func24, Try.ntmps24
          go_wp2_with (first | (go_at_call 41; (with_reducible refine (rput_yes (HB.out.on (low_alloc K1.out _)) (by omega) HF.out HPN.out HPL.out).mono ?_); rintro e w2 ⟨a2, c2, rfl, r2, k2⟩; have R2 : Hid (VRow w2 w.heap.size (.slice a2 p c2) PL) := (own_mono r2 (low_alloc K1.out (.cells #[.bool s, .int .i64 it] 67)).size); have R3 := hide (VRow.later R1.out (Nat.le_refl _) (below_on ((Below.refl _ _).alloc (Nat.le_refl _) _) k2)); have K2 : Hid (Below w.heap.size w w2) := (below_on (low_alloc K1.out _) k2); clear r2 k2 KK; have KK := K2) | (go_at_call 40; (with_reducible refine (rwhole_at HA.out (by omega) fi0 fi1 HTK.out HWF.out HQ.out).mono ?_); rintro e w1 ⟨a1, c1, rfl, r1, k1⟩; have R1 := hide r1; have K1 := hide k1; clear r1 k1 KK; have KK := K1) | fail)
          go_ret3
          exact itd_yes HR.out HQ.out HE2.out R3.out R2.out K2.out
    · have fi0 : 0 ≤ i := by omega
      have fi1 : i < (m : Int) := by omega
      have fi2 : i ≤ (m : Int) := by omega
      have fi3 : ¬ (m : Int) ≤ i := by omega
      have fi4 : ¬ (m : Int) < i := by omega
      have fi5 : ¬ i < 0 := by omega
      have fj0 : 0 ≤ j := by omega
      have fj1 : ¬ j < (n : Int) := by omega
      have fj2 : ¬ j ≤ (n : Int) := by omega
      have fj3 : (n : Int) < j := by omega
      have fj4 : (n : Int) ≤ j := by omega
      have fj5 : ¬ j < 0 := by omega
      obtain ⟨⟨s, it⟩, htk⟩ : ∃ q, tkF A i = q := ⟨_, rfl⟩
      obtain ⟨b, hwf⟩ := whF_tk A i
      rw [htk] at hwf
      obtain ⟨q, hq⟩ : ∃ q, (outM s it A).length = q := ⟨_, rfl⟩
      have HTK := hide htk
      have HWF := hide hwf
      have HQ := hide hq
      clear hi hj htk hq
      cases b with
      | false =>
        have HR : Hid (relM A B i j k = (A, B, false)) := by show _ = _; unfold relM; rw [hwf]; rfl
        clear hwf
        go_enter Try.func24, Try.ntmps24
        go_wp2_with (first | (go_at_call 39; (with_reducible refine (HCB.out _ KX.out).mono ?_); rintro e x2 ⟨y2, d2, rfl, r2, k2, k2b⟩; have RY := hide r2; have KY := hide k2; have KYB := hide k2b; clear r2 k2 k2b) | (go_at_call 39; (with_reducible refine (HCA.out _ (by first | (with_reducible exact KK.out) | (with_reducible exact low_alloc KK.out _) | (with_reducible exact low_alloc (low_alloc KK.out _) _))).mono ?_); rintro e x1 ⟨y1, d1, rfl, r1, k1, -⟩; have RX := hide r1; have KX := hide k1; clear r1 k1) | (go_at_call 40; (with_reducible refine (rwhole_at HA.out (by omega) fi0 fi1 HTK.out HWF.out HQ.out).mono ?_); rintro e w1 ⟨a1, c1, rfl, r1, k1⟩; have R1 := hide r1; have K1 := hide k1; clear r1 k1 KK; have KK := K1) | fail)
        go_ret3
        exact itd_no2 HR.out HA.out.len HB.out.len RX.out RY.out KYB.out KY.out
      | true =>
        obtain ⟨f, hf⟩ : ∃ f, fitB s n j k = f := ⟨_, rfl⟩
        have HF := hide hf
        cases f with
        | false =>
          have HR : Hid (relM A B i j k = (A, B, false)) := by show _ = _; unfold relM; rw [hwf]; simp only [if_true, HB.out.len, hf]; rfl
          clear hwf hf
          go_enter Try.func24, Try.ntmps24
          go_wp2_with (first | (go_at_call 39; (with_reducible refine (HCB.out _ KX.out).mono ?_); rintro e x2 ⟨y2, d2, rfl, r2, k2, k2b⟩; have RY := hide r2; have KY := hide k2; have KYB := hide k2b; clear r2 k2 k2b) | (go_at_call 39; (with_reducible refine (HCA.out _ (by first | (with_reducible exact KK.out) | (with_reducible exact low_alloc KK.out _) | (with_reducible exact low_alloc (low_alloc KK.out _) _))).mono ?_); rintro e x1 ⟨y1, d1, rfl, r1, k1, -⟩; have RX := hide r1; have KX := hide k1; clear r1 k1) | (go_at_call 41; (with_reducible refine (rput_no (HB.out.on (low_alloc K1.out _)) (by omega) HF.out).mono ?_); rintro e w2 ⟨a2, q2, c2, rfl, k2⟩; have K2 : Hid (Below w.heap.size w w2) := (below_on (low_alloc K1.out _) k2); clear k2 KK; have KK := K2) | (go_at_call 40; (with_reducible refine (rwhole_at HA.out (by omega) fi0 fi1 HTK.out HWF.out HQ.out).mono ?_); rintro e w1 ⟨a1, c1, rfl, r1, k1⟩; have R1 := hide r1; have K1 := hide k1; clear r1 k1 KK; have KK := K1) | fail)
          go_ret3
          exact itd_no2 HR.out HA.out.len HB.out.len RX.out RY.out KYB.out KY.out
        | true =>
          obtain ⟨p, hp⟩ : ∃ p, n + visN s = p := ⟨_, rfl⟩
          obtain ⟨PL, hPL⟩ : ∃ L, putL s it B j.toNat k.toNat = L := ⟨_, rfl⟩
          have HPN := hide hp
          have HPL := hide hPL
          have HE2 : Hid (PL.length = p) := by show _ = _; rw [← hPL, put_len (by rw [HB.out.len]; exact hf), HB.out.len, hp]
          have HR : Hid (relM A B i j k = (outM s it A, PL, true)) := by show _ = _; unfold relM; rw [hwf]; simp only [if_true, HB.out.len, hf, hPL]
          clear hwf hf hp hPL
          go_enter Try.func24, Try.ntmps24
          go_wp2_with (first | (go_at_call 41; (with_reducible refine (rput_yes (HB.out.on (low_alloc K1.out _)) (by omega) HF.out HPN.out HPL.out).mono ?_); rintro e w2 ⟨a2, c2, rfl, r2, k2⟩; have R2 : Hid (VRow w2 w.heap.size (.slice a2 p c2) PL) := (own_mono r2 (low_alloc K1.out (.cells #[.bool s, .int .i64 it] 67)).size); have R3 := hide (VRow.later R1.out (Nat.le_refl _) (below_on ((Below.refl _ _).alloc (Nat.le_refl _) _) k2)); have K2 : Hid (Below w.heap.size w w2) := (below_on (low_alloc K1.out _) k2); clear r2 k2 KK; have KK := K2) | (go_at_call 40; (with_reducible refine (rwhole_at HA.out (by omega) fi0 fi1 HTK.out HWF.out HQ.out).mono ?_); rintro e w1 ⟨a1, c1, rfl, r1, k1⟩; have R1 := hide r1; have K1 := hide k1; clear r1 k1 KK; have KK := K1) | fail)
          go_ret3
          exact itd_yes HR.out HQ.out HE2.out R3.out R2.out K2.out
    · have fi0 : 0 ≤ i := by omega
      have fi1 : i < (m : Int) := by omega
      have fi2 : i ≤ (m : Int) := by omega
      have fi3 : ¬ (m : Int) ≤ i := by omega
      have fi4 : ¬ (m : Int) < i := by omega
      have fi5 : ¬ i < 0 := by omega
      have fj0 : 0 ≤ j := by omega
      have fj1 : j < (n : Int) := by omega
      have fj2 : j ≤ (n : Int) := by omega
      have fj3 : ¬ (n : Int) ≤ j := by omega
      have fj4 : ¬ (n : Int) < j := by omega
      have fj5 : ¬ j < 0 := by omega
      obtain ⟨⟨s, it⟩, htk⟩ : ∃ q, tkF A i = q := ⟨_, rfl⟩
      obtain ⟨b, hwf⟩ := whF_tk A i
      rw [htk] at hwf
      obtain ⟨q, hq⟩ : ∃ q, (outM s it A).length = q := ⟨_, rfl⟩
      have HTK := hide htk
      have HWF := hide hwf
      have HQ := hide hq
      clear hi hj htk hq
      cases b with
      | false =>
        have HR : Hid (relM A B i j k = (A, B, false)) := by show _ = _; unfold relM; rw [hwf]; rfl
        clear hwf
        go_enter Try.func24, Try.ntmps24
        go_wp2_with (first | (go_at_call 39; (with_reducible refine (HCB.out _ KX.out).mono ?_); rintro e x2 ⟨y2, d2, rfl, r2, k2, k2b⟩; have RY := hide r2; have KY := hide k2; have KYB := hide k2b; clear r2 k2 k2b) | (go_at_call 39; (with_reducible refine (HCA.out _ (by first | (with_reducible exact KK.out) | (with_reducible exact low_alloc KK.out _) | (with_reducible exact low_alloc (low_alloc KK.out _) _))).mono ?_); rintro e x1 ⟨y1, d1, rfl, r1, k1, -⟩; have RX := hide r1; have KX := hide k1; clear r1 k1) | (go_at_call 40; (with_reducible refine (rwhole_at HA.out (by omega) fi0 fi1 HTK.out HWF.out HQ.out).mono ?_); rintro e w1 ⟨a1, c1, rfl, r1, k1⟩; have R1 := hide r1; have K1 := hide k1; clear r1 k1 KK; have KK := K1) | fail)
        go_ret3
        exact itd_no2 HR.out HA.out.len HB.out.len RX.out RY.out KYB.out KY.out
      | true =>
        obtain ⟨f, hf⟩ : ∃ f, fitB s n j k = f := ⟨_, rfl⟩
        have HF := hide hf
        cases f with
        | false =>
          have HR : Hid (relM A B i j k = (A, B, false)) := by show _ = _; unfold relM; rw [hwf]; simp only [if_true, HB.out.len, hf]; rfl
          clear hwf hf
          go_enter Try.func24, Try.ntmps24
          go_wp2_with (first | (go_at_call 39; (with_reducible refine (HCB.out _ KX.out).mono ?_); rintro e x2 ⟨y2, d2, rfl, r2, k2, k2b⟩; have RY := hide r2; have KY := hide k2; have KYB := hide k2b; clear r2 k2 k2b) | (go_at_call 39; (with_reducible refine (HCA.out _ (by first | (with_reducible exact KK.out) | (with_reducible exact low_alloc KK.out _) | (with_reducible exact low_alloc (low_alloc KK.out _) _))).mono ?_); rintro e x1 ⟨y1, d1, rfl, r1, k1, -⟩; have RX := hide r1; have KX := hide k1; clear r1 k1) | (go_at_call 41; (with_reducible refine (rput_no (HB.out.on (low_alloc K1.out _)) (by omega) HF.out).mono ?_); rintro e w2 ⟨a2, q2, c2, rfl, k2⟩; have K2 : Hid (Below w.heap.size w w2) := (below_on (low_alloc K1.out _) k2); clear k2 KK; have KK := K2) | (go_at_call 40; (with_reducible refine (rwhole_at HA.out (by omega) fi0 fi1 HTK.out HWF.out HQ.out).mono ?_); rintro e w1 ⟨a1, c1, rfl, r1, k1⟩; have R1 := hide r1; have K1 := hide k1; clear r1 k1 KK; have KK := K1) | fail)
          go_ret3
          exact itd_no2 HR.out HA.out.len HB.out.len RX.out RY.out KYB.out KY.out
        | true =>
          obtain ⟨p, hp⟩ : ∃ p, n + visN s = p := ⟨_, rfl⟩
          obtain ⟨PL, hPL⟩ : ∃ L, putL s it B j.toNat k.toNat = L := ⟨_, rfl⟩
          have HPN := hide hp
          have HPL := hide hPL
          have HE2 : Hid (PL.length = p) := by show _ = _; rw [← hPL, put_len (by rw [HB.out.len]; exact hf), HB.out.len, hp]
          have HR : Hid (relM A B i j k = (outM s it A, PL, true)) := by show _ = _; unfold relM; rw [hwf]; simp only [if_true, HB.out.len, hf, hPL]
          clear hwf hf hp hPL
          go_enter Try.func24, Try.ntmps24
          go_wp2_with (first | (go_at_call 41; (with_reducible refine (rput_yes (HB.out.on (low_alloc K1.out _)) (by omega) HF.out HPN.out HPL.out).mono ?_); rintro e w2 ⟨a2, c2, rfl, r2, k2⟩; have R2 : Hid (VRow w2 w.heap.size (.slice a2 p c2) PL) := (own_mono r2 (low_alloc K1.out (.cells #[.bool s, .int .i64 it] 67)).size); have R3 := hide (VRow.later R1.out (Nat.le_refl _) (below_on ((Below.refl _ _).alloc (Nat.le_refl _) _) k2)); have K2 : Hid (Below w.heap.size w w2) := (below_on (low_alloc K1.out _) k2); clear r2 k2 KK; have KK := K2) | (go_at_call 40; (with_reducible refine (rwhole_at HA.out (by omega) fi0 fi1 HTK.out HWF.out HQ.out).mono ?_); rintro e w1 ⟨a1, c1, rfl, r1, k1⟩; have R1 := hide r1; have K1 := hide k1; clear r1 k1 KK; have KK := K1) | fail)
          go_ret3
          exact itd_yes HR.out HQ.out HE2.out R3.out R2.out K2.out
    · have fi0 : 0 ≤ i := by omega
      have fi1 : i < (m : Int) := by omega
      have fi2 : i ≤ (m : Int) := by omega
      have fi3 : ¬ (m : Int) ≤ i := by omega
      have fi4 : ¬ (m : Int) < i := by omega
      have fi5 : ¬ i < 0 := by omega
      have fj0 : 0 ≤ j := by omega
      have fj1 : ¬ j < (n : Int) := by omega
      have fj2 : j ≤ (n : Int) := by omega
      have fj3 : (n : Int) ≤ j := by omega
      have fj4 : ¬ j < 0 := by omega
      obtain ⟨⟨s, it⟩, htk⟩ : ∃ q, tkF A i = q := ⟨_, rfl⟩
      obtain ⟨b, hwf⟩ := whF_tk A i
      rw [htk] at hwf
      obtain ⟨q, hq⟩ : ∃ q, (outM s it A).length = q := ⟨_, rfl⟩
      have HTK := hide htk
      have HWF := hide hwf
      have HQ := hide hq
      clear hi hj htk hq
      cases b with
      | false =>
        have HR : Hid (relM A B i j k = (A, B, false)) := by show _ = _; unfold relM; rw [hwf]; rfl
        clear hwf
        go_enter Try.func24, Try.ntmps24
        go_wp2_with (first | (go_at_call 39; (with_reducible refine (HCB.out _ KX.out).mono ?_); rintro e x2 ⟨y2, d2, rfl, r2, k2, k2b⟩; have RY := hide r2; have KY := hide k2; have KYB := hide k2b; clear r2 k2 k2b) | (go_at_call 39; (with_reducible refine (HCA.out _ (by first | (with_reducible exact KK.out) | (with_reducible exact low_alloc KK.out _) | (with_reducible exact low_alloc (low_alloc KK.out _) _))).mono ?_); rintro e x1 ⟨y1, d1, rfl, r1, k1, -⟩; have RX := hide r1; have KX := hide k1; clear r1 k1) | (go_at_call 40; (with_reducible refine (rwhole_at HA.out (by omega) fi0 fi1 HTK.out HWF.out HQ.out).mono ?_); rintro e w1 ⟨a1, c1, rfl, r1, k1⟩; have R1 := hide r1; have K1 := hide k1; clear r1 k1 KK; have KK := K1) | fail)
        go_ret3
        exact itd_no2 HR.out HA.out.len HB.out.len RX.out RY.out KYB.out KY.out
      | true =>
        obtain ⟨f, hf⟩ : ∃ f, fitB s n j k = f := ⟨_, rfl⟩
        have HF := hide hf
        cases f with
        | false =>
          have HR : Hid (relM A B i j k = (A, B, false)) := by show _ = _; unfold relM; rw [hwf]; simp only [if_true, HB.out.len, hf]; rfl
          clear hwf hf
          go_enter Try.func24, Try.ntmps24
          go_wp2_with (first | (go_at_call 39; (with_reducible refine (HCB.out _ KX.out).mono ?_); rintro e x2 ⟨y2, d2, rfl, r2, k2, k2b⟩; have RY := hide r2; have KY := hide k2; have KYB := hide k2b; clear r2 k2 k2b) | (go_at_call 39; (with_reducible refine (HCA.out _ (by first | (with_reducible exact KK.out) | (with_reducible exact low_alloc KK.out _) | (with_reducible exact low_alloc (low_alloc KK.out _) _))).mono ?_); rintro e x1 ⟨y1, d1, rfl, r1, k1, -⟩; have RX := hide r1; have KX := hide k1; clear r1 k1) | (go_at_call 41; (with_reducible refine (rput_no (HB.out.on (low_alloc K1.out _)) (by omega) HF.out).mono ?_); rintro e w2 ⟨a2, q2, c2, rfl, k2⟩; have K2 : Hid (Below w.heap.size w w2) := (below_on (low_alloc K1.out _) k2); clear k2 KK; have KK := K2) | (go_at_call 40; (with_reducible refine (rwhole_at HA.out (by omega) fi0 fi1 HTK.out HWF.out HQ.out).mono ?_); rintro e w1 ⟨a1, c1, rfl, r1, k1⟩; have R1 := hide r1; have K1 := hide k1; clear r1 k1 KK; have KK := K1) | fail)
          go_ret3
          exact itd_no2 HR.out HA.out.len HB.out.len RX.out RY.out KYB.out KY.out
        | true =>
          obtain ⟨p, hp⟩ : ∃ p, n + visN s = p := ⟨_, rfl⟩
          obtain ⟨PL, hPL⟩ : ∃ L, putL s it B j.toNat k.toNat = L := ⟨_, rfl⟩
          have HPN := hide hp
          have HPL := hide hPL
          have HE2 : Hid (PL.length = p) := by show _ = _; rw [← hPL, put_len (by rw [HB.out.len]; exact hf), HB.out.len, hp]
          have HR : Hid (relM A B i j k = (outM s it A, PL, true)) := by show _ = _; unfold relM; rw [hwf]; simp only [if_true, HB.out.len, hf, hPL]
          clear hwf hf hp hPL
          go_enter Try.func24, Try.ntmps24
          go_wp2_with (first | (go_at_call 41; (with_reducible refine (rput_yes (HB.out.on (low_alloc K1.out _)) (by omega) HF.out HPN.out HPL.out).mono ?_); rintro e w2 ⟨a2, c2, rfl, r2, k2⟩; have R2 : Hid (VRow w2 w.heap.size (.slice a2 p c2) PL) := (own_mono r2 (low_alloc K1.out (.cells #[.bool s, .int .i64 it] 67)).size); have R3 := hide (VRow.later R1.out (Nat.le_refl _) (below_on ((Below.refl _ _).alloc (Nat.le_refl _) _) k2)); have K2 : Hid (Below w.heap.size w w2) := (below_on (low_alloc K1.out _) k2); clear r2 k2 KK; have KK := K2) | (go_at_call 40; (with_reducible refine (rwhole_at HA.out (by omega) fi0 fi1 HTK.out HWF.out HQ.out).mono ?_); rintro e w1 ⟨a1, c1, rfl, r1, k1⟩; have R1 := hide r1; have K1 := hide k1; clear r1 k1 KK; have KK := K1) | fail)
          go_ret3
          exact itd_yes HR.out HQ.out HE2.out R3.out R2.out K2.out
  · rcases (show j < 0 ∨ (n : Int) < j ∨ (0 ≤ j ∧ j < (n : Int)) ∨ j = (n : Int) by omega) with hj | hj | hj | hj
    · have hwn : whF A i = none := by unfold whF; rw [HA.out.len, if_neg (by simp only [witB, Bool.and_eq_true, decide_eq_true_eq]; omega)]
      have HR : Hid (relM A B i j k = (A, B, false)) := by show _ = _; unfold relM; rw [hwn]
      have fi0 : 0 ≤ i := by omega
      have fi1 : ¬ i < (m : Int) := by omega
      have fi2 : i ≤ (m : Int) := by omega
      have fi3 : (m : Int) ≤ i := by omega
      have fi4 : ¬ i < 0 := by omega
      have fj0 : j < 0 := by omega
      have fj1 : ¬ 0 ≤ j := by omega
      clear hi hwn hj
      go_enter Try.func24, Try.ntmps24
      go_wp2_with (first | (go_at_call 39; (with_reducible refine (HCB.out _ KX.out).mono ?_); rintro e x2 ⟨y2, d2, rfl, r2, k2, k2b⟩; have RY := hide r2; have KY := hide k2; have KYB := hide k2b; clear r2 k2 k2b) | (go_at_call 39; (with_reducible refine (HCA.out _ (by first | (with_reducible exact KK.out) | (with_reducible exact low_alloc KK.out _) | (with_reducible exact low_alloc (low_alloc KK.out _) _))).mono ?_); rintro e x1 ⟨y1, d1, rfl, r1, k1, -⟩; have RX := hide r1; have KX := hide k1; clear r1 k1) | fail)
      go_ret3
      exact itd_no2 HR.out HA.out.len HB.out.len RX.out RY.out KYB.out KY.out
    · have hwn : whF A i = none := by unfold whF; rw [HA.out.len, if_neg (by simp only [witB, Bool.and_eq_true, decide_eq_true_eq]; omega)]
      have HR : Hid (relM A B i j k = (A, B, false)) := by show _ = _; unfold relM; rw [hwn]
      have fi0 : 0 ≤ i := by omega
      have fi1 : ¬ i < (m : Int) := by omega
      have fi2 : i ≤ (m : Int) := by omega
      have fi3 : (m : Int) ≤ i := by omega
      have fi4 : ¬ i < 0 := by omega
      have fj0 : 0 ≤ j := by omega
      have fj1 : ¬ j < (n : Int) := by omega
      have fj2 : ¬ j ≤ (n : Int) := by omega
      have fj3 : (n : Int) < j := by omega
      have fj4 : (n : Int) ≤ j := by omega
      have fj5 : ¬ j < 0 := by omega
      clear hi hwn hj
      go_enter Try.func24, Try.ntmps24
      go_wp2_with (first | (go_at_call 39; (with_reducible refine (HCB.out _ KX.out).mono ?_); rintro e x2 ⟨y2, d2, rfl, r2, k2, k2b⟩; have RY := hide r2; have KY := hide k2; have KYB := hide k2b; clear r2 k2 k2b) | (go_at_call 39; (with_reducible refine (HCA.out _ (by first | (with_reducible exact KK.out) | (with_reducible exact low_alloc KK.out _) | (with_reducible exact low_alloc (low_alloc KK.out _) _))).mono ?_); rintro e x1 ⟨y1, d1, rfl, r1, k1, -⟩; have RX := hide r1; have KX := hide k1; clear r1 k1) | fail)
      go_ret3
      exact itd_no2 HR.out HA.out.len HB.out.len RX.out RY.out KYB.out KY.out
    · have hwn : whF A i = none := by unfold whF; rw [HA.out.len, if_neg (by simp only [witB, Bool.and_eq_true, decide_eq_true_eq]; omega)]
      have HR : Hid (relM A B i j k = (A, B, false)) := by show _ = _; unfold relM; rw [hwn]
      have fi0 : 0 ≤ i := by omega
      have fi1 : ¬ i < (m : Int) := by omega
      have fi2 : i ≤ (m : Int) := by omega
      have fi3 : (m : Int) ≤ i := by omega
      have fi4 : ¬ i < 0 := by omega
      have fj0 : 0 ≤ j := by omega
      have fj1 : j < (n : Int) := by omega
      have fj2 : j ≤ (n : Int) := by omega
      have fj3 : ¬ (n : Int) ≤ j := by omega
      have fj4 : ¬ (n : Int) < j := by omega
      have fj5 : ¬ j < 0 := by omega
      clear hi hwn hj
      go_enter Try.func24, Try.ntmps24
      go_wp2_with (first | (go_at_call 39; (with_reducible refine (HCB.out _ KX.out).mono ?_); rintro e x2 ⟨y2, d2, rfl, r2, k2, k2b⟩; have RY := hide r2; have KY := hide k2; have KYB := hide k2b; clear r2 k2 k2b) | (go_at_call 39; (with_reducible refine (HCA.out _ (by first | (with_reducible exact KK.out) | (with_reducible exact low_alloc KK.out _) | (with_reducible exact low_alloc (low_alloc KK.out _) _))).mono ?_); rintro e x1 ⟨y1, d1, rfl, r1, k1, -⟩; have RX := hide r1; have KX := hide k1; clear r1 k1) | fail)
      go_ret3
      exact itd_no2 HR.out HA.out.len HB.out.len RX.out RY.out KYB.out KY.out
    · have hwn : whF A i = none := by unfold whF; rw [HA.out.len, if_neg (by simp only [witB, Bool.and_eq_true, decide_eq_true_eq]; omega)]
      have HR : Hid (relM A B i j k = (A, B, false)) := by show _ = _; unfold relM; rw [hwn]
      have fi0 : 0 ≤ i := by omega
      have fi1 : ¬ i < (m : Int) := by omega
      have fi2 : i ≤ (m : Int) := by omega
      have fi3 : (m : Int) ≤ i := by omega
      have fi4 : ¬ i < 0 := by omega
      have fj0 : 0 ≤ j := by omega
      have fj1 : ¬ j < (n : Int) := by omega
      have fj2 : j ≤ (n : Int) := by omega
      have fj3 : (n : Int) ≤ j := by omega
      have fj4 : ¬ j < 0 := by omega
      clear hi hwn hj
      go_enter Try.func24, Try.ntmps24
      go_wp2_with (first | (go_at_call 39; (with_reducible refine (HCB.out _ KX.out).mono ?_); rintro e x2 ⟨y2, d2, rfl, r2, k2, k2b⟩; have RY := hide r2; have KY := hide k2; have KYB := hide k2b; clear r2 k2 k2b) | (go_at_call 39; (with_reducible refine (HCA.out _ (by first | (with_reducible exact KK.out) | (with_reducible exact low_alloc KK.out _) | (with_reducible exact low_alloc (low_alloc KK.out _) _))).mono ?_); rintro e x1 ⟨y1, d1, rfl, r1, k1, -⟩; have RX := hide r1; have KX := hide k1; clear r1 k1) | fail)
      go_ret3
      exact itd_no2 HR.out HA.out.len HB.out.len RX.out RY.out KYB.out KY.out
set_option maxRecDepth 100000 in
set_option maxHeartbeats 12800000 in
theorem inter_swap {w : World} {va vb : Option Addr} {m vc n vd : Nat} {A B : List Vst} (hA : SlI w va m vc A) (hB : SlI w vb n vd B) (hm : m ≤ 400) (hn : n ≤ 400) (i j k : Int) : Calls Try.prog 24 #[.slice va m vc, .slice vb n vd, .int .i64 5, .int .i64 i, .int .i64 j, .int .i64 k] w (ItD w (swpM A B i j k)) := by
  have HA := hide hA
  have HB := hide hB
  have KZ : Hid (Below w.heap.size w w) := Below.refl _ _
  clear hA hB
  have HCA := hide (copied_in HA.out (by omega))
  have HCB := hide (copied_in HB.out (by omega))
  have KK := KZ
  rcases (show i < 0 ∨ (m : Int) < i ∨ (0 ≤ i ∧ i < (m : Int)) ∨ i = (m : Int) by omega) with hi | hi | hi | hi
  · have hwn : whF A i = none := by unfold whF; rw [HA.out.len, if_neg (by simp only [witB, Bool.and_eq_true, decide_eq_true_eq]; omega)]
    have HR : Hid (swpM A B i j k = (A, B, false)) := by show _ = _; unfold swpM; rw [hwn]
    have fi0 : i < 0 := by omega
    have fi1 : ¬ 0 ≤ i := by omega
    clear hi hwn
    go_enter Try.func24, Try.ntmps24
    go_wp2_with (first | (go_at_call 39; (with_reducible refine (HCB.out _ KX.out).mono ?_); rintro e x2 ⟨y2, d2, rfl, r2, k2, k2b⟩; have RY := hide r2; have KY := hide k2; have KYB := hide k2b; clear r2 k2 k2b) | (go_at_call 39; (with_reducible refine (HCA.out _ (by first | (with_reducible exact KK.out) | (with_reducible exact low_alloc KK.out _) | (with_reducible exact low_alloc (low_alloc KK.out _) _))).mono ?_); rintro e x1 ⟨y1, d1, rfl, r1, k1, -⟩; have RX := hide r1; have KX := hide k1; clear r1 k1) | fail)
    go_ret3
    exact itd_no2 HR.out HA.out.len HB.out.len RX.out RY.out KYB.out KY.out
  · have hwn : whF A i = none := by unfold whF; rw [HA.out.len, if_neg (by simp only [witB, Bool.and_eq_true, decide_eq_true_eq]; omega)]
    have HR : Hid (swpM A B i j k = (A, B, false)) := by show _ = _; unfold swpM; rw [hwn]
    have fi0 : 0 ≤ i := by omega
    have fi1 : ¬ i < (m : Int) := by omega
    have fi2 : ¬ i ≤ (m : Int) := by omega
    have fi3 : (m : Int) < i := by omega
    have fi4 : (m : Int) ≤ i := by omega
    have fi5 : ¬ i < 0 := by omega
    clear hi hwn
    go_enter Try.func24, Try.ntmps24
    go_wp2_with (first | (go_at_call 39; (with_reducible refine (HCB.out _ KX.out).mono ?_); rintro e x2 ⟨y2, d2, rfl, r2, k2, k2b⟩; have RY := hide r2; have KY := hide k2; have KYB := hide k2b; clear r2 k2 k2b) | (go_at_call 39; (with_reducible refine (HCA.out _ (by first | (with_reducible exact KK.out) | (with_reducible exact low_alloc KK.out _) | (with_reducible exact low_alloc (low_alloc KK.out _) _))).mono ?_); rintro e x1 ⟨y1, d1, rfl, r1, k1, -⟩; have RX := hide r1; have KX := hide k1; clear r1 k1) | fail)
    go_ret3
    exact itd_no2 HR.out HA.out.len HB.out.len RX.out RY.out KYB.out KY.out
  · rcases (show j < 0 ∨ (n : Int) < j ∨ (0 ≤ j ∧ j < (n : Int)) ∨ j = (n : Int) by omega) with hj | hj | hj | hj
    · have hwn : whF B j = none := by unfold whF; rw [HB.out.len, if_neg (by simp only [witB, Bool.and_eq_true, decide_eq_true_eq]; omega)]
      have HR : Hid (swpM A B i j k = (A, B, false)) := by show _ = _; unfold swpM; cases hx : whF A i with | none => rfl | some st => (obtain ⟨s, it⟩ := st; simp only [hwn])
      have fi0 : 0 ≤ i := by omega
      have fi1 : i < (m : Int) := by omega
      have fi2 : i ≤ (m : Int) := by omega
      have fi3 : ¬ (m : Int) ≤ i := by omega
      have fi4 : ¬ (m : Int) < i := by omega
      have fi5 : ¬ i < 0 := by omega
      have fj0 : j < 0 := by omega
      have fj1 : ¬ 0 ≤ j := by omega
      clear hi hwn hj
      go_enter Try.func24, Try.ntmps24
      go_wp2_with (first | (go_at_call 39; (with_reducible refine (HCB.out _ KX.out).mono ?_); rintro e x2 ⟨y2, d2, rfl, r2, k2, k2b⟩; have RY := hide r2; have KY := hide k2; have KYB := hide k2b; clear r2 k2 k2b) | (go_at_call 39; (with_reducible refine (HCA.out _ (by first | (with_reducible exact KK.out) | (with_reducible exact low_alloc KK.out _) | (with_reducible exact low_alloc (low_alloc KK.out _) _))).mono ?_); rintro e x1 ⟨y1, d1, rfl, r1, k1, -⟩; have RX := hide r1; have KX := hide k1; clear r1 k1) | fail)
      go_ret3
      exact itd_no2 HR.out HA.out.len HB.out.len RX.out RY.out KYB.out KY.out
    · have hwn : whF B j = none := by unfold whF; rw [HB.out.len, if_neg (by simp only [witB, Bool.and_eq_true, decide_eq_true_eq]; omega)]
      have HR : Hid (swpM A B i j k = (A, B, false)) := by show _ = _; unfold swpM; cases hx : whF A i with | none => rfl | some st => (obtain ⟨s, it⟩ := st; simp only [hwn])
      have fi0 : 0 ≤ i := by omega
      have fi1 : i < (m : Int) := by omega
      have fi2 : i ≤ (m : Int) := by omega
      have fi3 : ¬ (m : Int) ≤ i := by omega
      have fi4 : ¬ (m : Int) < i := by omega
      have fi5 : ¬ i < 0 := by omega
      have fj0 : 0 ≤ j := by omega
      have fj1 : ¬ j < (n : Int) := by omega
      have fj2 : ¬ j ≤ (n : Int) := by omega
      have fj3 : (n : Int) < j := by omega
      have fj4 : (n : Int) ≤ j := by omega
      have fj5 : ¬ j < 0 := by omega
      clear hi hwn hj
      go_enter Try.func24, Try.ntmps24
      go_wp2_with (first | (go_at_call 39; (with_reducible refine (HCB.out _ KX.out).mono ?_); rintro e x2 ⟨y2, d2, rfl, r2, k2, k2b⟩; have RY := hide r2; have KY := hide k2; have KYB := hide k2b; clear r2 k2 k2b) | (go_at_call 39; (with_reducible refine (HCA.out _ (by first | (with_reducible exact KK.out) | (with_reducible exact low_alloc KK.out _) | (with_reducible exact low_alloc (low_alloc KK.out _) _))).mono ?_); rintro e x1 ⟨y1, d1, rfl, r1, k1, -⟩; have RX := hide r1; have KX := hide k1; clear r1 k1) | fail)
      go_ret3
      exact itd_no2 HR.out HA.out.len HB.out.len RX.out RY.out KYB.out KY.out
    · have fi0 : 0 ≤ i := by omega
      have fi1 : i < (m : Int) := by omega
      have fi2 : i ≤ (m : Int) := by omega
      have fi3 : ¬ (m : Int) ≤ i := by omega
      have fi4 : ¬ (m : Int) < i := by omega
      have fi5 : ¬ i < 0 := by omega
      have fj0 : 0 ≤ j := by omega
      have fj1 : j < (n : Int) := by omega
      have fj2 : j ≤ (n : Int) := by omega
      have fj3 : ¬ (n : Int) ≤ j := by omega
      have fj4 : ¬ (n : Int) < j := by omega
      have fj5 : ¬ j < 0 := by omega
      obtain ⟨⟨s, it⟩, htk⟩ : ∃ q, tkF A i = q := ⟨_, rfl⟩
      obtain ⟨b1, hwf⟩ := whF_tk A i
      rw [htk] at hwf
      obtain ⟨q, hq⟩ : ∃ q, (outM s it A).length = q := ⟨_, rfl⟩
      obtain ⟨⟨s', it'⟩, htk2⟩ : ∃ q, tkF B j = q := ⟨_, rfl⟩
      obtain ⟨b2, hwf2⟩ := whF_tk B j
      rw [htk2] at hwf2
      obtain ⟨q', hq2⟩ : ∃ q, (outM s' it' B).length = q := ⟨_, rfl⟩
      have hqm : q ≤ 400 := by have h9 := out_le s it A; rw [hq, HA.out.len] at h9; omega
      have hqn : q' ≤ 400 := by have h9 := out_le s' it' B; rw [hq2, HB.out.len] at h9; omega
      have HTK := hide htk
      have HQ := hide hq
      have HTK2 := hide htk2
      have HQ2 := hide hq2
      clear hi hj htk htk2 hq2
      cases b1 with
      | false =>
        have HR : Hid (swpM A B i j k = (A, B, false)) := by show _ = _; unfold swpM; rw [hwf]; rfl
        have HWF : Hid (whF A i = none) := hwf
        clear hq
        cases b2 with
        | false =>
          have HWF2 : Hid (whF B j = none) := hwf2
          clear hwf hwf2
          rcases (show i ≤ (q : Int) ∨ (q : Int) < i by omega) with hfc | hfc
          · have f1 : ¬ (q : Int) < i := by omega
            have f2 : ¬ i > (q : Int) := by omega
            go_enter Try.func24, Try.ntmps24
            go_wp2_with (first | (go_at_call 39; (with_reducible refine (HCB.out _ KX.out).mono ?_); rintro e x2 ⟨y2, d2, rfl, r2, k2, k2b⟩; have RY := hide r2; have KY := hide k2; have KYB := hide k2b; clear r2 k2 k2b) | (go_at_call 39; (with_reducible refine (HCA.out _ (by first | (with_reducible exact KK.out) | (with_reducible exact low_alloc KK.out _) | (with_reducible exact low_alloc (low_alloc KK.out _) _))).mono ?_); rintro e x1 ⟨y1, d1, rfl, r1, k1, -⟩; have RX := hide r1; have KX := hide k1; clear r1 k1) | (go_at_call 40; (with_reducible refine (rwhole_f (HB.out.on (low_alloc K1.out _)) (by omega) fj0 fj1 HTK2.out HWF2.out HQ2.out).mono ?_); rintro e w2 ⟨a2, c2, rfl, r2, k2⟩; have S2 := hide (SlI.row r2 HQ2.out (by omega)); have B2 : Hid (Below w1.heap.size w1 w2) := (below_on ((Below.refl _ _).alloc (Nat.le_refl _) _) k2); have K2 := hide (below_on K1.out B2.out); have HX2 : Hid (w2.heap[w1.heap.size]? = some (.cells #[.bool s, .int .i64 it] 67)) := ((k2.block _ (by simp)).trans (heap_alloc_new _ _)); clear r2 k2 KK; have KK := K2) | (go_at_call 40; (with_reducible refine (rwhole_f HA.out (by omega) fi0 fi1 HTK.out HWF.out HQ.out).mono ?_); rintro e w1 ⟨a1, c1, rfl, r1, k1⟩; have S1 := hide (SlI.row r1 HQ.out (by omega)); have K1 := hide k1; clear r1 k1 KK; have KK := K1) | fail)
            go_ret3
            exact itd_no2 HR.out HA.out.len HB.out.len RX.out RY.out KYB.out KY.out
          · have f1 : i > (q : Int) := by omega
            have f2 : ¬ i ≤ (q : Int) := by omega
            go_enter Try.func24, Try.ntmps24
            go_wp2_with (first | (go_at_call 39; (with_reducible refine (HCB.out _ KX.out).mono ?_); rintro e x2 ⟨y2, d2, rfl, r2, k2, k2b⟩; have RY := hide r2; have KY := hide k2; have KYB := hide k2b; clear r2 k2 k2b) | (go_at_call 39; (with_reducible refine (HCA.out _ (by first | (with_reducible exact KK.out) | (with_reducible exact low_alloc KK.out _) | (with_reducible exact low_alloc (low_alloc KK.out _) _))).mono ?_); rintro e x1 ⟨y1, d1, rfl, r1, k1, -⟩; have RX := hide r1; have KX := hide k1; clear r1 k1) | (go_at_call 40; (with_reducible refine (rwhole_f (HB.out.on (low_alloc K1.out _)) (by omega) fj0 fj1 HTK2.out HWF2.out HQ2.out).mono ?_); rintro e w2 ⟨a2, c2, rfl, r2, k2⟩; have S2 := hide (SlI.row r2 HQ2.out (by omega)); have B2 : Hid (Below w1.heap.size w1 w2) := (below_on ((Below.refl _ _).alloc (Nat.le_refl _) _) k2); have K2 := hide (below_on K1.out B2.out); have HX2 : Hid (w2.heap[w1.heap.size]? = some (.cells #[.bool s, .int .i64 it] 67)) := ((k2.block _ (by simp)).trans (heap_alloc_new _ _)); clear r2 k2 KK; have KK := K2) | (go_at_call 40; (with_reducible refine (rwhole_f HA.out (by omega) fi0 fi1 HTK.out HWF.out HQ.out).mono ?_); rintro e w1 ⟨a1, c1, rfl, r1, k1⟩; have S1 := hide (SlI.row r1 HQ.out (by omega)); have K1 := hide k1; clear r1 k1 KK; have KK := K1) | fail)
            go_ret3
            exact itd_no2 HR.out HA.out.len HB.out.len RX.out RY.out KYB.out KY.out
        | true =>
          have HWF2 : Hid (whF B j = some (s', it')) := hwf2
          clear hwf hwf2
          rcases (show i ≤ (q : Int) ∨ (q : Int) < i by omega) with hfc | hfc
          · have f1 : ¬ (q : Int) < i := by omega
            have f2 : ¬ i > (q : Int) := by omega
            go_enter Try.func24, Try.ntmps24
            go_wp2_with (first | (go_at_call 39; (with_reducible refine (HCB.out _ KX.out).mono ?_); rintro e x2 ⟨y2, d2, rfl, r2, k2, k2b⟩; have RY := hide r2; have KY := hide k2; have KYB := hide k2b; clear r2 k2 k2b) | (go_at_call 39; (with_reducible refine (HCA.out _ (by first | (with_reducible exact KK.out) | (with_reducible exact low_alloc KK.out _) | (with_reducible exact low_alloc (low_alloc KK.out _) _))).mono ?_); rintro e x1 ⟨y1, d1, rfl, r1, k1, -⟩; have RX := hide r1; have KX := hide k1; clear r1 k1) | (go_at_call 40; (with_reducible refine (rwhole_t (HB.out.on (low_alloc K1.out _)) (by omega) fj0 fj1 HTK2.out HWF2.out HQ2.out).mono ?_); rintro e w2 ⟨a2, c2, rfl, r2, k2⟩; have S2 := hide (SlI.row r2 HQ2.out (by omega)); have B2 : Hid (Below w1.heap.size w1 w2) := (below_on ((Below.refl _ _).alloc (Nat.le_refl _) _) k2); have K2 := hide (below_on K1.out B2.out); have HX2 : Hid (w2.heap[w1.heap.size]? = some (.cells #[.bool s, .int .i64 it] 67)) := ((k2.block _ (by simp)).trans (heap_alloc_new _ _)); clear r2 k2 KK; have KK := K2) | (go_at_call 40; (with_reducible refine (rwhole_f HA.out (by omega) fi0 fi1 HTK.out HWF.out HQ.out).mono ?_); rintro e w1 ⟨a1, c1, rfl, r1, k1⟩; have S1 := hide (SlI.row r1 HQ.out (by omega)); have K1 := hide k1; clear r1 k1 KK; have KK := K1) | fail)
            go_ret3
            exact itd_no2 HR.out HA.out.len HB.out.len RX.out RY.out KYB.out KY.out
          · have f1 : i > (q : Int) := by omega
            have f2 : ¬ i ≤ (q : Int) := by omega
            go_enter Try.func24, Try.ntmps24
            go_wp2_with (first | (go_at_call 39; (with_reducible refine (HCB.out _ KX.out).mono ?_); rintro e x2 ⟨y2, d2, rfl, r2, k2, k2b⟩; have RY := hide r2; have KY := hide k2; have KYB := hide k2b; clear r2 k2 k2b) | (go_at_call 39; (with_reducible refine (HCA.out _ (by first | (with_reducible exact KK.out) | (with_reducible exact low_alloc KK.out _) | (with_reducible exact low_alloc (low_alloc KK.out _) _))).mono ?_); rintro e x1 ⟨y1, d1, rfl, r1, k1, -⟩; have RX := hide r1; have KX := hide k1; clear r1 k1) | (go_at_call 40; (with_reducible refine (rwhole_t (HB.out.on (low_alloc K1.out _)) (by omega) fj0 fj1 HTK2.out HWF2.out HQ2.out).mono ?_); rintro e w2 ⟨a2, c2, rfl, r2, k2⟩; have S2 := hide (SlI.row r2 HQ2.out (by omega)); have B2 : Hid (Below w1.heap.size w1 w2) := (below_on ((Below.refl _ _).alloc (Nat.le_refl _) _) k2); have K2 := hide (below_on K1.out B2.out); have HX2 : Hid (w2.heap[w1.heap.size]? = some (.cells #[.bool s, .int .i64 it] 67)) := ((k2.block _ (by simp)).trans (heap_alloc_new _ _)); clear r2 k2 KK; have KK := K2) | (go_at_call 40; (with_reducible refine (rwhole_f HA.out (by omega) fi0 fi1 HTK.out HWF.out HQ.out).mono ?_); rintro e w1 ⟨a1, c1, rfl, r1, k1⟩; have S1 := hide (SlI.row r1 HQ.out (by omega)); have K1 := hide k1; clear r1 k1 KK; have KK := K1) | fail)
            go_ret3
            exact itd_no2 HR.out HA.out.len HB.out.len RX.out RY.out KYB.out KY.out
      | true =>
        have HWF : Hid (whF A i = some (s, it)) := hwf
        cases b2 with
        | false =>
          have HR : Hid (swpM A B i j k = (A, B, false)) := by show _ = _; unfold swpM; rw [hwf]; simp only [if_true, hwf2]; rfl
          have HWF2 : Hid (whF B j = none) := hwf2
          clear hwf hwf2 hq
          rcases (show i ≤ (q : Int) ∨ (q : Int) < i by omega) with hfc | hfc
          · have f1 : ¬ (q : Int) < i := by omega
            have f2 : ¬ i > (q : Int) := by omega
            go_enter Try.func24, Try.ntmps24
            go_wp2_with (first | (go_at_call 39; (with_reducible refine (HCB.out _ KX.out).mono ?_); rintro e x2 ⟨y2, d2, rfl, r2, k2, k2b⟩; have RY := hide r2; have KY := hide k2; have KYB := hide k2b; clear r2 k2 k2b) | (go_at_call 39; (with_reducible refine (HCA.out _ (by first | (with_reducible exact KK.out) | (with_reducible exact low_alloc KK.out _) | (with_reducible exact low_alloc (low_alloc KK.out _) _))).mono ?_); rintro e x1 ⟨y1, d1, rfl, r1, k1, -⟩; have RX := hide r1; have KX := hide k1; clear r1 k1) | (go_at_call 40; (with_reducible refine (rwhole_f (HB.out.on (low_alloc K1.out _)) (by omega) fj0 fj1 HTK2.out HWF2.out HQ2.out).mono ?_); rintro e w2 ⟨a2, c2, rfl, r2, k2⟩; have S2 := hide (SlI.row r2 HQ2.out (by omega)); have B2 : Hid (Below w1.heap.size w1 w2) := (below_on ((Below.refl _ _).alloc (Nat.le_refl _) _) k2); have K2 := hide (below_on K1.out B2.out); have HX2 : Hid (w2.heap[w1.heap.size]? = some (.cells #[.bool s, .int .i64 it] 67)) := ((k2.block _ (by simp)).trans (heap_alloc_new _ _)); clear r2 k2 KK; have KK := K2) | (go_at_call 40; (with_reducible refine (rwhole_t HA.out (by omega) fi0 fi1 HTK.out HWF.out HQ.out).mono ?_); rintro e w1 ⟨a1, c1, rfl, r1, k1⟩; have S1 := hide (SlI.row r1 HQ.out (by omega)); have K1 := hide k1; clear r1 k1 KK; have KK := K1) | fail)
            go_ret3
            exact itd_no2 HR.out HA.out.len HB.out.len RX.out RY.out KYB.out KY.out
          · have f1 : i > (q : Int) := by omega
            have f2 : ¬ i ≤ (q : Int) := by omega
            go_enter Try.func24, Try.ntmps24
            go_wp2_with (first | (go_at_call 39; (with_reducible refine (HCB.out _ KX.out).mono ?_); rintro e x2 ⟨y2, d2, rfl, r2, k2, k2b⟩; have RY := hide r2; have KY := hide k2; have KYB := hide k2b; clear r2 k2 k2b) | (go_at_call 39; (with_reducible refine (HCA.out _ (by first | (with_reducible exact KK.out) | (with_reducible exact low_alloc KK.out _) | (with_reducible exact low_alloc (low_alloc KK.out _) _))).mono ?_); rintro e x1 ⟨y1, d1, rfl, r1, k1, -⟩; have RX := hide r1; have KX := hide k1; clear r1 k1) | (go_at_call 40; (with_reducible refine (rwhole_f (HB.out.on (low_alloc K1.out _)) (by omega) fj0 fj1 HTK2.out HWF2.out HQ2.out).mono ?_); rintro e w2 ⟨a2, c2, rfl, r2, k2⟩; have S2 := hide (SlI.row r2 HQ2.out (by omega)); have B2 : Hid (Below w1.heap.size w1 w2) := (below_on ((Below.refl _ _).alloc (Nat.le_refl _) _) k2); have K2 := hide (below_on K1.out B2.out); have HX2 : Hid (w2.heap[w1.heap.size]? = some (.cells #[.bool s, .int .i64 it] 67)) := ((k2.block _ (by simp)).trans (heap_alloc_new _ _)); clear r2 k2 KK; have KK := K2) | (go_at_call 40; (with_reducible refine (rwhole_t HA.out (by omega) fi0 fi1 HTK.out HWF.out HQ.out).mono ?_); rintro e w1 ⟨a1, c1, rfl, r1, k1⟩; have S1 := hide (SlI.row r1 HQ.out (by omega)); have K1 := hide k1; clear r1 k1 KK; have KK := K1) | fail)
            go_ret3
            exact itd_no2 HR.out HA.out.len HB.out.len RX.out RY.out KYB.out KY.out
        | true =>
          have HWF2 : Hid (whF B j = some (s', it')) := hwf2
          rcases (show i ≤ (q : Int) ∨ (q : Int) < i by omega) with hfc | hfc
          · have f1 : ¬ (q : Int) < i := by omega
            have f2 : ¬ i > (q : Int) := by omega
            have hmin : min i (q : Int) = i := by omega
            obtain ⟨f, hf⟩ : ∃ f, fitB s' q i k = f := ⟨_, rfl⟩
            have HF := hide hf
            cases f with
            | false =>
              have HR : Hid (swpM A B i j k = (A, B, false)) := by show _ = _; unfold swpM; rw [hwf]; simp only [if_true, hwf2, hq, hmin, hf]; rfl
              clear hwf hwf2 hf hq hmin
              go_enter Try.func24, Try.ntmps24
              go_wp2_with (first | (go_at_call 39; (with_reducible refine (HCB.out _ KX.out).mono ?_); rintro e x2 ⟨y2, d2, rfl, r2, k2, k2b⟩; have RY := hide r2; have KY := hide k2; have KYB := hide k2b; clear r2 k2 k2b) | (go_at_call 39; (with_reducible refine (HCA.out _ (by first | (with_reducible exact KK.out) | (with_reducible exact low_alloc KK.out _) | (with_reducible exact low_alloc (low_alloc KK.out _) _))).mono ?_); rintro e x1 ⟨y1, d1, rfl, r1, k1, -⟩; have RX := hide r1; have KX := hide k1; clear r1 k1) | (go_at_call 41; (with_reducible refine (rput_no ((S1.out.on B2.out).on ((Below.refl _ _).alloc (Nat.le_refl _) _)) (by omega) HF.out).mono ?_); rintro e w3 ⟨a3, q3, c3, rfl, k3⟩; have K3 : Hid (Below w.heap.size w w3) := (below_on (low_alloc K2.out _) k3); clear k3 KK; have KK := K3) | (go_at_call 40; (with_reducible refine (rwhole_t (HB.out.on (low_alloc K1.out _)) (by omega) fj0 fj1 HTK2.out HWF2.out HQ2.out).mono ?_); rintro e w2 ⟨a2, c2, rfl, r2, k2⟩; have S2 := hide (SlI.row r2 HQ2.out (by omega)); have B2 : Hid (Below w1.heap.size w1 w2) := (below_on ((Below.refl _ _).alloc (Nat.le_refl _) _) k2); have K2 := hide (below_on K1.out B2.out); have HX2 : Hid (w2.heap[w1.heap.size]? = some (.cells #[.bool s, .int .i64 it] 67)) := ((k2.block _ (by simp)).trans (heap_alloc_new _ _)); clear r2 k2 KK; have KK := K2) | (go_at_call 40; (with_reducible refine (rwhole_t HA.out (by omega) fi0 fi1 HTK.out HWF.out HQ.out).mono ?_); rintro e w1 ⟨a1, c1, rfl, r1, k1⟩; have S1 := hide (SlI.row r1 HQ.out (by omega)); have K1 := hide k1; clear r1 k1 KK; have KK := K1) | fail)
              go_ret3
              exact itd_no2 HR.out HA.out.len HB.out.len RX.out RY.out KYB.out KY.out
            | true =>
              obtain ⟨p, hp⟩ : ∃ p, q + visN s' = p := ⟨_, rfl⟩
              obtain ⟨PL, hPL⟩ : ∃ L, putL s' it' (outM s it A) (i).toNat k.toNat = L := ⟨_, rfl⟩
              obtain ⟨L2, hL2⟩ : ∃ L, outM s' it' B ++ visL s it = L := ⟨_, rfl⟩
              obtain ⟨vn, hvn⟩ : ∃ v, visN s = v := ⟨_, rfl⟩
              obtain ⟨p2, hp2⟩ : ∃ p, q' + vn + 0 = p := ⟨_, rfl⟩
              have hv2 : vn ≤ 2 := by rw [← hvn]; exact (visN_le s).2
              have hv3 := (visN_le s').2
              have HVN := hide hvn
              have HPN := hide hp
              have HPL := hide hPL
              have HN1 := hide hp2
              have HL1 : Hid (outM s' it' B ++ (visL s it ++ []) = L2) := by show _ = _; rw [List.append_nil]; exact hL2
              have hp29 : p2 ≤ 800 := by omega
              have HE1 : Hid (PL.length = p) := by show _ = _; rw [← hPL, put_len (by rw [hq]; exact hf), hq, hp]
              have HE2 : Hid (L2.length = p2) := by show _ = _; rw [← hL2, List.length_append, HQ2.out, visL_len, hvn]; omega
              have HR : Hid (swpM A B i j k = (PL, L2, true)) := by show _ = _; unfold swpM; rw [hwf]; simp only [if_true, hwf2, hq, hmin, hf, hPL, hL2]
              clear hwf hwf2 hf hq hp hPL hL2 hvn hp2 hmin hv3
              go_enter Try.func24, Try.ntmps24
              go_wp2_with (first | (go_at_call 36; (with_reducible refine (join_at HN1.out HL1.out (S2.out.on (below_on B3.out B4.out)) Q4.out (nil_sl _) (by omega)).mono ?_); rintro e w5 ⟨a5, c5, rfl, r5, k5⟩; have R5 := hide (own_mono r5.1 K4.out.size); have R6 := hide (VRow.later R3.out (Nat.le_refl _) (below_on B4.out k5)); have K5 := hide (below_on K4.out k5); clear r5 k5 KK; have KK := K5) | (go_at_call 47; refine (rvis_any _ _ _).mono ?_; rintro e w4 ⟨a4, c4, rfl, q4, k4⟩; rw [HVN.out] at q4 ⊢; have Q4 := hide q4; have B4 := hide k4; have K4 := hide (below_on K3.out k4); clear q4 k4 KK; have KK := K4) | (go_at_call 41; (with_reducible refine (rput_yes ((S1.out.on B2.out).on ((Below.refl _ _).alloc (Nat.le_refl _) _)) (by omega) HF.out HPN.out HPL.out).mono ?_); rintro e w3 ⟨a3, c3, rfl, r3, k3⟩; have R3 : Hid (VRow w3 w.heap.size (.slice a3 p c3) PL) := (own_mono r3 (low_alloc K2.out (.cells #[.bool s', .int .i64 it'] 67)).size); have B3 : Hid (Below w2.heap.size w2 w3) := (below_on ((Below.refl _ _).alloc (Nat.le_refl _) _) k3); have K3 := hide (below_on K2.out B3.out); have HX3 := hide ((B3.out.block _ (lt_of_block HX2.out)).trans HX2.out); have x1 : w3.cell? ⟨w1.heap.size, 0, none⟩ = some (.bool s) := (cell_of_row _ _ _ _ _ _ HX3.out); have x2 : w3.cell? ⟨w1.heap.size, 1, none⟩ = some (.int .i64 it) := (cell_of_row _ _ _ _ _ _ HX3.out); clear r3 k3 KK; have KK := K3) | (go_at_call 40; (with_reducible refine (rwhole_t (HB.out.on (low_alloc K1.out _)) (by omega) fj0 fj1 HTK2.out HWF2.out HQ2.out).mono ?_); rintro e w2 ⟨a2, c2, rfl, r2, k2⟩; have S2 := hide (SlI.row r2 HQ2.out (by omega)); have B2 : Hid (Below w1.heap.size w1 w2) := (below_on ((Below.refl _ _).alloc (Nat.le_refl _) _) k2); have K2 := hide (below_on K1.out B2.out); have HX2 : Hid (w2.heap[w1.heap.size]? = some (.cells #[.bool s, .int .i64 it] 67)) := ((k2.block _ (by simp)).trans (heap_alloc_new _ _)); clear r2 k2 KK; have KK := K2) | (go_at_call 40; (with_reducible refine (rwhole_t HA.out (by omega) fi0 fi1 HTK.out HWF.out HQ.out).mono ?_); rintro e w1 ⟨a1, c1, rfl, r1, k1⟩; have S1 := hide (SlI.row r1 HQ.out (by omega)); have K1 := hide k1; clear r1 k1 KK; have KK := K1) | fail)
              go_ret3
              exact itd_yes HR.out HE1.out HE2.out R6.out R5.out K5.out
          · have f1 : i > (q : Int) := by omega
            have f2 : ¬ i ≤ (q : Int) := by omega
            have hmin : min i (q : Int) = (q : Int) := by omega
            obtain ⟨f, hf⟩ : ∃ f, fitB s' q (q : Int) k = f := ⟨_, rfl⟩
            have HF := hide hf
            cases f with
            | false =>
              have HR : Hid (swpM A B i j k = (A, B, false)) := by show _ = _; unfold swpM; rw [hwf]; simp only [if_true, hwf2, hq, hmin, hf]; rfl
              clear hwf hwf2 hf hq hmin
              go_enter Try.func24, Try.ntmps24
              go_wp2_with (first | (go_at_call 39; (with_reducible refine (HCB.out _ KX.out).mono ?_); rintro e x2 ⟨y2, d2, rfl, r2, k2, k2b⟩; have RY := hide r2; have KY := hide k2; have KYB := hide k2b; clear r2 k2 k2b) | (go_at_call 39; (with_reducible refine (HCA.out _ (by first | (with_reducible exact KK.out) | (with_reducible exact low_alloc KK.out _) | (with_reducible exact low_alloc (low_alloc KK.out _) _))).mono ?_); rintro e x1 ⟨y1, d1, rfl, r1, k1, -⟩; have RX := hide r1; have KX := hide k1; clear r1 k1) | (go_at_call 41; (with_reducible refine (rput_no ((S1.out.on B2.out).on ((Below.refl _ _).alloc (Nat.le_refl _) _)) (by omega) HF.out).mono ?_); rintro e w3 ⟨a3, q3, c3, rfl, k3⟩; have K3 : Hid (Below w.heap.size w w3) := (below_on (low_alloc K2.out _) k3); clear k3 KK; have KK := K3) | (go_at_call 40; (with_reducible refine (rwhole_t (HB.out.on (low_alloc K1.out _)) (by omega) fj0 fj1 HTK2.out HWF2.out HQ2.out).mono ?_); rintro e w2 ⟨a2, c2, rfl, r2, k2⟩; have S2 := hide (SlI.row r2 HQ2.out (by omega)); have B2 : Hid (Below w1.heap.size w1 w2) := (below_on ((Below.refl _ _).alloc (Nat.le_refl _) _) k2); have K2 := hide (below_on K1.out B2.out); have HX2 : Hid (w2.heap[w1.heap.size]? = some (.cells #[.bool s, .int .i64 it] 67)) := ((k2.block _ (by simp)).trans (heap_alloc_new _ _)); clear r2 k2 KK; have KK := K2) | (go_at_call 40; (with_reducible refine (rwhole_t HA.out (by omega) fi0 fi1 HTK.out HWF.out HQ.out).mono ?_); rintro e w1 ⟨a1, c1, rfl, r1, k1⟩; have S1 := hide (SlI.row r1 HQ.out (by omega)); have K1 := hide k1; clear r1 k1 KK; have KK := K1) | fail)
              go_ret3
              exact itd_no2 HR.out HA.out.len HB.out.len RX.out RY.out KYB.out KY.out
            | true =>
              obtain ⟨p, hp⟩ : ∃ p, q + visN s' = p := ⟨_, rfl⟩
              obtain ⟨PL, hPL⟩ : ∃ L, putL s' it' (outM s it A) ((q : Int)).toNat k.toNat = L := ⟨_, rfl⟩
              obtain ⟨L2, hL2⟩ : ∃ L, outM s' it' B ++ visL s it = L := ⟨_, rfl⟩
              obtain ⟨vn, hvn⟩ : ∃ v, visN s = v := ⟨_, rfl⟩
              obtain ⟨p2, hp2⟩ : ∃ p, q' + vn + 0 = p := ⟨_, rfl⟩
              have hv2 : vn ≤ 2 := by rw [← hvn]; exact (visN_le s).2
              have hv3 := (visN_le s').2
              have HVN := hide hvn
              have HPN := hide hp
              have HPL := hide hPL
              have HN1 := hide hp2
              have HL1 : Hid (outM s' it' B ++ (visL s it ++ []) = L2) := by show _ = _; rw [List.append_nil]; exact hL2
              have hp29 : p2 ≤ 800 := by omega
              have HE1 : Hid (PL.length = p) := by show _ = _; rw [← hPL, put_len (by rw [hq]; exact hf), hq, hp]
              have HE2 : Hid (L2.length = p2) := by show _ = _; rw [← hL2, List.length_append, HQ2.out, visL_len, hvn]; omega
              have HR : Hid (swpM A B i j k = (PL, L2, true)) := by show _ = _; unfold swpM; rw [hwf]; simp only [if_true, hwf2, hq, hmin, hf, hPL, hL2]
              clear hwf hwf2 hf hq hp hPL hL2 hvn hp2 hmin hv3
              go_enter Try.func24, Try.ntmps24
              go_wp2_with (first | (go_at_call 36; (with_reducible refine (join_at HN1.out HL1.out (S2.out.on (below_on B3.out B4.out)) Q4.out (nil_sl _) (by omega)).mono ?_); rintro e w5 ⟨a5, c5, rfl, r5, k5⟩; have R5 := hide (own_mono r5.1 K4.out.size); have R6 := hide (VRow.later R3.out (Nat.le_refl _) (below_on B4.out k5)); have K5 := hide (below_on K4.out k5); clear r5 k5 KK; have KK := K5) | (go_at_call 47; refine (rvis_any _ _ _).mono ?_; rintro e w4 ⟨a4, c4, rfl, q4, k4⟩; rw [HVN.out] at q4 ⊢; have Q4 := hide q4; have B4 := hide k4; have K4 := hide (below_on K3.out k4); clear q4 k4 KK; have KK := K4) | (go_at_call 41; (with_reducible refine (rput_yes ((S1.out.on B2.out).on ((Below.refl _ _).alloc (Nat.le_refl _) _)) (by omega) HF.out HPN.out HPL.out).mono ?_); rintro e w3 ⟨a3, c3, rfl, r3, k3⟩; have R3 : Hid (VRow w3 w.heap.size (.slice a3 p c3) PL) := (own_mono r3 (low_alloc K2.out (.cells #[.bool s', .int .i64 it'] 67)).size); have B3 : Hid (Below w2.heap.size w2 w3) := (below_on ((Below.refl _ _).alloc (Nat.le_refl _) _) k3); have K3 := hide (below_on K2.out B3.out); have HX3 := hide ((B3.out.block _ (lt_of_block HX2.out)).trans HX2.out); have x1 : w3.cell? ⟨w1.heap.size, 0, none⟩ = some (.bool s) := (cell_of_row _ _ _ _ _ _ HX3.out); have x2 : w3.cell? ⟨w1.heap.size, 1, none⟩ = some (.int .i64 it) := (cell_of_row _ _ _ _ _ _ HX3.out); clear r3 k3 KK; have KK := K3) | (go_at_call 40; (with_reducible refine (rwhole_t (HB.out.on (low_alloc K1.out _)) (by omega) fj0 fj1 HTK2.out HWF2.out HQ2.out).mono ?_); rintro e w2 ⟨a2, c2, rfl, r2, k2⟩; have S2 := hide (SlI.row r2 HQ2.out (by omega)); have B2 : Hid (Below w1.heap.size w1 w2) := (below_on ((Below.refl _ _).alloc (Nat.le_refl _) _) k2); have K2 := hide (below_on K1.out B2.out); have HX2 : Hid (w2.heap[w1.heap.size]? = some (.cells #[.bool s, .int .i64 it] 67)) := ((k2.block _ (by simp)).trans (heap_alloc_new _ _)); clear r2 k2 KK; have KK := K2) | (go_at_call 40; (with_reducible refine (rwhole_t HA.out (by omega) fi0 fi1 HTK.out HWF.out HQ.out).mono ?_); rintro e w1 ⟨a1, c1, rfl, r1, k1⟩; have S1 := hide (SlI.row r1 HQ.out (by omega)); have K1 := hide k1; clear r1 k1 KK; have KK := K1) | fail)
              go_ret3
              exact itd_yes HR.out HE1.out HE2.out R6.out R5.out K5.out
    · have hwn : whF B j = none := by unfold whF; rw [HB.out.len, if_neg (by simp only [witB, Bool.and_eq_true, decide_eq_true_eq]; omega)]
      have HR : Hid (swpM A B i j k = (A, B, false)) := by show _ = _; unfold swpM; cases hx : whF A i with | none => rfl | some st => (obtain ⟨s, it⟩ := st; simp only [hwn])
      have fi0 : 0 ≤ i := by omega
      have fi1 : i < (m : Int) := by omega
      have fi2 : i ≤ (m : Int) := by omega
      have fi3 : ¬ (m : Int) ≤ i := by omega
      have fi4 : ¬ (m : Int) < i := by omega
      have fi5 : ¬ i < 0 := by omega
      have fj0 : 0 ≤ j := by omega
      have fj1 : ¬ j < (n : Int) := by omega
      have fj2 : j ≤ (n : Int) := by omega
      have fj3 : (n : Int) ≤ j := by omega
      have fj4 : ¬ j < 0 := by omega
      clear hi hwn hj
      go_enter Try.func24, Try.ntmps24
      go_wp2_with (first | (go_at_call 39; (with_reducible refine (HCB.out _ KX.out).mono ?_); rintro e x2 ⟨y2, d2, rfl, r2, k2, k2b⟩; have RY := hide r2; have KY := hide k2; have KYB := hide k2b; clear r2 k2 k2b) | (go_at_call 39; (with_reducible refine (HCA.out _ (by first | (with_reducible exact KK.out) | (with_reducible exact low_alloc KK.out _) | (with_reducible exact low_alloc (low_alloc KK.out _) _))).mono ?_); rintro e x1 ⟨y1, d1, rfl, r1, k1, -⟩; have RX := hide r1; have KX := hide k1; clear r1 k1) | fail)
      go_ret3
      exact itd_no2 HR.out HA.out.len HB.out.len RX.out RY.out KYB.out KY.out
  · rcases (show j < 0 ∨ (n : Int) < j ∨ (0 ≤ j ∧ j < (n : Int)) ∨ j = (n : Int) by omega) with hj | hj | hj | hj
    · have hwn : whF A i = none := by unfold whF; rw [HA.out.len, if_neg (by simp only [witB, Bool.and_eq_true, decide_eq_true_eq]; omega)]
      have HR : Hid (swpM A B i j k = (A, B, false)) := by show _ = _; unfold swpM; rw [hwn]
      have fi0 : 0 ≤ i := by omega
      have fi1 : ¬ i < (m : Int) := by omega
      have fi2 : i ≤ (m : Int) := by omega
      have fi3 : (m : Int) ≤ i := by omega
      have fi4 : ¬ i < 0 := by omega
      have fj0 : j < 0 := by omega
      have fj1 : ¬ 0 ≤ j := by omega
      clear hi hwn hj
      go_enter Try.func24, Try.ntmps24
      go_wp2_with (first | (go_at_call 39; (with_reducible refine (HCB.out _ KX.out).mono ?_); rintro e x2 ⟨y2, d2, rfl, r2, k2, k2b⟩; have RY := hide r2; have KY := hide k2; have KYB := hide k2b; clear r2 k2 k2b) | (go_at_call 39; (with_reducible refine (HCA.out _ (by first | (with_reducible exact KK.out) | (with_reducible exact low_alloc KK.out _) | (with_reducible exact low_alloc (low_alloc KK.out _) _))).mono ?_); rintro e x1 ⟨y1, d1, rfl, r1, k1, -⟩; have RX := hide r1; have KX := hide k1; clear r1 k1) | fail)
      go_ret3
      exact itd_no2 HR.out HA.out.len HB.out.len RX.out RY.out KYB.out KY.out
    · have hwn : whF A i = none := by unfold whF; rw [HA.out.len, if_neg (by simp only [witB, Bool.and_eq_true, decide_eq_true_eq]; omega)]
      have HR : Hid (swpM A B i j k = (A, B, false)) := by show _ = _; unfold swpM; rw [hwn]
      have fi0 : 0 ≤ i := by omega
      have fi1 : ¬ i < (m : Int) := by omega
      have fi2 : i ≤ (m : Int) := by omega
      have fi3 : (m : Int) ≤ i := by omega
      have fi4 : ¬ i < 0 := by omega
      have fj0 : 0 ≤ j := by omega
      have fj1 : ¬ j < (n : Int) := by omega
      have fj2 : ¬ j ≤ (n : Int) := by omega
      have fj3 : (n : Int) < j := by omega
      have fj4 : (n : Int) ≤ j := by omega
      have fj5 : ¬ j < 0 := by omega
      clear hi hwn hj
      go_enter Try.func24, Try.ntmps24
      go_wp2_with (first | (go_at_call 39; (with_reducible refine (HCB.out _ KX.out).mono ?_); rintro e x2 ⟨y2, d2, rfl, r2, k2, k2b⟩; have RY := hide r2; have KY := hide k2; have KYB := hide k2b; clear r2 k2 k2b) | (go_at_call 39; (with_reducible refine (HCA.out _ (by first | (with_reducible exact KK.out) | (with_reducible exact low_alloc KK.out _) | (with_reducible exact low_alloc (low_alloc KK.out _) _))).mono ?_); rintro e x1 ⟨y1, d1, rfl, r1, k1, -⟩; have RX := hide r1; have KX := hide k1; clear r1 k1) | fail)
      go_ret3
      exact itd_no2 HR.out HA.out.len HB.out.len RX.out RY.out KYB.out KY.out
    · have hwn : whF A i = none := by unfold whF; rw [HA.out.len, if_neg (by simp only [witB, Bool.and_eq_true, decide_eq_true_eq]; omega)]
      have HR : Hid (swpM A B i j k = (A, B, false)) := by show _ = _; unfold swpM; rw [hwn]
      have fi0 : 0 ≤ i := by omega
      have fi1 : ¬ i < (m : Int) := by omega
      have fi2 : i ≤ (m : Int) := by omega
      have fi3 : (m : Int) ≤ i := by omega
      have fi4 : ¬ i < 0 := by omega
      have fj0 : 0 ≤ j := by omega
      have fj1 : j < (n : Int) := by omega
      have fj2 : j ≤ (n : Int) := by omega
      have fj3 : ¬ (n : Int) ≤ j := by omega
      have fj4 : ¬ (n : Int) < j := by omega
      have fj5 : ¬ j < 0 := by omega
      clear hi hwn hj
      go_enter Try.func24, Try.ntmps24
      go_wp2_with (first | (go_at_call 39; (with_reducible refine (HCB.out _ KX.out).mono ?_); rintro e x2 ⟨y2, d2, rfl, r2, k2, k2b⟩; have RY := hide r2; have KY := hide k2; have KYB := hide k2b; clear r2 k2 k2b) | (go_at_call 39; (with_reducible refine (HCA.out _ (by first | (with_reducible exact KK.out) | (with_reducible exact low_alloc KK.out _) | (with_reducible exact low_alloc (low_alloc KK.out _) _))).mono ?_); rintro e x1 ⟨y1, d1, rfl, r1, k1, -⟩; have RX := hide r1; have KX := hide k1; clear r1 k1) | fail)
      go_ret3
      exact itd_no2 HR.out HA.out.len HB.out.len RX.out RY.out KYB.out KY.out
    · have hwn : whF A i = none := by unfold whF; rw [HA.out.len, if_neg (by simp only [witB, Bool.and_eq_true, decide_eq_true_eq]; omega)]
      have HR : Hid (swpM A B i j k = (A, B, false)) := by show _ = _; unfold swpM; rw [hwn]
      have fi0 : 0 ≤ i := by omega
      have fi1 : ¬ i < (m : Int) := by omega
      have fi2 : i ≤ (m : Int) := by omega
      have fi3 : (m : Int) ≤ i := by omega
      have fi4 : ¬ i < 0 := by omega
      have fj0 : 0 ≤ j := by omega
      have fj1 : ¬ j < (n : Int) := by omega
      have fj2 : j ≤ (n : Int) := by omega
      have fj3 : (n : Int) ≤ j := by omega
      have fj4 : ¬ j < 0 := by omega
      clear hi hwn hj
      go_enter Try.func24, Try.ntmps24
      go_wp2_with (first | (go_at_call 39; (with_reducible refine (HCB.out _ KX.out).mono ?_); rintro e x2 ⟨y2, d2, rfl, r2, k2, k2b⟩; have RY := hide r2; have KY := hide k2; have KYB := hide k2b; clear r2 k2 k2b) | (go_at_call 39; (with_reducible refine (HCA.out _ (by first | (with_reducible exact KK.out) | (with_reducible exact low_alloc KK.out _) | (with_reducible exact low_alloc (low_alloc KK.out _) _))).mono ?_); rintro e x1 ⟨y1, d1, rfl, r1, k1, -⟩; have RX := hide r1; have KX := hide k1; clear r1 k1) | fail)
      go_ret3
      exact itd_no2 HR.out HA.out.len HB.out.len RX.out RY.out KYB.out KY.out
end Go.Proofs.Ytdnkmjafkpnliaa
