/-
  What the law of turned graphs (RoadTurns) does.
-/
import Derived.Test.YtgleipojjlpkiaaTurn
import Derived.Test.YtgleipojjlpkiaaCount
namespace Go.Proofs.Ytgleipojjlpkiaa
open Go.RowKit Go.Sort

/-- A graph, the turned one, and that turned again. -/
structure TG (w : World) (g1 g2 g3 n : Nat) (W : Nat → Nat → Option Int) : Prop where
  a : GAt w g1 n W
  b : GAt w g2 n (tab (turnTo n W n))
  c : GAt w g3 n (tab (turnTo n (tab (turnTo n W n)) n))
section
variable {w w' : World} {g1 g2 g3 n : Nat} {W : Nat → Nat → Option Int}
theorem TG.later (h : TG w g1 g2 g3 n W) (f : Below w.heap.size w w') : TG w' g1 g2 g3 n W := ⟨h.a.later f, h.b.later f, h.c.later f⟩
theorem tg_1 (h : TG w g1 g2 g3 n W) (hn : 1 ≤ n ∧ n ≤ 32) (p q : Int) : Calls Try.prog 17 #[.pointer (some ⟨g1, 0, none⟩), .int .i64 p, .int .i64 q] w fun e w' => e = .returned (.int .i64 (wt n W p q)) ∧ TG w' g1 g2 g3 n W ∧ Below w.heap.size w w' := by
  refine (weight_any h.a hn p q).mono ?_
  rintro e w' ⟨rfl, h1⟩
  exact ⟨rfl, h.later h1, h1⟩
theorem tg_2 (h : TG w g1 g2 g3 n W) (hn : 1 ≤ n ∧ n ≤ 32) (p q : Int) : Calls Try.prog 17 #[.pointer (some ⟨g2, 0, none⟩), .int .i64 q, .int .i64 p] w fun e w' => e = .returned (.int .i64 (wt n W p q)) ∧ TG w' g1 g2 g3 n W ∧ Below w.heap.size w w' := by
  refine (weight_any h.b hn q p).mono ?_
  rintro e w' ⟨rfl, h1⟩
  exact ⟨by rw [turn_wt], h.later h1, h1⟩
theorem tg_3 (h : TG w g1 g2 g3 n W) (hn : 1 ≤ n ∧ n ≤ 32) (p q : Int) : Calls Try.prog 17 #[.pointer (some ⟨g3, 0, none⟩), .int .i64 p, .int .i64 q] w fun e w' => e = .returned (.int .i64 (wt n W p q)) ∧ TG w' g1 g2 g3 n W ∧ Below w.heap.size w w' := by
  refine (weight_any h.c hn p q).mono ?_
  rintro e w' ⟨rfl, h1⟩
  exact ⟨by rw [turn_wt, turn_wt], h.later h1, h1⟩
theorem tg_len2 (n : Nat) (W : Nat → Nat → Option Int) : sumLen n (tab (turnTo n W n)) n = sumLen n W n := sum_turn n W _ (fun p q hp hq => turn_tab n W p q hp hq)
end
set_option maxRecDepth 100000 in
set_option maxHeartbeats 3200000 in
theorem turns_bad (n : Int) (a : Option Addr) (m c : Nat) (A : List Arc) (d : Bool) (w : World) (h : ArcsAt w a m A) (hc : a = none → c = 0) (hm : m ≤ 300) (he : (checkM n A).2 ≠ 0) :
    Calls Try.prog 4 #[.agg #[.int .i64 n, .slice a m c], .bool d] w fun e w' => e = .returned (.bool true) ∧ Below w.heap.size w w' := by
  have HA := hide h
  have HC := hide hc
  have HE := hide he
  have HB0 : Hid (Below w.heap.size w (w.alloc (.cells #[.int .i64 n, .slice a m c] 24))) := (Below.refl _ _).alloc (Nat.le_refl _) _
  have HS0 : Hid ((w.alloc (.cells #[.int .i64 n, .slice a m c] 24)).heap.size = w.heap.size + 1) := by show _ = _; simp
  have HN0 := hide (heap_alloc_new w (.cells #[.int .i64 n, .slice a m c] 24))
  have hm2 : ¬ (300 : Int) < (m : Int) := by omega
  have hz : ((checkM n A).2 != 0) = true := by simp [he]
  clear h hc he
  go_enter Try.func4, Try.ntmps4
  go_wp2_with (first | (go_at_call 8; refine (awake_any _).mono ?_; rintro e w1 ⟨rfl, h1⟩; have k1 : w1.heap[w.heap.size]? = some (.cells #[.int .i64 n, .slice a m c] 24 (0, 0)) := (h1.block w.heap.size (by rw [HS0.out]; omega)).trans HN0.out; have c0 := cell_of_row w1 w.heap.size 0 _ _ _ k1; have c1 := cell_of_row w1 w.heap.size 1 _ _ _ k1; simp only [List.getElem?_toArray, List.getElem?_cons_succ, List.getElem?_cons_zero] at c0 c1; have H1 : Hid (Below w.heap.size w w1) := HB0.out.trans (h1.mono (by rw [HS0.out]; omega)); clear h1 k1) | (go_at_call 10; refine (copied_any n a m c A _ (HA.out.later (Nat.le_refl _) H1.out) HC.out (by omega)).mono ?_; rintro e w2 ⟨v, rfl, h2, h3⟩; obtain ⟨a2, c2, rfl, h4⟩ := own_arcs h2 HA.out.len; have H2 := hide (And.intro h4 (H1.out.trans (h3.mono H1.out.size))); clear h2 h3 h4) | (go_at_call 13; refine (metric_any d _).mono ?_; rintro e w3 ⟨rfl, rfl⟩) | (go_at_call 12; refine (new_bad n a2 m c2 A _ _ H2.out.1 HE.out).mono ?_; rintro e w4 ⟨rfl, h4⟩; have H4 : Hid (Below w.heap.size w w4) := H2.out.2.trans (h4.mono H2.out.2.size); clear h4) | (go_at_call 18; refine (turned_nil _).mono ?_; rintro e w5 ⟨rfl, rfl⟩))
  go_ret
  exact ⟨rfl, H4.out⟩
set_option maxRecDepth 100000 in
set_option maxHeartbeats 6400000 in
theorem turns_good (n : Nat) (a : Option Addr) (m c : Nat) (A : List Arc) (d : Bool) (w : World) (h : ArcsAt w a m A) (hc : a = none → c = 0) (hm : m ≤ 300) (he : (checkM n A).2 = 0) :
    Calls Try.prog 4 #[.agg #[.int .i64 n, .slice a m c], .bool d] w fun e w' => e = .returned (.bool true) ∧ Below w.heap.size w w' := by
  obtain ⟨hn0, hl, _⟩ := checkM_ok he
  have hn : 1 ≤ n ∧ n ≤ 32 := by omega
  have HN := hide hn
  have HA := hide h
  have HC := hide hc
  have HE := hide he
  have HB0 : Hid (Below w.heap.size w (w.alloc (.cells #[.int .i64 n, .slice a m c] 24))) := (Below.refl _ _).alloc (Nat.le_refl _) _
  have HS0 : Hid ((w.alloc (.cells #[.int .i64 n, .slice a m c] 24)).heap.size = w.heap.size + 1) := by show _ = _; simp
  have HN0 := hide (heap_alloc_new w (.cells #[.int .i64 n, .slice a m c] 24))
  have hm2 : ¬ (300 : Int) < (m : Int) := by omega
  have HL1 : Hid (sumLen n (tab (legsM (mtM d) A)) n ≤ 300) := by
    show _ ≤ _
    have := sum_tab n (legsM (mtM d) A)
    have := legsM_le (mtM d) A
    omega
  clear h hc he hn0
  go_enter Try.func4, Try.ntmps4
  go_wp2_with (first | (go_at_call 8; refine (awake_any _).mono ?_; rintro e w1 ⟨rfl, h1⟩; have k1 : w1.heap[w.heap.size]? = some (.cells #[.int .i64 n, .slice a m c] 24 (0, 0)) := (h1.block w.heap.size (by rw [HS0.out]; omega)).trans HN0.out; have c0 := cell_of_row w1 w.heap.size 0 _ _ _ k1; have c1 := cell_of_row w1 w.heap.size 1 _ _ _ k1; simp only [List.getElem?_toArray, List.getElem?_cons_succ, List.getElem?_cons_zero] at c0 c1; have H1 : Hid (Below w.heap.size w w1) := HB0.out.trans (h1.mono (by rw [HS0.out]; omega)); clear h1 k1) | (go_at_call 10; refine (copied_any n a m c A _ (HA.out.later (Nat.le_refl _) H1.out) HC.out (by omega)).mono ?_; rintro e w2 ⟨v, rfl, h2, h3⟩; obtain ⟨a2, c2, rfl, h4⟩ := own_arcs h2 HA.out.len; have H2 := hide (And.intro h4 (H1.out.trans (h3.mono H1.out.size))); clear h2 h3 h4) | (go_at_call 13; refine (metric_any d _).mono ?_; rintro e w3 ⟨rfl, rfl⟩) | (go_at_call 12; refine (new_good n a2 m c2 A (mtF d) (mtM d) _ H2.out.1 HE.out (mt_any d A) (mt_enters d)).mono ?_; rintro e w4 ⟨g1, rfl, h4, h5, _⟩; have H4 : Hid (GAt w4 g1 n (tab (legsM (mtM d) A)) ∧ Below w.heap.size w w4) := ⟨h4, H2.out.2.trans (h5.mono H2.out.2.size)⟩; clear h4 h5) | (go_at_call 18; refine (turned_any H5.out.2.1 HN.out (by rw [tg_len2]; exact HL1.out)).mono ?_; rintro e w6 ⟨g3, rfl, h6, h7⟩; have H6 : Hid (TG w6 g1 g2 g3 n (tab (legsM (mtM d) A)) ∧ Below w.heap.size w w6) := ⟨⟨H5.out.1.later h7, H5.out.2.1.later h7, h6⟩, H5.out.2.2.trans (h7.mono H5.out.2.2.size)⟩; clear h6 h7; have LEN := hide (And.intro (len_any H6.out.1.a HN.out) (And.intro (len_any H6.out.1.b HN.out) (And.intro (len_any H6.out.1.c HN.out) (And.intro (places_any H6.out.1.a) (places_any H6.out.1.b))))); rw [tg_len2 n (tab (turnTo n (tab (legsM (mtM d) A)) n)), tg_len2 n (tab (legsM (mtM d) A))] at LEN) | (go_at_call 18; refine (turned_any H4.out.1 HN.out HL1.out).mono ?_; rintro e w5 ⟨g2, rfl, h6, h7⟩; have H5 : Hid (GAt w5 g1 n (tab (legsM (mtM d) A)) ∧ GAt w5 g2 n (tab (turnTo n (tab (legsM (mtM d) A)) n)) ∧ Below w.heap.size w w5) := ⟨H4.out.1.later h7, h6, H4.out.2.trans (h7.mono H4.out.2.size)⟩; clear h6 h7) | (go_at_call 20; have := L3; refine LEN.out.1.mono ?_; rintro e w7 ⟨rfl, rfl⟩) | (go_at_call 20; have := L2; refine LEN.out.2.2.1.mono ?_; rintro e w7 ⟨rfl, rfl⟩; have L3 := hide trivial) | (go_at_call 20; have := L1; refine LEN.out.1.mono ?_; rintro e w7 ⟨rfl, rfl⟩; have L2 := hide trivial) | (go_at_call 20; refine LEN.out.2.1.mono ?_; rintro e w7 ⟨rfl, rfl⟩; have L1 := hide trivial) | (go_at_call 19; have := P1; refine LEN.out.2.2.2.1.mono ?_; rintro e w7 ⟨rfl, rfl⟩) | (go_at_call 19; refine LEN.out.2.2.2.2.mono ?_; rintro e w7 ⟨rfl, rfl⟩; have P1 := hide trivial))
  have H7 : Hid (TG w7 g1 g2 g3 n (tab (legsM (mtM d) A)) ∧ Below w.heap.size w w7) := H6.out
  clear H6 LEN H1 H2 H4 H5 c0 c1 L1 L2 L3 P1
  generalize tab (legsM (mtM d) A) = W at H7 HL1 ⊢
  obtain ⟨B, hB⟩ : ∃ B, w.heap.size = B := ⟨_, rfl⟩
  rw [hB] at H7 ⊢
  have HBB := hide hB
  clear hB
  go_loopw [9] (fun vi wr => ∃ p : Nat, vi = .int .i64 p ∧ p ≤ n ∧ Hid (TG wr g1 g2 g3 n W ∧ Below B w wr)) (fun vi _ => n - (intOf vi).toNat)
  case atStart => exact ⟨0, rfl, Nat.zero_le _, H7.out⟩
  case round =>
    clear H7
    obtain ⟨p, rfl, hp, HR⟩ := hrel
    have HP := hide (places_any HR.out.1.a)
    by_cases hlt : p < n
    · have i1 : (p : Int) < (n : Int) := by omega
      go_wp2_with (go_at_call 19; refine HP.out.mono ?_; rintro e w' ⟨rfl, rfl⟩)
      go_loopw [10] (fun vi wr => ∃ q : Nat, vi = .int .i64 q ∧ q ≤ n ∧ Hid (TG wr g1 g2 g3 n W ∧ Below B w wr)) (fun vi _ => n - (intOf vi).toNat)
      case atStart => exact ⟨0, rfl, Nat.zero_le _, HR.out⟩
      case round =>
        clear HR HP
        obtain ⟨q, rfl, hq, HR⟩ := hrel
        have HP := hide (places_any HR.out.1.a)
        by_cases hlt2 : q < n
        · have i2 : (q : Int) < (n : Int) := by omega
          have HW1 := hide (fun (w : World) (h : TG w g1 g2 g3 n W) => tg_1 h HN.out p q)
          have HW2 := hide (fun (w : World) (h : TG w g1 g2 g3 n W) => tg_2 h HN.out p q)
          have HW3 := hide (fun (w : World) (h : TG w g1 g2 g3 n W) => tg_3 h HN.out p q)
          generalize wt n W p q = y at HW1 HW2 HW3
          have hy : (y != y) = false := by simp
          go_wp2_with (first | (go_at_call 19; refine HP.out.mono ?_; rintro e w' ⟨rfl, rfl⟩) | (go_at_call 17; refine (HW3.out _ K3.out.1).mono ?_; rintro e v4 ⟨rfl, h1, h2⟩; have K4 := hide (And.intro h1 (K3.out.2.trans (h2.mono (Nat.le_trans (Nat.le_of_eq HBB.out.symm) K3.out.2.size)))); clear h1 h2) | (go_at_call 17; refine (HW1.out _ K2.out.1).mono ?_; rintro e v3 ⟨rfl, h1, h2⟩; have K3 := hide (And.intro h1 (K2.out.2.trans (h2.mono (Nat.le_trans (Nat.le_of_eq HBB.out.symm) K2.out.2.size)))); clear h1 h2) | (go_at_call 17; refine (HW2.out _ K1.out.1).mono ?_; rintro e v2 ⟨rfl, h1, h2⟩; have K2 := hide (And.intro h1 (K1.out.2.trans (h2.mono (Nat.le_trans (Nat.le_of_eq HBB.out.symm) K1.out.2.size)))); clear h1 h2) | (go_at_call 17; refine (HW1.out _ HR.out.1).mono ?_; rintro e v1 ⟨rfl, h1, h2⟩; have K1 := hide (And.intro h1 (HR.out.2.trans (h2.mono (Nat.le_trans (Nat.le_of_eq HBB.out.symm) HR.out.2.size)))); clear h1 h2))
          go_roundw
          case rel => exact ⟨q + 1, by go_num, by omega, K4.out⟩
          case measure => simp [intOf]; omega
        · go_wp2_with (go_at_call 19; refine HP.out.mono ?_; rintro e w' ⟨rfl, rfl⟩)
          go_roundw
          case rel => exact ⟨p + 1, by go_num, by omega, HR.out⟩
          case measure => simp [intOf]; omega
    · go_wp2_with (go_at_call 19; refine HP.out.mono ?_; rintro e w' ⟨rfl, rfl⟩)
      go_ret
      rw [HBB.out]
      exact ⟨rfl, HR.out.2⟩
set_option maxRecDepth 100000 in
set_option maxHeartbeats 1600000 in
theorem turns_many (n : Int) (a : Option Addr) (m c : Nat) (d : Bool) (w : World) (hm : 300 < m) (hm3 : m ≤ 9223372036854775807) :
    Calls Try.prog 4 #[.agg #[.int .i64 n, .slice a m c], .bool d] w fun e w' => e = .returned (.bool true) ∧ Below w.heap.size w w' := by
  have HB0 : Hid (Below w.heap.size w (w.alloc (.cells #[.int .i64 n, .slice a m c] 24))) := (Below.refl _ _).alloc (Nat.le_refl _) _
  have HS0 : Hid ((w.alloc (.cells #[.int .i64 n, .slice a m c] 24)).heap.size = w.heap.size + 1) := by show _ = _; simp
  have HN0 := hide (heap_alloc_new w (.cells #[.int .i64 n, .slice a m c] 24))
  have hm2 : (300 : Int) < (m : Int) := by omega
  go_enter Try.func4, Try.ntmps4
  go_wp2_with (first | (go_at_call 8; refine (awake_any _).mono ?_; rintro e w1 ⟨rfl, h1⟩; have k1 : w1.heap[w.heap.size]? = some (.cells #[.int .i64 n, .slice a m c] 24 (0, 0)) := (h1.block w.heap.size (by rw [HS0.out]; omega)).trans HN0.out; have c1 := cell_of_row w1 w.heap.size 1 _ _ _ k1; simp only [List.getElem?_toArray, List.getElem?_cons_succ, List.getElem?_cons_zero] at c1; have H1 : Hid (Below w.heap.size w w1) := HB0.out.trans (h1.mono (by rw [HS0.out]; omega)); clear h1 k1))
  go_ret
  exact ⟨rfl, H1.out⟩
theorem turns_any (n : Int) (a : Option Addr) (m c : Nat) (A : List Arc) (d : Bool) (w : World) (h : ArcsAt w a m A) (hc : a = none → c = 0) :
    Calls Try.prog 4 #[.agg #[.int .i64 n, .slice a m c], .bool d] w fun e w' => e = .returned (.bool true) ∧ Below w.heap.size w w' := by
  by_cases hm : 300 < m
  · exact turns_many n a m c d w hm h.max
  · by_cases he : (checkM n A).2 = 0
    · obtain ⟨hn, _⟩ := checkM_ok he
      obtain ⟨k, rfl⟩ : ∃ k : Nat, n = (k : Int) := ⟨n.toNat, by omega⟩
      exact turns_good k a m c A d w h hc (by omega) he
    · exact turns_bad n a m c A d w h hc (by omega) he
end Go.Proofs.Ytgleipojjlpkiaa
