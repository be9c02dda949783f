/-
  What the call of container/heap's down does over an order.
-/
import Derived.Test.YtojkdmkeankcgaaQUp
namespace Go.Proofs.Ytojkdmkeankcgaa.Qu
open Go.RowKit Go.Maps

section
variable {w : World} {ob mb : Nat} {v : Value} {L M : List Pr} {S : Nat → Prop}
theorem less_at (h : Ord w ob mb v L M S) (i j : Nat) (hi : i < L.length) (hj : j < L.length) {x y : Int} (hx : x = i) (hy : y = j) {b : Bool} (hb : lt (at' L i) (at' L j) = b) :
    Calls Try.prog 133 #[.pointer (some ⟨ob, 0, none⟩), .int .i64 x, .int .i64 y] w fun e w' => e = .returned (.bool b) ∧ Below w.heap.size w w' := by
  subst hx hy hb
  exact less_any h i j hi hj
theorem swap_at (h : Ord w ob mb v L L S) (i j : Nat) (hi : i < L.length) (hj : j < L.length) (hij : i ≠ j) {x y : Int} (hx : x = i) (hy : y = j) :
    Calls Try.prog 136 #[.pointer (some ⟨ob, 0, none⟩), .int .i64 x, .int .i64 y] w fun e w' => e = .returned (.tuple #[]) ∧ Ord w' ob mb v (swp L i j) (swp L i j) S ∧ Fr S w w' := by
  subst hx hy
  exact swap_any h i j hi hj hij
theorem kids {k p : Nat} (h : 0 < k) (hp : par k = p) : k = 2 * p + 1 ∨ k = 2 * p + 2 := by unfold par at hp; omega
theorem par1 (p : Nat) : par (2 * p + 1) = p := by unfold par; omega
theorem par2 (p : Nat) : par (2 * p + 2) = p := by unfold par; omega

/-- What stands behind a down. -/
def DownEnd (w : World) (ob mb : Nat) (v : Value) (L : List Pr) (S : Nat → Prop) (n i : Nat) (e : Ending) (w' : World) : Prop :=
  ∃ b L', e = .returned (.bool b) ∧ Ord w' ob mb v L' L' S ∧ Fr S w w' ∧ Sw n L L' ∧ (b = true → Heap L' n) ∧ (b = false → Up L' n i)
theorem down_end {wr : World} {L' : List Pr} {n i p : Nat} (hR : Ord wr ob mb v L' L' S ∧ Fr S w wr ∧ Sw n L L' ∧ Down L' n i p) {w1 : World} (hb : Below wr.heap.size wr w1) (hip : i ≤ p)
    (hs : ∀ k, 0 < k → k < n → par k = p → lt (at' L' k) (at' L' p) = false) : DownEnd w ob mb v L S n i (.returned (.bool (decide (i < p)))) w1 := by
  refine ⟨_, L', rfl, hR.1.later hb, hR.2.1.trans0 (Fr.of_below hb), hR.2.2.1, fun e => ?_, fun e => ?_⟩
  · have : i < p := by simpa using e
    exact hR.2.2.2.stop_moved (by omega) hs
  · have : ¬ i < p := by simpa using e
    obtain rfl : i = p := by omega
    exact hR.2.2.2.stop_same hs
theorem down_step {wr w1 w2 : World} {L' : List Pr} {n i p j : Nat} (hR : Ord wr ob mb v L' L' S ∧ Fr S w wr ∧ Sw n L L' ∧ Down L' n i p) (hb : Below wr.heap.size wr w1) (hF : Fr S w1 w2) (hO : Ord w2 ob mb v (swp L' p j) (swp L' p j) S) (hn : n ≤ L.length) (hip : i ≤ p)
    (hj0 : 0 < j) (hjn : j < n) (hp : par j = p) (hlt : lt (at' L' j) (at' L' p) = true) (hs : ∀ k, 0 < k → k < n → par k = p → lt (at' L' k) (at' L' j) = false) :
    Ord w2 ob mb v (swp L' p j) (swp L' p j) S ∧ Fr S w w2 ∧ Sw n L (swp L' p j) ∧ Down (swp L' p j) n i j := by
  have := par_lt hj0
  have hl := hR.2.2.1.len
  exact ⟨hO, (hR.2.1.trans0 (Fr.of_below hb)).trans0 hF, hR.2.2.1.step (by omega) hjn hn, hR.2.2.2.swap (by omega) hip hj0 hjn hp hlt hs⟩

set_option maxRecDepth 100000 in
set_option maxHeartbeats 3200000 in
theorem down_any (h : Ord w ob mb v L L S) (n i : Nat) (hd : FixAt L n i) (hn : n ≤ L.length) (hi : i < n) :
    Calls Try.prog 89 #[.iface 106 (.pointer (some ⟨ob, 0, none⟩)), .int .i64 i, .int .i64 n] w (DownEnd w ob mb v L S n i) := by
  have hl := h.len
  have HO : Hid (Ord w ob mb v L L S ∧ Down L n i i) := ⟨h, hd.down⟩
  clear h hd
  go_enter Try.func89, Try.ntmps89
  go_wp2
  go_loopw [7] (fun si wr => ∃ (p : Nat) (L' : List Pr), si = .int .i64 p ∧ i ≤ p ∧ p < n ∧ Hid (Ord wr ob mb v L' L' S ∧ Fr S w wr ∧ Sw n L L' ∧ Down L' n i p)) (fun si _ => n - (intOf si).toNat)
  case atStart => exact ⟨i, L, rfl, Nat.le_refl _, hi, HO.out.1, Fr.refl _ _, Sw.refl _ _, HO.out.2⟩
  case round =>
    obtain ⟨p, L', rfl, hip, hp, HR⟩ := hrel
    have hL : L'.length = L.length := HR.out.2.2.1.len
    have m1 := methodLess ⟨ob, 0, none⟩
    have m2 := methodSwap ⟨ob, 0, none⟩
    have hO := HR.out.1
    have HOr := hide hO
    clear hO
    by_cases c1 : 2 * p + 1 < n
    · by_cases c2 : 2 * p + 2 < n ∧ lt (at' L' (2 * p + 2)) (at' L' (2 * p + 1)) = true
      · obtain ⟨c2, t2⟩ := c2
        have c1' : 2 * (p : Int) + 1 < (n : Int) := by omega
        have c2' : 2 * (p : Int) + 2 < (n : Int) := by omega
        have HT := hide t2
        clear t2
        have HS : Hid (∀ k, 0 < k → k < n → par k = p → lt (at' L' k) (at' L' (2 * p + 2)) = false) := fun k h0 hk hpk => by
          rcases kids h0 hpk with rfl | rfl
          · exact lt_asymm HT.out
          · exact lt_irrefl _
        by_cases t3 : lt (at' L' (2 * p + 2)) (at' L' p) = true
        · have HT3 := hide t3
          clear t3
          go_wp2_with (first | (go_at_call 133; refine (less_at (HOr.out.later hb1) (2 * p + 2) p (by omega) (by omega) (by omega) (by omega) HT3.out).mono ?_; rintro e w2 ⟨rfl, hb2⟩) | (go_at_call 133; refine (less_at HOr.out (2 * p + 2) (2 * p + 1) (by omega) (by omega) (by omega) (by omega) HT.out).mono ?_; rintro e w1 ⟨rfl, hb1⟩) | (go_at_call 136; refine (swap_at ((HOr.out.later hb1).later hb2) p (2 * p + 2) (by omega) (by omega) (by omega) (by omega) (by omega)).mono ?_; rintro e w3 ⟨rfl, hO3, hF3⟩))
          go_roundw
          case rel => exact ⟨2 * p + 2, swp L' p (2 * p + 2), by go_num, by omega, c2, down_step HR.out (hb1.trans (hb2.mono hb1.size)) hF3 hO3 hn hip (by omega) c2 (par2 p) HT3.out HS.out⟩
          case measure => simp [intOf]; omega
        · have HT3 : Hid (lt (at' L' (2 * p + 2)) (at' L' p) = false) := by show _ = _; simpa using t3
          clear t3
          go_wp2_with (first | (go_at_call 133; refine (less_at (HOr.out.later hb1) (2 * p + 2) p (by omega) (by omega) (by omega) (by omega) HT3.out).mono ?_; rintro e w2 ⟨rfl, hb2⟩) | (go_at_call 133; refine (less_at HOr.out (2 * p + 2) (2 * p + 1) (by omega) (by omega) (by omega) (by omega) HT.out).mono ?_; rintro e w1 ⟨rfl, hb1⟩))
          go_ret
          exact down_end HR.out (hb1.trans (hb2.mono hb1.size)) hip (fun k h0 hk hpk => le_trans HT3.out (HS.out k h0 hk hpk))
      · have HS : Hid (∀ k, 0 < k → k < n → par k = p → lt (at' L' k) (at' L' (2 * p + 1)) = false) := fun k h0 hk hpk => by
          rcases kids h0 hpk with rfl | rfl
          · exact lt_irrefl _
          · cases e : lt (at' L' (2 * p + 2)) (at' L' (2 * p + 1))
            · rfl
            · exact absurd ⟨hk, e⟩ c2
        clear c2
        have c1' : 2 * (p : Int) + 1 < (n : Int) := by omega
        by_cases c2 : 2 * p + 2 < n
        · have c2' : 2 * (p : Int) + 2 < (n : Int) := by omega
          have HT := hide (HS.out (2 * p + 2) (by omega) c2 (par2 p))
          by_cases t3 : lt (at' L' (2 * p + 1)) (at' L' p) = true
          · have HT3 := hide t3
            clear t3
            go_wp2_with (first | (go_at_call 133; refine (less_at (HOr.out.later hb1) (2 * p + 1) p (by omega) (by omega) (by omega) (by omega) HT3.out).mono ?_; rintro e w2 ⟨rfl, hb2⟩) | (go_at_call 133; refine (less_at HOr.out (2 * p + 2) (2 * p + 1) (by omega) (by omega) (by omega) (by omega) HT.out).mono ?_; rintro e w1 ⟨rfl, hb1⟩) | (go_at_call 136; refine (swap_at ((HOr.out.later hb1).later hb2) p (2 * p + 1) (by omega) (by omega) (by omega) (by omega) (by omega)).mono ?_; rintro e w3 ⟨rfl, hO3, hF3⟩))
            go_roundw
            case rel => exact ⟨2 * p + 1, swp L' p (2 * p + 1), by go_num, by omega, c1, down_step HR.out (hb1.trans (hb2.mono hb1.size)) hF3 hO3 hn hip (by omega) c1 (par1 p) HT3.out HS.out⟩
            case measure => simp [intOf]; omega
          · have HT3 : Hid (lt (at' L' (2 * p + 1)) (at' L' p) = false) := by show _ = _; simpa using t3
            clear t3
            go_wp2_with (first | (go_at_call 133; refine (less_at (HOr.out.later hb1) (2 * p + 1) p (by omega) (by omega) (by omega) (by omega) HT3.out).mono ?_; rintro e w2 ⟨rfl, hb2⟩) | (go_at_call 133; refine (less_at HOr.out (2 * p + 2) (2 * p + 1) (by omega) (by omega) (by omega) (by omega) HT.out).mono ?_; rintro e w1 ⟨rfl, hb1⟩))
            go_ret
            exact down_end HR.out (hb1.trans (hb2.mono hb1.size)) hip (fun k h0 hk hpk => le_trans HT3.out (HS.out k h0 hk hpk))
        · have c2' : decide (2 * (p : Int) + 2 < (n : Int)) = false := by simp; omega
          have c2'' : decide (2 * (p : Int) + 1 + 1 < (n : Int)) = false := by simp; omega
          by_cases t3 : lt (at' L' (2 * p + 1)) (at' L' p) = true
          · have HT3 := hide t3
            clear t3
            go_wp2_with (first | (go_at_call 133; refine (less_at HOr.out (2 * p + 1) p (by omega) (by omega) (by omega) (by omega) HT3.out).mono ?_; rintro e w2 ⟨rfl, hb2⟩) | (go_at_call 136; refine (swap_at (HOr.out.later hb2) p (2 * p + 1) (by omega) (by omega) (by omega) (by omega) (by omega)).mono ?_; rintro e w3 ⟨rfl, hO3, hF3⟩))
            go_roundw
            case rel => exact ⟨2 * p + 1, swp L' p (2 * p + 1), by go_num, by omega, c1, down_step HR.out hb2 hF3 hO3 hn hip (by omega) c1 (par1 p) HT3.out HS.out⟩
            case measure => simp [intOf]; omega
          · have HT3 : Hid (lt (at' L' (2 * p + 1)) (at' L' p) = false) := by show _ = _; simpa using t3
            clear t3
            go_wp2_with (first | (go_at_call 133; refine (less_at HOr.out (2 * p + 1) p (by omega) (by omega) (by omega) (by omega) HT3.out).mono ?_; rintro e w2 ⟨rfl, hb2⟩))
            go_ret
            exact down_end HR.out hb2 hip (fun k h0 hk hpk => le_trans HT3.out (HS.out k h0 hk hpk))
    · have c1' : (n : Int) ≤ 2 * (p : Int) + 1 := by omega
      go_wp2
      go_ret
      exact down_end HR.out (Below.refl _ _) hip (fun k h0 hk hpk => by rcases kids h0 hpk with rfl | rfl <;> omega)
end
end Go.Proofs.Ytojkdmkeankcgaa.Qu
