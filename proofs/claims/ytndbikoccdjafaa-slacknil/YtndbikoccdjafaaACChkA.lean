/-
  What the calls of hours.Check, load.Check and the document's two do.
-/
import Derived.Test.YtndbikoccdjafaaACMem
namespace Go.Proofs.Ytndbikoccdjafaa
open Go.RowKit
set_option maxRecDepth 100000 in
set_option maxHeartbeats 1600000 in
theorem rlcheck_any {w : World} {a : Option Addr} {ca m : Nat} {xs : List Int} (n : Int) (ha : IntsAt w a xs) (hm : xs.length = m) (hl : m ≤ 9223372036854775807) :
    Calls Try.prog 68 #[.slice a m ca, .int .i64 n] w fun e w' => e = .returned (.int .i64 (checkE xs n)) ∧ w' = w := by
  have HA := hide ha
  have HM := hide hm
  by_cases hnm : n = (m : Int)
  · have HL : Hid ((xs.length : Int) = n) := by show _ = _; omega
    subst hnm
    have z0 : ((m : Int) != (m : Int)) = false := by simp
    clear ha hm
    go_enter Try.func68, Try.ntmps68
    go_wp2
    go_loop [5] (fun vi => ∃ i : Nat, vi = .int .i64 i ∧ i ≤ m ∧ Hid (∀ j, j < i → 0 ≤ xs[j]! ∧ xs[j]! ≤ 1000000)) (fun vi => m - (intOf vi).toNat)
    case atStart => exact ⟨0, rfl, Nat.zero_le _, fun j hj => absurd hj (Nat.not_lt_zero j)⟩
    case round =>
      obtain ⟨i, rfl, hi, HI⟩ := hrel
      by_cases hil : i < m
      · have i1 : (i : Int) < (m : Int) := by omega
        obtain ⟨b1, o1, rfl, c1⟩ := HA.out i (by rw [HM.out]; exact hil)
        by_cases h0 : xs[i]! < 0
        · have HF := hide (checkE_no (k := i) HL.out (by rw [HM.out]; exact hil) (by omega))
          generalize xs[i]! = x at c1 h0
          go_wp2
          go_ret
          exact ⟨by rw [HF.out]; rfl, rfl⟩
        · by_cases h1 : 1000000 < xs[i]!
          · have HF := hide (checkE_no (k := i) HL.out (by rw [HM.out]; exact hil) (by omega))
            generalize xs[i]! = x at c1 h0 h1
            go_wp2
            go_ret
            exact ⟨by rw [HF.out]; rfl, rfl⟩
          · have HI2 : Hid (∀ j, j < i + 1 → 0 ≤ xs[j]! ∧ xs[j]! ≤ 1000000) := fun j hj => by
              by_cases e : j = i
              · rw [e]; omega
              · exact HI.out j (by omega)
            generalize xs[i]! = x at c1 h0 h1
            go_wp2
            go_round
            case rel => exact ⟨i + 1, by go_num, by omega, HI2.out⟩
            case measure => simp [intOf]; omega
      · have i1 : ¬ (i : Int) < (m : Int) := by omega
        have HF := hide (checkE_ok HL.out (fun j hj => HI.out j (by have := HM.out; omega)))
        go_wp2
        go_ret
        exact ⟨by rw [HF.out]; rfl, rfl⟩
  · have HF := hide (checkE_ne (xs := xs) (n := n) (by omega))
    have z0 : ((m : Int) != n) = true := by simp; omega
    clear ha hm
    go_enter Try.func68, Try.ntmps68
    go_wp2
    go_ret
    exact ⟨by rw [HF.out]; rfl, rfl⟩
theorem len_max {w : World} {a : Option Addr} {m : Nat} {L : List Win} (h : WinsAt w a m L) : m ≤ 8796093021952 := by have := h.max; omega
theorem dec_yes {p : Prop} [Decidable p] (h : p) : decide p = true := decide_eq_true h
theorem dec_no {p : Prop} [Decidable p] (h : ¬ p) : decide p = false := decide_eq_false h
theorem drewN_two (w : World) (p q : Nat) : ∃ r, (w.drewN p).drewN q = w.drewN r := ⟨_, World.drewN_drewN ..⟩
/-- Between two rounds. -/
structure WInv (w : World) (L : List Win) (wr : World) (k : Nat) (e : Int) : Prop where
  drew : ∃ q, wr = w.drewN q
  low : -1 ≤ e
  first : k = 0 → e = -1
  prev : ∀ j, k = j + 1 → e = (L[j]!).2
  sum : chkF (-1) 0 L = chkF e k (L.drop k)
theorem WInv.on {w wr wr' : World} {L : List Win} {k : Nat} {e x1 x2 : Int} (_h : WInv w L wr k e) (hw : ∃ q, wr' = w.drewN q) (hx : L[k]! = (x1, x2)) (h2 : -1 ≤ x2) (hs : chkF (-1) 0 L = chkF x2 (k + 1) (L.drop (k + 1))) : WInv w L wr' (k + 1) x2 :=
  ⟨hw, h2, fun h => by omega, fun j hj => (by
    have e : j = k := by omega
    rw [e, hx]), hs⟩
set_option maxRecDepth 100000 in
set_option maxHeartbeats 3200000 in
theorem rwindows_any {a : Option Addr} {m c : Nat} {L : List Win} {w : World} (h : WinsAt w a m L) :
    Calls Try.prog 115 #[.slice a m c] w fun e w' => e = .returned (.tuple #[.int .i64 (chk L).1, .int .i64 (chk L).2]) ∧ ∃ q, w' = w.drewN q := by
  have HA := hide h
  have hlm := h.len
  have hmm := len_max h
  clear h
  unfold chk
  by_cases h1 : m < 1
  · rw [if_pos (.inl (by omega))]
    have i1 : (m : Int) < 1 := by omega
    go_enter Try.func115, Try.ntmps115
    go_wp2
    go_ret2
    exact ⟨rfl, 0, rfl⟩
  · have i1 : ¬ (m : Int) < 1 := by omega
    by_cases h2 : 4 < m
    · rw [if_pos (.inr (by omega))]
      have i2 : (4 : Int) < (m : Int) := by omega
      go_enter Try.func115, Try.ntmps115
      go_wp2
      go_ret2
      exact ⟨rfl, 0, rfl⟩
    · have i2 : ¬ (4 : Int) < (m : Int) := by omega
      rw [if_neg (by omega)]
      go_enter Try.func115, Try.ntmps115
      go_wp2
      go_loopw [4] (fun vi wr => ∃ (k : Nat) (e : Int), vi = .int .i64 k ∧ k ≤ m ∧ Hid (WInv w L wr k e)) (fun vi _ => m - (intOf vi).toNat)
      case atStart => exact ⟨0, -1, rfl, Nat.zero_le _, ⟨0, rfl⟩, by omega, fun _ => rfl, fun j h => by omega, by rw [List.drop_zero]⟩
      case round =>
        obtain ⟨k, e, rfl, hk, HR⟩ := hrel
        have HQ : Hid (∀ n, ∃ q', wr.drewN n = w.drewN q') := fun n => by obtain ⟨q, hq⟩ := HR.out.drew; rw [hq]; exact drewN_two w q n
        have HQ2 : Hid (∀ n n', ∃ q', (wr.drewN n).drewN n' = w.drewN q') := fun n n' => by obtain ⟨q, hq⟩ := HQ.out n; rw [hq]; exact drewN_two w q n'
        by_cases hlt : k < m
        · have HAr := hide (HA.out.on (by obtain ⟨q, hq⟩ := HR.out.drew; rw [hq]; exact below_drewN (Below.refl _ _) q) : WinsAt wr a m L)
          obtain ⟨b, off, rfl, c0, c1⟩ := HAr.out.cell k hlt
          have HC := hide (HR.out.sum.trans (chkF_drop e L k (by omega)))
          obtain ⟨x, hx⟩ : ∃ x, L[k]! = x := ⟨_, rfl⟩
          have HX := hide hx
          rw [hx] at c0 c1 HC
          obtain ⟨x1, x2⟩ := x
          simp only at c0 c1
          clear hx
          have i3 : (k : Int) < (m : Int) := by omega
          by_cases p1 : x1 < 0
          · have E : Hid (chkF (-1) 0 L = ((k : Int), 2)) := by
              show _ = _
              rw [HC.out, if_pos (badW_yes (.inl (by have := HR.out.low; omega)))]
            have q1 := dec_yes p1
            go_wp2
            go_quiet (fail)
            go_wp2
            go_ret2
            exact ⟨by rw [E.out]; rfl, HQ.out _⟩
          · have q1 := dec_no p1
            by_cases p2 : 1000000 < x2
            · have E : Hid (chkF (-1) 0 L = ((k : Int), 2)) := by show _ = _; rw [HC.out, if_pos (badW_yes (.inr (.inr p2)))]
              have q2 := dec_yes p2
              go_wp2
              go_quiet (fail)
              go_wp2
              go_ret2
              exact ⟨by rw [E.out]; rfl, HQ.out _⟩
            · have q2 := dec_no p2
              by_cases p3 : x2 < x1
              · have E : Hid (chkF (-1) 0 L = ((k : Int), 2)) := by show _ = _; rw [HC.out, if_pos (badW_yes (.inr (.inl p3)))]
                have q3 := dec_yes p3
                go_wp2
                go_quiet (fail)
                go_wp2
                go_ret2
                exact ⟨by rw [E.out]; rfl, HQ.out _⟩
              · have q3 := dec_no p3
                have HX2 : Hid (-1 ≤ x2) := by show -1 ≤ x2; omega
                by_cases hk0 : k = 0
                · have E : Hid (chkF (-1) 0 L = chkF x2 (k + 1) (L.drop (k + 1))) := by
                    show _ = _
                    have := HR.out.first hk0
                    rw [HC.out, badW_no (by omega)]
                    simp only [Bool.false_eq_true, if_false]
                  have i5 : ¬ (0 : Int) < (k : Int) := by omega
                  have q5 := dec_no i5
                  have i6 : ¬ 0 < k := by omega
                  have q6 := dec_no i6
                  clear hk0
                  go_wp2
                  go_quiet (fail)
                  go_wp2
                  go_quiet (fail)
                  go_wp2
                  go_roundw
                  case rel => exact ⟨k + 1, x2, by go_num, by omega, HR.out.on (HQ.out _) HX.out HX2.out E.out⟩
                  case measure => simp [intOf]; omega
                · obtain ⟨j, hj⟩ : ∃ j, k = j + 1 := ⟨k - 1, by omega⟩
                  obtain ⟨b', off', eb, d0, d1⟩ := HAr.out.cell j (by omega)
                  cases eb
                  have he := HR.out.prev j hj
                  rw [← he] at d1
                  have hw : IntKind.i64.wrap ((k : Int) - 1) = (j : Int) := by rw [IntKind.wrap_i64] <;> omega
                  have i4 : (j : Int) < (m : Int) := by omega
                  have i5 : (0 : Int) < (k : Int) := by omega
                  have q5 := dec_yes i5
                  have i6 : 0 < k := by omega
                  have q6 := dec_yes i6
                  clear he d0 hj hk0
                  by_cases p4 : x1 ≤ e
                  · have E : Hid (chkF (-1) 0 L = ((k : Int), 2)) := by show _ = _; rw [HC.out, if_pos (badW_yes (.inl p4))]
                    have q4 := dec_yes p4
                    go_wp2
                    go_quiet (fail)
                    go_wp2
                    go_quiet (fail)
                    go_wp2
                    go_ret2
                    exact ⟨by rw [E.out]; rfl, HQ2.out _ _⟩
                  · have E : Hid (chkF (-1) 0 L = chkF x2 (k + 1) (L.drop (k + 1))) := by
                      show _ = _
                      rw [HC.out, badW_no (by omega)]
                      simp only [Bool.false_eq_true, if_false]
                    have q4 := dec_no p4
                    go_wp2
                    go_quiet (fail)
                    go_wp2
                    go_quiet (fail)
                    go_wp2
                    go_roundw
                    case rel => exact ⟨k + 1, x2, by go_num, by omega, HR.out.on (HQ.out _) HX.out HX2.out E.out⟩
                    case measure => simp [intOf]; omega
        · have : k = m := by omega
          subst this
          have E : Hid (chkF (-1) 0 L = (-1, 0)) := by show _ = _; rw [HR.out.sum, List.drop_eq_nil_of_le (by omega)]; rfl
          go_wp2
          go_ret2
          exact ⟨by rw [E.out]; rfl, HR.out.drew⟩
end Go.Proofs.Ytndbikoccdjafaa
