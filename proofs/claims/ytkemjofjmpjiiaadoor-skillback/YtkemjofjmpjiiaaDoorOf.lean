/-
  What skill.Of, Count, Valid and Covers do.
-/
import Derived.Test.YtkemjofjmpjiiaaDoorInts
import Derived.Test.YtkemjofjmpjiiaaDoorOfP
import Derived.OwnWalk
namespace Go.Proofs.YtkemjofjmpjiiaaDoor
open Go.RowKit

theorem ofF_step (i s : Nat) (z : Int) (r : List Int) (h0 : 0 ≤ z) (h1 : z ≤ 61) (h2 : s.testBit z.toNat = false) : ofF i s (z :: r) = ofF (i + 1) (s ||| 2 ^ z.toNat) r := by
  conv => lhs; unfold ofF
  rw [if_neg (by omega), if_neg (by rw [h2]; decide)]
theorem ofF_range (i s : Nat) (z : Int) (r : List Int) (h : z < 0 ∨ 61 < z) : ofF i s (z :: r) = (0, i, 2) := by
  unfold ofF; rw [if_pos h]
theorem ofF_twice (i s : Nat) (z : Int) (r : List Int) (h0 : 0 ≤ z) (h1 : z ≤ 61) (h2 : s.testBit z.toNat = true) : ofF i s (z :: r) = (0, i, 28) := by
  unfold ofF; rw [if_neg (by omega), if_pos h2]
theorem drop_at (zs : List Int) (i : Nat) (h : i < zs.length) : zs.drop i = zs[i]! :: zs.drop (i + 1) := by
  rw [List.drop_eq_getElem_cons h]; simp [h]
theorem and_pow (s k : Nat) : s &&& 2 ^ k = if s.testBit k = true then 2 ^ k else 0 := Nat.eq_of_testBit_eq fun j => by
  rw [Nat.testBit_and, Nat.testBit_two_pow]
  by_cases e : k = j
  · subst e
    cases h : s.testBit k <;> simp
  · simp only [e, decide_false, Bool.and_false]
    split <;> simp [e]
theorem pow_lt62 {z : Int} (h1 : z ≤ 61) : (2 : Nat) ^ z.toNat < 4611686018427387904 := Nat.pow_lt_pow_of_lt (a := 2) (m := 62) (by decide) (by omega)
theorem pow_pos' (k : Nat) : 0 < 2 ^ k := Nat.two_pow_pos k
/-- One shifted by a skill. -/
theorem shl_one {z : Int} (h0 : 0 ≤ z) (h1 : z ≤ 61) : IntKind.u64.wrap (2 ^ min z.toNat 64) = ((2 ^ z.toNat : Nat) : Int) := by
  have e : min z.toNat 64 = z.toNat := by omega
  have h2 := pow_lt62 h1
  have h3 : (0 : Nat) < 2 ^ z.toNat := Nat.two_pow_pos _
  rw [e, IntKind.wrap_u64]
  have e2 : (2 : Int) ^ z.toNat = ((2 ^ z.toNat : Nat) : Int) := by simp
  rw [e2]
  generalize (2 : Nat) ^ z.toNat = p at h2 h3
  omega
set_option maxHeartbeats 400000 in
theorem of_any {w : World} {a : Option Addr} {ca n : Nat} {zs : List Int} (ha : IntsAt w a zs) (hn : zs.length = n) (hl : n ≤ 9223372036854775807) :
    Calls Tryd.prog 6 #[.slice a n ca] w fun e w' => e = .returned (.tuple #[.int .u64 (ofM zs).1, .int .i64 (ofM zs).2.1, .int .i64 (ofM zs).2.2]) ∧ w' = w := by
  have HA := hide ha
  have HN := hide hn
  clear ha hn
  go_enter Tryd.func6, Tryd.ntmps6
  go_wp2
  go_loopw [5, 11] (fun vs vi wr => ∃ i s : Nat, vs = .int .u64 s ∧ vi = .int .i64 i ∧ i ≤ n ∧ s < 4611686018427387904 ∧ Hid (ofM zs = ofF i s (zs.drop i)) ∧ Hid (wr = w)) (fun _ vi _ => n - (intOf vi).toNat)
  case atStart => exact ⟨0, 0, rfl, rfl, Nat.zero_le _, by decide, rfl, rfl⟩
  case round =>
    obtain ⟨i, s, rfl, rfl, hi, hs, HI, HR⟩ := hrel
    have HW := HR.out
    subst HW
    clear HR
    by_cases hil : i < n
    · have i1 : (i : Int) < (n : Int) := by omega
      obtain ⟨b1, o1, rfl, c1⟩ := HA.out i (by rw [HN.out]; exact hil)
      have HD := hide (drop_at zs i (by rw [HN.out]; exact hil))
      rw [HD.out] at HI
      clear HD
      generalize zs[i]! = z at c1 HI
      by_cases h0 : z < 0
      · have HF := hide (HI.out.trans (ofF_range i s z _ (.inl h0)))
        go_wp2
        go_ret3
        exact ⟨by rw [HF.out]; rfl, rfl⟩
      · by_cases h1 : 62 ≤ z
        · have HF := hide (HI.out.trans (ofF_range i s z _ (.inr (by omega))))
          go_wp2
          go_ret3
          exact ⟨by rw [HF.out]; rfl, rfl⟩
        · have hsh := shl_one (z := z) (by omega) (by omega)
          have hsh2 := hsh
          rw [show min z.toNat 64 = z.toNat by omega] at hsh2
          have hpl := pow_lt62 (z := z) (by omega)
          have hpp := pow_pos' z.toNat
          have hand := and_pow s z.toNat
          have HS := hide (ofF_step i s z (zs.drop (i + 1)) (by omega) (by omega))
          have HT := hide (ofF_twice i s z (zs.drop (i + 1)) (by omega) (by omega))
          have hsl := lt62_add (s := s) (z := z) hs (by omega) (by omega)
          have hor := bits_or_u64_nat s (2 ^ z.toNat) (by omega) (by omega)
          have han := bits_and_u64_nat s (2 ^ z.toNat) (by omega) (by omega)
          rw [hand] at han
          clear hand
          generalize (2 : Nat) ^ z.toNat = p at hsh hsh2 hpl hpp hor han HS hsl
          generalize s ||| p = t at hor HS hsl
          cases hb : s.testBit z.toNat
          · have HF := hide (HI.out.trans (HS.out hb))
            rw [hb, if_neg (by decide)] at han
            rw [show ((0 : Nat) : Int) = 0 from rfl] at han
            have hq : ((0 : Int) != 0) = false := rfl
            clear hpp hpl hb
            go_wp2
            go_roundw
            case rel => exact ⟨i + 1, t, rfl, by go_num, by omega, hsl, HF.out, hide trivial⟩
            case measure => simp [intOf]; omega
          · have HF := hide (HI.out.trans (HT.out hb))
            rw [hb, if_pos rfl] at han
            have hq : ((p : Int) != 0) = true := by simp; omega
            have hq2 : ¬ (p : Int) = 0 := by omega
            clear hb
            go_wp2
            go_ret3
            exact ⟨by rw [HF.out]; rfl, rfl⟩
    · have i1 : ¬ (i : Int) < (n : Int) := by omega
      have HF : Hid (ofM zs = (s, 0, 0)) := by
        show _ = _
        rw [HI.out, List.drop_eq_nil_of_le (by rw [HN.out]; omega)]; rfl
      go_wp2
      go_ret3
      exact ⟨by rw [HF.out]; rfl, rfl⟩
set_option maxHeartbeats 400000 in
theorem count_any (x : Nat) (hx : x < 18446744073709551616) (w : World) : Calls Tryd.prog 12 #[.int .u64 x] w fun e w' => e = .returned (.int .i64 (pop 64 x)) ∧ w' = w := by
  have H1 := hide (ones_any x hx w)
  go_enter Tryd.func12, Tryd.ntmps12
  go_wp2_with (go_at_call 15; refine H1.out.mono ?_; rintro e w1 ⟨rfl, hw⟩; rw [hw])
  go_ret
  exact ⟨rfl, rfl⟩
set_option maxHeartbeats 400000 in
theorem valid_any (x : Nat) (w : World) : Calls Tryd.prog 9 #[.int .u64 x] w fun e w' => e = .returned (.bool (decide (x < 4611686018427387904))) ∧ w' = w := by
  by_cases h : x < 4611686018427387904
  · have h1 : ((x : Int) / 4611686018427387904 == 0) = true := by simp; omega
    have h2 : (x : Int) / 4611686018427387904 = 0 := by omega
    go_enter Tryd.func9, Tryd.ntmps9
    go_wp2
    go_ret
    exact ⟨by simp [h], rfl⟩
  · have h1 : ((x : Int) / 4611686018427387904 == 0) = false := by simp; omega
    have h2 : ¬ (x : Int) / 4611686018427387904 = 0 := by omega
    go_enter Tryd.func9, Tryd.ntmps9
    go_wp2
    go_ret
    exact ⟨by simp [h], rfl⟩
def coversB (a b : Nat) : Bool := decide (a ||| b = a)
theorem covers_zero (a b : Nat) (ha : a < 18446744073709551616) (hb : b < 18446744073709551616) : b &&& (18446744073709551615 - a) = 0 ↔ a ||| b = a := by
  have key : ∀ k, (18446744073709551615 - a).testBit k = (decide (k < 64) && !a.testBit k) := fun k => by
    have := Nat.testBit_two_pow_sub_succ (x := a) (n := 64) ha k
    rw [show 2 ^ 64 - (a + 1) = 18446744073709551615 - a by omega] at this
    exact this
  constructor
  · intro h
    refine Nat.eq_of_testBit_eq fun k => ?_
    have h1 := congrArg (·.testBit k) h
    simp only [Nat.testBit_and, key, Nat.zero_testBit] at h1
    rw [Nat.testBit_or]
    by_cases hk : k < 64
    · cases hA : a.testBit k <;> cases hB : b.testBit k <;> simp [hA, hB, hk] at h1 ⊢
    · have : b.testBit k = false := Nat.testBit_lt_two_pow (Nat.lt_of_lt_of_le hb (Nat.pow_le_pow_right (n := 2) (by decide) (show 64 ≤ k by omega)))
      simp [this]
  · intro h
    refine Nat.eq_of_testBit_eq fun k => ?_
    have h1 := congrArg (·.testBit k) h
    simp only [Nat.testBit_or] at h1
    rw [Nat.testBit_and, key, Nat.zero_testBit]
    cases hA : a.testBit k <;> cases hB : b.testBit k <;> simp [hA, hB] at h1 ⊢
set_option maxHeartbeats 400000 in
theorem covers_any (a b : Nat) (ha : a < 18446744073709551616) (hb : b < 18446744073709551616) (w : World) : Calls Tryd.prog 13 #[.int .u64 a, .int .u64 b] w fun e w' => e = .returned (.bool (coversB a b)) ∧ w' = w := by
  have h0 := u64_andNot_nat b a hb ha
  have hc := covers_zero a b ha hb
  unfold coversB
  generalize b &&& (18446744073709551615 - a) = c at h0 hc
  by_cases h : a ||| b = a
  · have hz := hc.2 h
    subst hz
    have h1 : (((0 : Nat) : Int) == 0) = true := rfl
    have HH := hide h
    clear h hc
    go_enter Tryd.func13, Tryd.ntmps13
    go_wp2
    go_ret
    exact ⟨by simp [HH.out], rfl⟩
  · have hz : c ≠ 0 := fun e => h (hc.1 e)
    have h1 : ((c : Int) == 0) = false := by simp; omega
    have h2 : ¬ (c : Int) = 0 := by omega
    have HH := hide h
    clear h hc
    go_enter Tryd.func13, Tryd.ntmps13
    go_wp2
    go_ret
    exact ⟨by simp [HH.out], rfl⟩
end Go.Proofs.YtkemjofjmpjiiaaDoor
