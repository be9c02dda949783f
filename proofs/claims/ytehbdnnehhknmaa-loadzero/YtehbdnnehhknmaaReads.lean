/-
  What the calls that only read do: Under, Check, Same of load, and the document's; Zero.
-/
import Derived.Test.YtehbdnnehhknmaaInts
namespace Go.Proofs.Ytehbdnnehhknmaa
open Go.RowKit

set_option maxRecDepth 100000 in
set_option maxHeartbeats 1600000 in
theorem under_any {w : World} {a b : Option Addr} {ca cb n m : Nat} {xs ys : List Int} (ha : IntsAt w a xs) (hb : IntsAt w b ys) (hn : xs.length = n) (hm : ys.length = m) (hl : n ≤ 9223372036854775807) (hl2 : m ≤ 9223372036854775807) :
    Calls Try.prog 18 #[.slice a n ca, .slice b m cb] w fun e w' => e = .returned (.bool (underB xs ys)) ∧ Below w.heap.size w w' := by
  have HA := hide ha
  have HB := hide hb
  have HN := hide hn
  have HM := hide hm
  have HW0 : Hid (Below w.heap.size w w) := Below.refl _ _
  by_cases hnm : n = m
  · have HL : Hid (xs.length = ys.length) := by show _ = _; omega
    subst hnm
    have z0 : ((n : Int) != (n : Int)) = false := by simp
    clear ha hb hn hm
    go_enter Try.func18, Try.ntmps18
    go_wp2
    go_loopw [14] (fun vi wr => ∃ i : Nat, vi = .int .i64 i ∧ i ≤ n ∧ Hid (∀ j, j < i → xs[j]! ≤ ys[j]!) ∧ Hid (Below w.heap.size w wr)) (fun vi _ => n - (intOf vi).toNat)
    case atStart => exact ⟨0, rfl, Nat.zero_le _, fun j hj => absurd hj (Nat.not_lt_zero j), HW0.out⟩
    case round =>
      obtain ⟨i, rfl, hi, HI, HR⟩ := hrel
      by_cases hil : i < n
      · have i1 : (i : Int) < (n : Int) := by omega
        obtain ⟨b1, o1, rfl, c1⟩ := (HA.out.later HR.out) i (by rw [HN.out]; exact hil)
        obtain ⟨b2, o2, rfl, c2⟩ := (HB.out.later HR.out) i (by rw [HM.out]; exact hil)
        by_cases hle : xs[i]! ≤ ys[i]!
        · have HI2 : Hid (∀ j, j < i + 1 → xs[j]! ≤ ys[j]!) := fun j hj => by
            by_cases e : j = i
            · rw [e]; exact hle
            · exact HI.out j (by omega)
          generalize xs[i]! = x at c1 hle
          generalize ys[i]! = y at c2 hle
          have i2 : ¬ y < x := by omega
          go_wp2
          go_roundw
          case rel => exact ⟨i + 1, by go_num, by omega, HI2.out, HR.out⟩
          case measure => simp [intOf]; omega
        · have HF := hide (underB_no (ys := ys) (k := i) (by rw [HN.out]; exact hil) hle)
          generalize xs[i]! = x at c1 hle
          generalize ys[i]! = y at c2 hle
          have i2 : y < x := by omega
          go_wp2
          go_ret
          exact ⟨by rw [HF.out]; rfl, HR.out⟩
      · have i1 : ¬ (i : Int) < (n : Int) := by omega
        have HF := hide (underB_ok HL.out (fun j hj => HI.out j (by have := HN.out; omega)))
        go_wp2
        go_ret
        exact ⟨by rw [HF.out]; rfl, HR.out⟩
  · have HF := hide (underB_ne (xs := xs) (ys := ys) (by omega))
    have z0 : ((n : Int) != (m : Int)) = true := by simp; omega
    clear ha hb hn hm
    go_enter Try.func18, Try.ntmps18
    go_wp2
    go_ret
    exact ⟨by rw [HF.out]; rfl, HW0.out⟩
set_option maxRecDepth 100000 in
set_option maxHeartbeats 1600000 in
theorem runder_any {w : World} {a b : Option Addr} {ca cb n m : Nat} {xs ys : List Int} (ha : IntsAt w a xs) (hb : IntsAt w b ys) (hn : xs.length = n) (hm : ys.length = m) (hl : n ≤ 9223372036854775807) (hl2 : m ≤ 9223372036854775807) :
    Calls Try.prog 19 #[.slice a n ca, .slice b m cb] w fun e w' => e = .returned (.bool (underB xs ys)) ∧ Below w.heap.size w w' := by
  have HA := hide ha
  have HB := hide hb
  have HN := hide hn
  have HM := hide hm
  have HW0 : Hid (Below w.heap.size w w) := Below.refl _ _
  by_cases hnm : n = m
  · have HL : Hid (xs.length = ys.length) := by show _ = _; omega
    subst hnm
    have z0 : ((n : Int) != (n : Int)) = false := by simp
    clear ha hb hn hm
    go_enter Try.func19, Try.ntmps19
    go_wp2
    go_loopw [5] (fun vi wr => ∃ i : Nat, vi = .int .i64 i ∧ i ≤ n ∧ Hid (∀ j, j < i → xs[j]! ≤ ys[j]!) ∧ Hid (Below w.heap.size w wr)) (fun vi _ => n - (intOf vi).toNat)
    case atStart => exact ⟨0, rfl, Nat.zero_le _, fun j hj => absurd hj (Nat.not_lt_zero j), HW0.out⟩
    case round =>
      obtain ⟨i, rfl, hi, HI, HR⟩ := hrel
      by_cases hil : i < n
      · have i1 : (i : Int) < (n : Int) := by omega
        obtain ⟨b1, o1, rfl, c1⟩ := (HA.out.later HR.out) i (by rw [HN.out]; exact hil)
        obtain ⟨b2, o2, rfl, c2⟩ := (HB.out.later HR.out) i (by rw [HM.out]; exact hil)
        by_cases hle : xs[i]! ≤ ys[i]!
        · have HI2 : Hid (∀ j, j < i + 1 → xs[j]! ≤ ys[j]!) := fun j hj => by
            by_cases e : j = i
            · rw [e]; exact hle
            · exact HI.out j (by omega)
          generalize xs[i]! = x at c1 hle
          generalize ys[i]! = y at c2 hle
          have i2 : ¬ y < x := by omega
          have i3 : decide (y < x) = false := decide_eq_false i2
          go_wp2
          go_quiet (fail)
          go_wp2
          go_roundw
          case rel => exact ⟨i + 1, by go_num, by omega, HI2.out, below_drewN HR.out _⟩
          case measure => simp [intOf]; omega
        · have HF := hide (underB_no (ys := ys) (k := i) (by rw [HN.out]; exact hil) hle)
          generalize xs[i]! = x at c1 hle
          generalize ys[i]! = y at c2 hle
          have i2 : y < x := by omega
          have i3 : decide (y < x) = true := decide_eq_true i2
          go_wp2
          go_quiet (fail)
          go_wp2
          go_ret
          exact ⟨by rw [HF.out]; rfl, below_drewN HR.out _⟩
      · have i1 : ¬ (i : Int) < (n : Int) := by omega
        have HF := hide (underB_ok HL.out (fun j hj => HI.out j (by have := HN.out; omega)))
        go_wp2
        go_ret
        exact ⟨by rw [HF.out]; rfl, HR.out⟩
  · have HF := hide (underB_ne (xs := xs) (ys := ys) (by omega))
    have z0 : ((n : Int) != (m : Int)) = true := by simp; omega
    clear ha hb hn hm
    go_enter Try.func19, Try.ntmps19
    go_wp2
    go_ret
    exact ⟨by rw [HF.out]; rfl, HW0.out⟩
set_option maxRecDepth 100000 in
set_option maxHeartbeats 1600000 in
theorem sameInts_any {w : World} {a b : Option Addr} {ca cb n m : Nat} {xs ys : List Int} (ha : IntsAt w a xs) (hb : IntsAt w b ys) (hn : xs.length = n) (hm : ys.length = m) (hl : n ≤ 9223372036854775807) (hl2 : m ≤ 9223372036854775807) :
    Calls Try.prog 11 #[.slice a n ca, .slice b m cb] w fun e w' => e = .returned (.bool (sameB xs ys)) ∧ Below w.heap.size w w' := by
  have HA := hide ha
  have HB := hide hb
  have HN := hide hn
  have HM := hide hm
  have HW0 : Hid (Below w.heap.size w w) := Below.refl _ _
  by_cases hnm : n = m
  · have HL : Hid (xs.length = ys.length) := by show _ = _; omega
    subst hnm
    have z0 : ((n : Int) != (n : Int)) = false := by simp
    clear ha hb hn hm
    go_enter Try.func11, Try.ntmps11
    go_wp2
    go_loopw [5] (fun vi wr => ∃ i : Nat, vi = .int .i64 i ∧ i ≤ n ∧ Hid (∀ j, j < i → xs[j]! = ys[j]!) ∧ Hid (Below w.heap.size w wr)) (fun vi _ => n - (intOf vi).toNat)
    case atStart => exact ⟨0, rfl, Nat.zero_le _, fun j hj => absurd hj (Nat.not_lt_zero j), HW0.out⟩
    case round =>
      obtain ⟨i, rfl, hi, HI, HR⟩ := hrel
      by_cases hil : i < n
      · have i1 : (i : Int) < (n : Int) := by omega
        obtain ⟨b1, o1, rfl, c1⟩ := (HA.out.later HR.out) i (by rw [HN.out]; exact hil)
        obtain ⟨b2, o2, rfl, c2⟩ := (HB.out.later HR.out) i (by rw [HM.out]; exact hil)
        by_cases hle : xs[i]! = ys[i]!
        · have HI2 : Hid (∀ j, j < i + 1 → xs[j]! = ys[j]!) := fun j hj => by
            by_cases e : j = i
            · rw [e]; exact hle
            · exact HI.out j (by omega)
          generalize xs[i]! = x at c1 hle
          generalize ys[i]! = y at c2 hle
          subst hle
          have i2 : (x != x) = false := by simp
          go_wp2
          go_quiet (fail)
          go_wp2
          go_roundw
          case rel => exact ⟨i + 1, by go_num, by omega, HI2.out, below_drewN HR.out _⟩
          case measure => simp [intOf]; omega
        · have HF := hide (sameB_no hle)
          generalize xs[i]! = x at c1 hle
          generalize ys[i]! = y at c2 hle
          have i2 : (x != y) = true := by simpa using hle
          go_wp2
          go_quiet (fail)
          go_wp2
          go_ret
          exact ⟨by rw [HF.out]; rfl, below_drewN HR.out _⟩
      · have i1 : ¬ (i : Int) < (n : Int) := by omega
        have HF := hide (sameB_ok HL.out (fun j hj => HI.out j (by have := HN.out; omega)))
        go_wp2
        go_ret
        exact ⟨by rw [HF.out]; rfl, HR.out⟩
  · have HF := hide (sameB_ne (xs := xs) (ys := ys) (by omega))
    have z0 : ((n : Int) != (m : Int)) = true := by simp; omega
    clear ha hb hn hm
    go_enter Try.func11, Try.ntmps11
    go_wp2
    go_ret
    exact ⟨by rw [HF.out]; rfl, HW0.out⟩
set_option maxRecDepth 100000 in
set_option maxHeartbeats 1600000 in
theorem equal_any {w : World} {a b : Option Addr} {ca cb n m : Nat} {xs ys : List Int} (ha : IntsAt w a xs) (hb : IntsAt w b ys) (hn : xs.length = n) (hm : ys.length = m) (hl : n ≤ 9223372036854775807) (hl2 : m ≤ 9223372036854775807) :
    Calls Try.prog 28 #[.slice a n ca, .slice b m cb] w fun e w' => e = .returned (.bool (sameB xs ys)) ∧ Below w.heap.size w w' := by
  have HA := hide ha
  have HB := hide hb
  have HN := hide hn
  have HM := hide hm
  have HW0 : Hid (Below w.heap.size w w) := Below.refl _ _
  by_cases hnm : n = m
  · have HL : Hid (xs.length = ys.length) := by show _ = _; omega
    subst hnm
    have z0 : ((n : Int) != (n : Int)) = false := by simp
    clear ha hb hn hm
    go_enter Try.func28, Try.ntmps28
    go_wp2
    go_loopw [13] (fun vi wr => ∃ i : Nat, vi = .int .i64 i ∧ i ≤ n ∧ Hid (∀ j, j < i → xs[j]! = ys[j]!) ∧ Hid (Below w.heap.size w wr)) (fun vi _ => n - (intOf vi).toNat)
    case atStart => exact ⟨0, rfl, Nat.zero_le _, fun j hj => absurd hj (Nat.not_lt_zero j), HW0.out⟩
    case round =>
      obtain ⟨i, rfl, hi, HI, HR⟩ := hrel
      by_cases hil : i < n
      · have i1 : (i : Int) < (n : Int) := by omega
        obtain ⟨b1, o1, rfl, c1⟩ := (HA.out.later HR.out) i (by rw [HN.out]; exact hil)
        obtain ⟨b2, o2, rfl, c2⟩ := (HB.out.later HR.out) i (by rw [HM.out]; exact hil)
        by_cases hle : xs[i]! = ys[i]!
        · have HI2 : Hid (∀ j, j < i + 1 → xs[j]! = ys[j]!) := fun j hj => by
            by_cases e : j = i
            · rw [e]; exact hle
            · exact HI.out j (by omega)
          generalize xs[i]! = x at c1 hle
          generalize ys[i]! = y at c2 hle
          subst hle
          have i2 : (x != x) = false := by simp
          go_wp2
          go_quiet (fail)
          go_wp2
          go_roundw
          case rel => exact ⟨i + 1, by go_num, by omega, HI2.out, below_drewN HR.out _⟩
          case measure => simp [intOf]; omega
        · have HF := hide (sameB_no hle)
          generalize xs[i]! = x at c1 hle
          generalize ys[i]! = y at c2 hle
          have i2 : (x != y) = true := by simpa using hle
          go_wp2
          go_quiet (fail)
          go_wp2
          go_ret
          exact ⟨by rw [HF.out]; rfl, below_drewN HR.out _⟩
      · have i1 : ¬ (i : Int) < (n : Int) := by omega
        have HF := hide (sameB_ok HL.out (fun j hj => HI.out j (by have := HN.out; omega)))
        go_wp2
        go_ret
        exact ⟨by rw [HF.out]; rfl, HR.out⟩
  · have HF := hide (sameB_ne (xs := xs) (ys := ys) (by omega))
    have z0 : ((n : Int) != (m : Int)) = true := by simp; omega
    clear ha hb hn hm
    go_enter Try.func28, Try.ntmps28
    go_wp2
    go_ret
    exact ⟨by rw [HF.out]; rfl, HW0.out⟩
set_option maxHeartbeats 400000 in
theorem same_any {w : World} {a b : Option Addr} {ca cb n m : Nat} {xs ys : List Int} (ha : IntsAt w a xs) (hb : IntsAt w b ys) (hn : xs.length = n) (hm : ys.length = m) (hl : n ≤ 9223372036854775807) (hl2 : m ≤ 9223372036854775807) :
    Calls Try.prog 20 #[.slice a n ca, .slice b m cb] w fun e w' => e = .returned (.bool (sameB xs ys)) ∧ Below w.heap.size w w' := by
  have HE := hide (equal_any (ca := ca) (cb := cb) ha hb hn hm hl hl2)
  clear ha hb hn hm
  go_enter Try.func20, Try.ntmps20
  go_wp2_with (go_at_call 28; refine HE.out.mono ?_; rintro e w1 ⟨rfl, h1⟩)
  go_ret
  exact ⟨rfl, h1⟩
set_option maxRecDepth 100000 in
set_option maxHeartbeats 1600000 in
theorem check_any {w : World} {a : Option Addr} {ca m : Nat} {xs : List Int} (n : Int) (ha : IntsAt w a xs) (hm : xs.length = m) (hl : m ≤ 9223372036854775807) :
    Calls Try.prog 16 #[.slice a m ca, .int .i64 n] w fun e w' => e = .returned (.int .i64 (checkE xs n)) ∧ w' = w := by
  have HA := hide ha
  have HM := hide hm
  by_cases hnm : n = (m : Int)
  · have HL : Hid ((xs.length : Int) = n) := by show _ = _; omega
    subst hnm
    have z0 : ((m : Int) != (m : Int)) = false := by simp
    clear ha hm
    go_enter Try.func16, Try.ntmps16
    go_wp2
    go_loop [13] (fun vi => ∃ i : Nat, vi = .int .i64 i ∧ i ≤ m ∧ Hid (∀ j, j < i → 0 ≤ xs[j]! ∧ xs[j]! ≤ 1000000)) (fun vi => m - (intOf vi).toNat)
    case atStart => exact ⟨0, rfl, Nat.zero_le _, fun j hj => absurd hj (Nat.not_lt_zero j)⟩
    case round =>
      obtain ⟨i, rfl, hi, HI⟩ := hrel
      by_cases hil : i < m
      · have i1 : (i : Int) < (m : Int) := by omega
        obtain ⟨b1, o1, rfl, c1⟩ := HA.out i (by rw [HM.out]; exact hil)
        by_cases h0 : xs[i]! < 0
        · have HF := hide (checkE_no (k := i) HL.out (by rw [HM.out]; exact hil) (by omega))
          generalize xs[i]! = x at c1 h0
          go_wp2
          go_ret
          exact ⟨by rw [HF.out]; rfl, rfl⟩
        · by_cases h1 : 1000000 < xs[i]!
          · have HF := hide (checkE_no (k := i) HL.out (by rw [HM.out]; exact hil) (by omega))
            generalize xs[i]! = x at c1 h0 h1
            go_wp2
            go_ret
            exact ⟨by rw [HF.out]; rfl, rfl⟩
          · have HI2 : Hid (∀ j, j < i + 1 → 0 ≤ xs[j]! ∧ xs[j]! ≤ 1000000) := fun j hj => by
              by_cases e : j = i
              · rw [e]; omega
              · exact HI.out j (by omega)
            generalize xs[i]! = x at c1 h0 h1
            go_wp2
            go_round
            case rel => exact ⟨i + 1, by go_num, by omega, HI2.out⟩
            case measure => simp [intOf]; omega
      · have i1 : ¬ (i : Int) < (m : Int) := by omega
        have HF := hide (checkE_ok HL.out (fun j hj => HI.out j (by have := HM.out; omega)))
        go_wp2
        go_ret
        exact ⟨by rw [HF.out]; rfl, rfl⟩
  · have HF := hide (checkE_ne (xs := xs) (n := n) (by omega))
    have z0 : ((m : Int) != n) = true := by simp; omega
    clear ha hm
    go_enter Try.func16, Try.ntmps16
    go_wp2
    go_ret
    exact ⟨by rw [HF.out]; rfl, rfl⟩
set_option maxRecDepth 100000 in
set_option maxHeartbeats 1600000 in
theorem rcheck_any {w : World} {a : Option Addr} {ca m : Nat} {xs : List Int} (n : Int) (ha : IntsAt w a xs) (hm : xs.length = m) (hl : m ≤ 9223372036854775807) :
    Calls Try.prog 17 #[.slice a m ca, .int .i64 n] w fun e w' => e = .returned (.int .i64 (checkE xs n)) ∧ w' = w := by
  have HA := hide ha
  have HM := hide hm
  by_cases hnm : n = (m : Int)
  · have HL : Hid ((xs.length : Int) = n) := by show _ = _; omega
    subst hnm
    have z0 : ((m : Int) != (m : Int)) = false := by simp
    clear ha hm
    go_enter Try.func17, Try.ntmps17
    go_wp2
    go_loop [5] (fun vi => ∃ i : Nat, vi = .int .i64 i ∧ i ≤ m ∧ Hid (∀ j, j < i → 0 ≤ xs[j]! ∧ xs[j]! ≤ 1000000)) (fun vi => m - (intOf vi).toNat)
    case atStart => exact ⟨0, rfl, Nat.zero_le _, fun j hj => absurd hj (Nat.not_lt_zero j)⟩
    case round =>
      obtain ⟨i, rfl, hi, HI⟩ := hrel
      by_cases hil : i < m
      · have i1 : (i : Int) < (m : Int) := by omega
        obtain ⟨b1, o1, rfl, c1⟩ := HA.out i (by rw [HM.out]; exact hil)
        by_cases h0 : xs[i]! < 0
        · have HF := hide (checkE_no (k := i) HL.out (by rw [HM.out]; exact hil) (by omega))
          generalize xs[i]! = x at c1 h0
          go_wp2
          go_ret
          exact ⟨by rw [HF.out]; rfl, rfl⟩
        · by_cases h1 : 1000000 < xs[i]!
          · have HF := hide (checkE_no (k := i) HL.out (by rw [HM.out]; exact hil) (by omega))
            generalize xs[i]! = x at c1 h0 h1
            go_wp2
            go_ret
            exact ⟨by rw [HF.out]; rfl, rfl⟩
          · have HI2 : Hid (∀ j, j < i + 1 → 0 ≤ xs[j]! ∧ xs[j]! ≤ 1000000) := fun j hj => by
              by_cases e : j = i
              · rw [e]; omega
              · exact HI.out j (by omega)
            generalize xs[i]! = x at c1 h0 h1
            go_wp2
            go_round
            case rel => exact ⟨i + 1, by go_num, by omega, HI2.out⟩
            case measure => simp [intOf]; omega
      · have i1 : ¬ (i : Int) < (m : Int) := by omega
        have HF := hide (checkE_ok HL.out (fun j hj => HI.out j (by have := HM.out; omega)))
        go_wp2
        go_ret
        exact ⟨by rw [HF.out]; rfl, rfl⟩
  · have HF := hide (checkE_ne (xs := xs) (n := n) (by omega))
    have z0 : ((m : Int) != n) = true := by simp; omega
    clear ha hm
    go_enter Try.func17, Try.ntmps17
    go_wp2
    go_ret
    exact ⟨by rw [HF.out]; rfl, rfl⟩
set_option maxHeartbeats 400000 in
theorem zero_out (n : Int) (w : World) (h : n < 0 ∨ 3 < n) :
    Calls Try.prog 15 #[.int .i64 n] w fun e w' => e = .returned (.slice none 0 0) ∧ w' = w := by
  rcases h with h | h
  · go_enter Try.func15, Try.ntmps15
    go_wp2
    go_ret
    exact ⟨rfl, rfl⟩
  · have h' : ¬ n < 0 := by omega
    go_enter Try.func15, Try.ntmps15
    go_wp2
    go_ret
    exact ⟨rfl, rfl⟩
set_option maxHeartbeats 400000 in
theorem zero_in (n : Nat) (w : World) (h : n ≤ 3) :
    Calls Try.prog 15 #[.int .i64 n] w fun e w' => e = .returned (.slice (some ⟨w.heap.size, 0, none⟩) n n) ∧ w' = w.alloc (.cells (Array.replicate n (.int .i64 0)) 3) := by
  have hmk := made_ints n (by omega) w
  go_enter Try.func15, Try.ntmps15
  go_wp2
  go_ret
  exact ⟨rfl, rfl⟩
end Go.Proofs.Ytehbdnnehhknmaa
