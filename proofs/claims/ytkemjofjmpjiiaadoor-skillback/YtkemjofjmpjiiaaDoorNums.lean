/-
  What the document's Numbers and Skills do, and SameInts of two rows that read alike.
-/
import Derived.Test.YtkemjofjmpjiiaaDoorTz
namespace Go.Proofs.YtkemjofjmpjiiaaDoor
open Go.RowKit

set_option maxRecDepth 100000 in
set_option maxHeartbeats 1600000 in
theorem sameInts_true {w : World} {a b : Option Addr} {ca cb n : Nat} {zs : List Int} (ha : IntsAt w a zs) (hb : IntsAt w b zs) (hn : zs.length = n) (hl : n ≤ 9223372036854775807) :
    Calls Tryd.prog 10 #[.slice a n ca, .slice b n cb] w fun e w' => e = .returned (.bool true) ∧ Below w.heap.size w w' := by
  have HA := hide ha
  have HB := hide hb
  have HN := hide hn
  have HW0 : Hid (Below w.heap.size w w) := Below.refl _ _
  have z0 : ((n : Int) != (n : Int)) = false := by simp
  clear ha hb hn
  go_enter Tryd.func10, Tryd.ntmps10
  go_wp2
  go_loopw [5] (fun vi wr => ∃ i : Nat, vi = .int .i64 i ∧ i ≤ n ∧ Hid (Below w.heap.size w wr)) (fun vi _ => n - (intOf vi).toNat)
  case atStart => exact ⟨0, rfl, Nat.zero_le _, HW0.out⟩
  case round =>
    obtain ⟨i, rfl, hi, HR⟩ := hrel
    by_cases hil : i < n
    · have i1 : (i : Int) < (n : Int) := by omega
      obtain ⟨b1, o1, rfl, c1⟩ := (HA.out.later HR.out) i (by rw [HN.out]; exact hil)
      obtain ⟨b2, o2, rfl, c2⟩ := (HB.out.later HR.out) i (by rw [HN.out]; exact hil)
      generalize zs[i]! = x at c1 c2
      have i2 : (x != x) = false := by simp
      go_wp2
      go_quiet (fail)
      go_wp2
      go_roundw
      case rel => exact ⟨i + 1, by go_num, by omega, below_drewN HR.out _⟩
      case measure => simp [intOf]; omega
    · have i1 : ¬ (i : Int) < (n : Int) := by omega
      go_wp2
      go_ret
      exact ⟨rfl, HR.out⟩
theorem bitsF_cut (n off x : Nat) : bitsF (n + 1) off x = (if x % 2 = 1 then [off] else []) ++ bitsF n (off + 1) (x / 2) := by
  rw [bitsF_succ]; split <;> simp
theorem div_pow (x i : Nat) : x / 2 ^ i / 2 = x / 2 ^ (i + 1) := by rw [Nat.div_div_eq_div_mul, Nat.pow_succ]
theorem and_one (y : Nat) (hy : y < 18446744073709551616) : bits .and .u64 (y : Int) 1 = ((y % 2 : Nat) : Int) := by
  rw [show (1 : Int) = ((1 : Nat) : Int) from rfl, bits_and_u64_nat y 1 hy (by decide), Nat.and_one_is_mod]
theorem shr_nat (x i : Nat) : (x : Int) / 2 ^ i = ((x / 2 ^ i : Nat) : Int) := by simp
set_option maxRecDepth 100000 in
set_option maxHeartbeats 1600000 in
theorem numbers_any (x : Nat) (hx : x < 18446744073709551616) (w : World) :
    Calls Tryd.prog 8 #[.int .u64 x] w fun e w' => ∃ a c, e = .returned (.slice a (pop 64 x) c) ∧ IRow w' w.heap.size (.slice a (pop 64 x) c) (bitsI x) ∧ Below w.heap.size w w' := by
  have hp := pop_le 64 x
  have HLN := hide (bitsI_len x)
  generalize pop 64 x = c at hp HLN
  have HB0 : Hid (Below w.heap.size w w ∧ w.heap.size ≤ w.heap.size) := ⟨Below.refl _ _, Nat.le_refl _⟩
  go_enter Tryd.func8, Tryd.ntmps8
  go_wp2
  go_loopw [3, 4] (fun vo vi wr => ∃ (i : Nat) (v : Value) (zs : List Int), vi = .int .i64 i ∧ vo = v ∧ i ≤ 64 ∧ Hid (zs ++ (bitsF (64 - i) i (x / 2 ^ i)).map (fun (k : Nat) => (k : Int)) = bitsI x) ∧ Hid ((Below w.heap.size w wr ∧ w.heap.size ≤ wr.heap.size) ∧ IRow wr w.heap.size v zs)) (fun _ vi _ => 64 - (intOf vi).toNat)
  case atStart => exact ⟨0, _, [], rfl, rfl, by decide, by show _ = _; simp [bitsI], HB0.out, irow_nil _ _⟩
  case round =>
    clear HB0
    obtain ⟨i, v, zs, rfl, rfl, hi, HZ, HR⟩ := hrel
    by_cases hil : i < 64
    · have i1 : (i : Int) < 64 := by omega
      have hlen : zs.length ≤ 100000 := by
        have h1 := congrArg List.length HZ.out
        rw [List.length_append, HLN.out] at h1
        omega
      have HC : Hid (bitsF (64 - i) i (x / 2 ^ i) = (if x / 2 ^ i % 2 = 1 then [i] else []) ++ bitsF (64 - (i + 1)) (i + 1) (x / 2 ^ (i + 1))) := by
        show _ = _
        rw [show 64 - i = (64 - (i + 1)) + 1 by omega, bitsF_cut, div_pow]
      have hsh := shr_nat x i
      have hy : x / 2 ^ i < 18446744073709551616 := Nat.lt_of_le_of_lt (Nat.div_le_self _ _) hx
      have han := and_one _ hy
      have hmin : min i 64 = i := by omega
      generalize x / 2 ^ i = y at HC hsh han HZ hy
      rcases Nat.mod_two_eq_zero_or_one y with h2 | h2
      · rw [h2] at han HC
        have HZ2 : Hid (zs ++ (bitsF (64 - (i + 1)) (i + 1) (x / 2 ^ (i + 1))).map (fun (k : Nat) => (k : Int)) = bitsI x) := by
          show _ = _
          rw [← HZ.out, HC.out]; simp
        rw [show ((0 : Nat) : Int) = 0 from rfl] at han
        have z0 : ((0 : Int) == 1) = false := rfl
        clear HC h2
        go_wp2
        go_roundw
        case rel => exact ⟨i + 1, _, zs, by go_num, rfl, by omega, HZ2.out, HR.out⟩
        case measure => simp [intOf]; omega
      · rw [h2] at han HC
        have HZ2 : Hid ((zs ++ [(i : Int)]) ++ (bitsF (64 - (i + 1)) (i + 1) (x / 2 ^ (i + 1))).map (fun (k : Nat) => (k : Int)) = bitsI x) := by
          show _ = _
          rw [← HZ.out, HC.out]; simp
        rw [show ((1 : Nat) : Int) = 1 from rfl] at han
        have z0 : ((1 : Int) == 1) = true := rfl
        clear HC h2
        go_wp2_with (at_builtin; refine app_one (.tmp 14) (.tmp 16) rfl rfl rfl rfl HR.out.2 (by omega) HR.out.1.1 HR.out.1.2 ?_; intro v' w2 h1 h2; have H2 := hide (And.intro h2 h1); clear h1 h2)
        go_roundw
        case rel => exact ⟨i + 1, _, _, by go_num, rfl, by omega, HZ2.out, H2.out⟩
        case measure => simp [intOf]; omega
    · have i1 : ¬ (i : Int) < 64 := by omega
      have h64 : i = 64 := by omega
      subst h64
      have hz : zs = bitsI x := by
        have := HZ.out
        simpa [bitsF] using this
      subst hz
      obtain ⟨a1, c1, e1⟩ := HR.out.2.shape
      rw [HLN.out] at e1
      subst e1
      go_wp2
      go_ret
      exact ⟨a1, c1, rfl, HR.out.2, HR.out.1.1⟩
theorem take_at (zs : List Int) (i : Nat) (h : i < zs.length) : zs.take (i + 1) = zs.take i ++ [zs[i]!] := by
  rw [List.take_add_one]; simp [h]
theorem mem_take {zs : List Int} {i : Nat} {z : Int} (h : z ∈ zs.take i) : ∃ j, j < i ∧ j < zs.length ∧ zs[j]! = z := by
  obtain ⟨j, hj, e⟩ := List.getElem_of_mem h
  rw [List.length_take] at hj
  refine ⟨j, by omega, by omega, ?_⟩
  rw [getElem!_pos zs j (by omega)]
  rw [List.getElem_take] at e
  exact e
theorem take_mem {zs : List Int} {i j : Nat} (h : j < i) (h2 : j < zs.length) : zs[j]! ∈ zs.take i := by
  rw [getElem!_pos zs j h2]
  exact List.mem_take_iff_getElem.2 ⟨j, by omega, rfl⟩
set_option maxRecDepth 100000 in
set_option maxHeartbeats 1600000 in
theorem skills_any {w : World} {a : Option Addr} {ca n : Nat} {zs : List Int} (ha : IntsAt w a zs) (hn : zs.length = n) (hl : n ≤ 9223372036854775807) :
    Calls Tryd.prog 7 #[.slice a n ca] w fun e w' => e = .returned (.tuple #[.int .u64 (ofM zs).1, .int .i64 (ofM zs).2.1, .int .i64 (ofM zs).2.2]) ∧ Below w.heap.size w w' := by
  have HA := hide ha
  have HN := hide hn
  have HB0 := hide (Below.refl w.heap.size w)
  clear ha hn
  go_enter Tryd.func7, Tryd.ntmps7
  go_wp2
  go_loopw [5, 6] (fun vs vi wr => ∃ i s : Nat, vs = .int .u64 s ∧ vi = .int .i64 i ∧ i ≤ n ∧ s < 4611686018427387904 ∧ Hid (ofM zs = ofF i s (zs.drop i)) ∧ Hid (Bits s (zs.take i)) ∧ Hid (Below w.heap.size w wr)) (fun _ vi _ => n - (intOf vi).toNat)
  case atStart => exact ⟨0, 0, rfl, rfl, Nat.zero_le _, by decide, rfl, bits_nil, HB0.out⟩
  case round =>
    clear HB0
    obtain ⟨i, s, rfl, rfl, hi, hs, HI, HS0, HR⟩ := hrel
    by_cases hil : i < n
    · have i1 : (i : Int) < (n : Int) := by omega
      obtain ⟨b1, o1, rfl, c1⟩ := (HA.out.later HR.out) i (by rw [HN.out]; exact hil)
      have HD := hide (drop_at zs i (by rw [HN.out]; exact hil))
      have HTK := hide (take_at zs i (by rw [HN.out]; exact hil))
      rw [HD.out] at HI
      clear HD
      generalize hzi : zs[i]! = z at c1 HI HTK
      have HZI := hide hzi
      clear hzi
      by_cases h0 : z < 0
      · have HF := hide (HI.out.trans (ofF_range i s z _ (.inl h0)))
        go_wp2
        go_ret3
        exact ⟨by rw [HF.out]; rfl, HR.out⟩
      · by_cases h1 : 61 < z
        · have HF := hide (HI.out.trans (ofF_range i s z _ (.inr (by omega))))
          go_wp2
          go_ret3
          exact ⟨by rw [HF.out]; rfl, HR.out⟩
        · have hsh := shl_one (z := z) (by omega) (by omega)
          have hsh2 := hsh
          rw [show min z.toNat 64 = z.toNat by omega] at hsh2
          have hpl := pow_lt62 (z := z) (by omega)
          have HSt := hide (ofF_step i s z (zs.drop (i + 1)) (by omega) (by omega))
          have HT := hide (ofF_twice i s z (zs.drop (i + 1)) (by omega) (by omega))
          have hsl := lt62_add (s := s) (z := z) hs (by omega) (by omega)
          have hor := bits_or_u64_nat s (2 ^ z.toNat) (by omega) (by omega)
          have HBA := hide (bits_add (z := z) HS0.out (by omega))
          have HTB : Hid (∀ k, k < i → zs[k]! = z → s.testBit z.toNat = true) := fun k hk he => (HS0.out z.toNat).2 (by
            rw [show ((z.toNat : Nat) : Int) = z by omega, ← he]; exact take_mem hk (by rw [HN.out]; omega))
          have HFB : Hid ((∀ k, k < i → zs[k]! ≠ z) → s.testBit z.toNat = false) := fun h => by
            cases hb : s.testBit z.toNat
            · rfl
            · have := (HS0.out z.toNat).1 hb
              rw [show ((z.toNat : Nat) : Int) = z by omega] at this
              obtain ⟨j, hj, _, e⟩ := mem_take this
              exact absurd e (h j hj)
          generalize (2 : Nat) ^ z.toNat = p at hsh hsh2 hpl hor HSt hsl HBA
          generalize s ||| p = t at hor HSt hsl HBA
          clear HS0
          go_wp2
          go_loopw [7] (fun vk wr => ∃ k : Nat, vk = .int .i64 k ∧ k ≤ i ∧ Hid (∀ j, j < k → zs[j]! ≠ z) ∧ Hid (Below w.heap.size w wr)) (fun vk _ => i - (intOf vk).toNat)
          case atStart => exact ⟨0, rfl, Nat.zero_le _, fun j hj => absurd hj (Nat.not_lt_zero j), HR.out⟩
          case round =>
            clear c1
            obtain ⟨k, rfl, hk, HK, HR2⟩ := hrel
            by_cases hki : k < i
            · have k1 : (k : Int) < (i : Int) := by omega
              obtain ⟨b2, o2, e2, c2⟩ := (HA.out.later HR2.out) k (by rw [HN.out]; omega)
              cases e2
              obtain ⟨b3, o3, e3, c3⟩ := (HA.out.later HR2.out) i (by rw [HN.out]; omega)
              cases e3
              rw [HZI.out] at c3
              by_cases he : zs[k]! = z
              · have HF := hide (HI.out.trans (HT.out (HTB.out k hki he)))
                rw [he] at c2
                have i2 : (z == z) = true := by simp
                clear he
                go_wp2
                go_quiet (fail)
                go_wp2
                go_ret3
                exact ⟨by rw [HF.out]; rfl, below_drewN HR2.out _⟩
              · have HK2 : Hid (∀ j, j < k + 1 → zs[j]! ≠ z) := fun j hj => by
                  by_cases e : j = k
                  · rw [e]; exact he
                  · exact HK.out j (by omega)
                generalize zs[k]! = y at c2 he
                have i2 : (y == z) = false := by simpa using he
                go_wp2
                go_quiet (fail)
                go_wp2
                go_roundw
                case rel => exact ⟨k + 1, by go_num, by omega, HK2.out, below_drewN HR2.out _⟩
                case measure => simp [intOf]; omega
            · have k1 : ¬ (k : Int) < (i : Int) := by omega
              obtain ⟨b3, o3, e3, c3⟩ := (HA.out.later HR2.out) i (by rw [HN.out]; omega)
              cases e3
              rw [HZI.out] at c3
              have hki' : k = i := by omega
              subst hki'
              have HF := hide (HI.out.trans (HSt.out (HFB.out HK.out)))
              rw [← HTK.out] at HBA
              go_wp2
              go_roundw
              case rel => exact ⟨k + 1, t, rfl, by go_num, by omega, hsl, HF.out, HBA.out, HR2.out⟩
              case measure => simp [intOf]; omega
    · have i1 : ¬ (i : Int) < (n : Int) := by omega
      have HF : Hid (ofM zs = (s, 0, 0)) := by
        show _ = _
        rw [HI.out, List.drop_eq_nil_of_le (by rw [HN.out]; omega)]; rfl
      go_wp2
      go_ret3
      exact ⟨by rw [HF.out]; rfl, HR.out⟩
end Go.Proofs.YtkemjofjmpjiiaaDoor
