/-
  What the law of beginnings (JsonCuts) does.
-/
import Derived.Test.YtedhglphnmheiaaDoorBytes
import Derived.Test.YtedhglphnmheiaaDoorClose
namespace Go.Proofs.YtedhglphnmheiaaDoor
open Go.RowKit

theorem wrap_rem (x : Int) (k : Nat) (hk : k ≤ 60000) : ∃ m : Nat, wrap64 ((IntKind.u64.wrap x).tmod ((k : Int) + 1)) = (m : Int) ∧ m ≤ k := by
  have h0 : 0 ≤ IntKind.u64.wrap x := by
    unfold IntKind.wrap; simp [IntKind.signed, IntKind.bits]; omega
  have h1 := Int.tmod_nonneg ((k : Int) + 1) h0
  have h2 := Int.tmod_lt_of_pos (IntKind.u64.wrap x) (show (0 : Int) < (k : Int) + 1 by omega)
  refine ⟨((IntKind.u64.wrap x).tmod ((k : Int) + 1)).toNat, ?_, by omega⟩
  simp only [wrap64]
  omega
set_option maxRecDepth 100000 in
set_option maxHeartbeats 3200000 in
theorem cuts_row (y : Addr) (cap : Nat) (B : List UInt8) (x : Int) (w : World) (hy : BytesAt w y B) (ht : Lib.Utf8Tabs 0 1 w) (h2 : 2 ≤ w.heap.size) (hL : B.length ≤ 60000) (hL2 : 2 ≤ B.length) (hcap : B.length ≤ cap) :
    Calls Tryd.prog 5 #[.slice (some y) B.length cap, .int .i64 x] w fun e w' => e = .returned (.bool true) ∧ Below w.heap.size w w' := by
  have HT : Hid (Lib.Utf8Tabs 0 1 w) := ht
  have HY : Hid (∀ w', Below w.heap.size w w' → BytesAt w' y B) := fun w' hb => hy.later hb
  clear ht hy
  obtain ⟨i5, hi5, hz0, hz1, hz2⟩ := info_parts info5
  have HP : Hid (∀ (C : List UInt8) (v' : Value) (w' : World) (n : Nat), w'.ownsRow w.heap.size 5 1 v' n ([] ++ Lib.byteCells C) → v' ≠ .slice none 0 0 → Below w.heap.size w w' → Calls Tryd.prog 10 #[v'] w' (DoneR w' (parseM C))) :=
    fun C v' w' n ho hv hb => parse_own2 C (by simpa using ho) hv (tabs_below hb h2 HT.out) (Nat.le_trans h2 hb.size)
  have hpr : parseM B = readM B := by unfold parseM; rw [if_neg (by omega)]
  have HFB := read_fine B
  have hL3 : ¬ (B.length : Int) < 2 := by omega
  have hL4 : ¬ 60000 < (B.length : Int) := by omega
  by_cases hop : Opens (byteAt B 0)
  · cases hM : readM B with
    | bad p c =>
      rw [hM] at hpr HFB
      have hc0 : ¬ (c : Int) = 0 := by have := HFB.2; omega
      have HP1 : Hid (∀ (v' : Value) (w' : World) (n : Nat), w'.ownsRow w.heap.size 5 1 v' n ([] ++ Lib.byteCells B) → v' ≠ .slice none 0 0 → Below w.heap.size w w' → Calls Tryd.prog 10 #[v'] w' fun e w'' => e = .returned (.tuple #[.slice none 0 0, .int .i64 p, .int .i64 c]) ∧ Below w'.heap.size w' w'') :=
        fun v' w' n ho hv hb => by have := HP.out B v' w' n ho hv hb; rw [hpr] at this; exact this
      clear HFB hM hpr HP
      have hcb : ((c : Int) == 0) = false := by simpa using hc0
      rcases hop with hop | hop
      all_goals
        go_enter Tryd.func5, Tryd.ntmps5
        go_wp2_with (first | (go_at_call 9; refine (awake_any w HT.out h2).mono ?_; rintro e w1 ⟨rfl, hb1⟩; have hc0 := (HY.out w1 hb1).head (by omega); rw [hop] at hc0) | (at_builtin; refine wpList_append_own _ rfl _ _ 22 rfl w.heap.size 5 i5 (.int .u8 0) 1 1 Tryd.underlying22 hi5 hz0 hz1 hz2 rfl (by decide) (.slice (some ⟨w1.heap.size, 0, none⟩) 0 0) 0 [] rfl (World.ownsRow_made _ #[] 0 hb1.size (by decide) rfl) y B.length cap (Lib.byteCells B) rfl (by simp [Lib.byteCells_length]) ((HY.out _ (hb1.alloc hb1.size _)).news) (byteCells_one _) (by unfold maxLen; omega) (by omega) (by have := hb1.size; simp; omega) ?_; intro v' w2 hown hg hnil) | (go_at_call 10; refine (HP1.out _ _ _ hown (by simpa using hnil) (after_app hb1 hg)).mono ?_; rintro e w3 ⟨rfl, hb3⟩))
        go_ret
        exact ⟨rfl, (after_app hb1 hg).trans (hb3.mono (after_app hb1 hg).size)⟩
    | ok T z =>
      obtain ⟨jc, hjc, hbc⟩ := read_close hM hop
      rw [hM] at hpr
      have HP1 : Hid (∀ (v' : Value) (w' : World) (n : Nat), w'.ownsRow w.heap.size 5 1 v' n ([] ++ Lib.byteCells B) → v' ≠ .slice none 0 0 → Below w.heap.size w w' → Calls Tryd.prog 10 #[v'] w' fun e w'' => (∃ ta n tc, e = .returned (.tuple #[.slice ta n tc, .int .i64 0, .int .i64 0])) ∧ Below w'.heap.size w' w'') :=
        fun v' w' n ho hv hb => by
          have H := HP.out B v' w' n ho hv hb
          rw [hpr] at H
          refine Calls.mono H ?_
          rintro e w'' ⟨v, cs, rfl, ho2, _, hb2⟩
          obtain ⟨ta, tc, rfl⟩ := own_shape ho2
          exact ⟨⟨ta, _, tc, rfl⟩, hb2⟩
      have HP2 : Hid (∀ (n last : Nat), last < B.length → blankB (byteAt B last) = false → n ≤ last → ∃ p c : Nat, p ≤ n ∧ c ≠ 0 ∧ ∀ (v' : Value) (w' : World) (m : Nat), w'.ownsRow w.heap.size 5 1 v' m ([] ++ Lib.byteCells (B.take n)) → v' ≠ .slice none 0 0 → Below w.heap.size w w' → Calls Tryd.prog 10 #[v'] w' fun e w'' => e = .returned (.tuple #[.slice none 0 0, .int .i64 p, .int .i64 c]) ∧ Below w'.heap.size w' w'') := by
        intro n last hl hb hn
        obtain ⟨p, c, h1, h3, h4⟩ := cut_bad (n := n) (C := B.take n) (by omega) rfl hM hop hl hb hn
        refine ⟨p, c, h3, h4, fun v' w' m ho hv hb => ?_⟩
        have H := HP.out (B.take n) v' w' m ho hv hb
        rw [show parseM (B.take n) = readM (B.take n) by unfold parseM; rw [if_neg (by rw [List.length_take]; omega)], h1] at H
        exact H
      have HJ : Hid (jc < B.length ∧ (byteAt B jc = 93 ∨ byteAt B jc = 125)) := ⟨hjc, hbc⟩
      clear HFB hM hpr HP hjc hbc
      have hop2 : Hid (Opens (byteAt B 0)) := hop
      rcases hop with hop | hop
      all_goals
        go_enter Tryd.func5, Tryd.ntmps5
        go_wp2_with (first | (go_at_call 9; refine (awake_any w HT.out h2).mono ?_; rintro e w1 ⟨rfl, hb1⟩; have hc0 := (HY.out w1 hb1).head (by omega); rw [hop] at hc0) | (at_builtin; refine wpList_append_own _ rfl _ _ 22 rfl w.heap.size 5 i5 (.int .u8 0) 1 1 Tryd.underlying22 hi5 hz0 hz1 hz2 rfl (by decide) (.slice (some ⟨w1.heap.size, 0, none⟩) 0 0) 0 [] rfl (World.ownsRow_made _ #[] 0 hb1.size (by decide) rfl) y B.length cap (Lib.byteCells B) rfl (by simp [Lib.byteCells_length]) ((HY.out _ (hb1.alloc hb1.size _)).news) (byteCells_one _) (by unfold maxLen; omega) (by omega) (by have := hb1.size; simp; omega) ?_; intro v' w2 hown hg hnil) | (go_at_call 10; refine (HP1.out _ _ _ hown (by simpa using hnil) (after_app hb1 hg)).mono ?_; rintro e w3 ⟨⟨ta, tn, tc, rfl⟩, hb3⟩))
        have hbw := (after_app hb1 hg).trans (hb3.mono (after_app hb1 hg).size)
        clear hb1 hb3 hown hg hnil hc0
        go_loopw [8] (fun i wr => ∃ k : Nat, k < B.length ∧ jc ≤ k ∧ i = .int .i64 k ∧ Below w.heap.size w wr) (fun i _ => (intOf i).toNat)
        case atStart => have := HJ.out.1; exact ⟨B.length - 1, by omega, by omega, by go_num, hbw⟩
        case round =>
          obtain ⟨k, hk, hjk, rfl, hbr⟩ := hrel
          have hck := HY.out wr hbr k hk
          have hk6 : k ≤ 60000 := by omega
          clear hbw
          by_cases hend : byteAt B k = 93 ∨ byteAt B k = 125
          · obtain ⟨m, hm, hmk⟩ := wrap_rem x k hk6
            obtain ⟨p, c, hpm, hc0, HQ⟩ := HP2.out m k hk (by rcases hend with e | e <;> rw [e] <;> rfl) hmk
            have HQ2 : Hid (∀ (v' : Value) (w' : World) (m' : Nat), w'.ownsRow w.heap.size 5 1 v' m' ([] ++ Lib.byteCells (B.take m)) → v' ≠ .slice none 0 0 → Below w.heap.size w w' → Calls Tryd.prog 10 #[v'] w' fun e w'' => e = .returned (.tuple #[.slice none 0 0, .int .i64 p, .int .i64 c]) ∧ Below w'.heap.size w' w'') := HQ
            have hcb : ((c : Int) == 0) = false := by simpa using (by omega : ¬ (c : Int) = 0)
            have hpm' : (p : Int) ≤ (m : Int) := by omega
            have hm6 : m ≤ 60000 := by omega
            have hmc : m ≤ cap := by omega
            have HMB : Hid (m ≤ B.length) := Nat.le_trans hmk (Nat.le_of_lt hk)
            clear HQ HP1 HP2
            rcases hend with hend | hend
            all_goals
              rw [hend] at hck
              go_wp2_with (first | (at_builtin; refine wpList_append_own _ rfl _ _ 22 rfl w.heap.size 5 i5 (.int .u8 0) 1 1 Tryd.underlying22 hi5 hz0 hz1 hz2 rfl (by decide) (.slice (some ⟨wr.heap.size, 0, none⟩) 0 0) 0 [] rfl (World.ownsRow_made _ #[] 0 hbr.size (by decide) rfl) y m cap (Lib.byteCells (B.take m)) rfl (by have := HMB.out; simp [Lib.byteCells_length]; omega) (((HY.out _ (hbr.alloc hbr.size _)).take m).news) (byteCells_one _) (by unfold maxLen; omega) (by omega) (by have := hbr.size; simp; omega) ?_; intro v' w2 hown hg hnil) | (go_at_call 10; refine (HQ2.out _ _ _ hown (by simpa using hnil) (after_app hbr hg)).mono ?_; rintro e w3 ⟨rfl, hb3⟩))
              go_ret
              exact ⟨by simpa using hc0, (after_app hbr hg).trans (hb3.mono (after_app hbr hg).size)⟩
          · have h93 : ((byteAt B k : Int) != 93) = true := by simp only [bne_iff_ne, ne_eq]; omega
            have h125 : ((byteAt B k : Int) != 125) = true := by simp only [bne_iff_ne, ne_eq]; omega
            have hkj : jc < k := by
              rcases Nat.lt_or_ge jc k with h | h
              · exact h
              · exfalso; have e : jc = k := by omega
                subst e; exact hend HJ.out.2
            have HKJ : Hid (jc < k) := hkj
            go_wp2
            go_roundw
            case rel => have := HKJ.out; exact ⟨k - 1, by omega, by omega, by go_num, hbr⟩
            case measure => have := HKJ.out; simp [intOf]; omega
  · have h91 : ((byteAt B 0 : Int) != 91) = true := by simp only [bne_iff_ne, ne_eq]; intro e; exact hop (.inl (by omega))
    have h123 : ((byteAt B 0 : Int) != 123) = true := by simp only [bne_iff_ne, ne_eq]; intro e; exact hop (.inr (by omega))
    clear HP hpr HFB hop
    go_enter Tryd.func5, Tryd.ntmps5
    go_wp2_with (go_at_call 9; refine (awake_any w HT.out h2).mono ?_; rintro e w1 ⟨rfl, hb1⟩; have hc0 := (HY.out w1 hb1).head (by omega))
    go_ret
    exact ⟨rfl, hb1⟩
set_option maxRecDepth 100000 in
set_option maxHeartbeats 3200000 in
theorem cuts_out (a : Option Addr) (len cap : Nat) (x : Int) (w : World) (ht : Lib.Utf8Tabs 0 1 w) (h2 : 2 ≤ w.heap.size) (hL : len < 2 ∨ 60000 < len) :
    Calls Tryd.prog 5 #[.slice a len cap, .int .i64 x] w fun e w' => e = .returned (.bool true) ∧ Below w.heap.size w w' := by
  have HT : Hid (Lib.Utf8Tabs 0 1 w) := ht
  clear ht
  rcases hL with hL | hL
  · have hL' : (len : Int) < 2 := by omega
    go_enter Tryd.func5, Tryd.ntmps5
    go_wp2_with (go_at_call 9; refine (awake_any w HT.out h2).mono ?_; rintro e w1 ⟨rfl, hb1⟩)
    go_ret
    exact ⟨rfl, hb1⟩
  · have hL' : 60000 < (len : Int) := by omega
    have hL2 : ¬ (len : Int) < 2 := by omega
    go_enter Tryd.func5, Tryd.ntmps5
    go_wp2_with (go_at_call 9; refine (awake_any w HT.out h2).mono ?_; rintro e w1 ⟨rfl, hb1⟩)
    go_ret
    exact ⟨rfl, hb1⟩
end Go.Proofs.YtedhglphnmheiaaDoor
