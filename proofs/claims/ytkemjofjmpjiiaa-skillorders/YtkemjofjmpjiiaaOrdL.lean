/-
  What the law SkillOrders does.
-/
import Derived.Test.YtkemjofjmpjiiaaAw
namespace Go.Proofs.Ytkemjofjmpjiiaa
open Go.RowKit

/-- An append of one number onto a row of the call's own. -/
theorem app_one {w w0 : World} {ops : Array Oper} {rest : List Oper} {o : Oper} {a : Act} {Q : Exit → Act → World → Prop} (s x : Operand)
    (hgd : o.guard = none) (ho : o.op = .call { callee := .builtin .append, args := #[s, x], argTypes := #[22, 22] }) {base : Nat} {v : Value} {zs : List Int} {z : Int}
    (hs : a.eval s = v) (hx : a.eval x = .slice (some ⟨w.heap.size, 0, none⟩) 1 1) (hr : IRow w base v zs) (hl : zs.length ≤ 100000) (hb : Below base w0 w) (hbs : base ≤ w.heap.size)
    (h : ∀ v' w', IRow w' base v' (zs ++ [z]) → Below base w0 w' ∧ base ≤ w'.heap.size → wpList Try.prog ops Q rest (a.put o.dst v') w') : wpList Try.prog ops Q (o :: rest) a (w.alloc (.cells #[.int .i64 z] 3)) := by
  obtain ⟨i0, hi0, hy0, hy1, hy2⟩ := info_parts info3
  have hr1 := hr.alloc (.cells #[.int .i64 z] 3)
  have hb1 := hb.alloc hbs (.cells #[.int .i64 z] 3)
  refine wpList_append_own _ hgd s x 22 ho base 3 i0 (.int .i64 0) 1 8 Try.underlying22 hi0 hy0 hy1 hy2 rfl (by decide) v zs.length (intsV zs) hs hr1 ⟨w.heap.size, 0, none⟩ 1 1 (intsV [z]) hx rfl ?_ (intsV_one _) (by unfold maxLen; omega) (by omega) (by simp; omega) ?_
  · intro j u hu
    have hj : j = 0 := by
      have := (List.getElem?_eq_some_iff.1 hu).1
      rw [intsV_len] at this
      simp only [List.length_cons, List.length_nil] at this
      omega
    subst hj
    rw [add0, cell_of_row _ w.heap.size 0 _ _ _ (heap_alloc_new _ _)]
    simpa [intsV] using hu
  · intro v' w' h1 h2 _
    have h3 : IRow w' base v' (zs ++ [z]) := by
      unfold IRow
      rw [List.length_append, intsV_app]
      exact h1
    exact h v' w' h3 ⟨hb1.grown h2 (by simp; omega) fun k hk => (hr1.lt k hk).1, Nat.le_trans (by simp; omega) h2.size⟩
theorem turn_step (zs : List Int) (i : Nat) (h : i < zs.length) : (zs.drop (i + 1)).reverse ++ [zs[i]!] = (zs.drop i).reverse := by
  rw [List.drop_eq_getElem_cons h, List.reverse_cons]; simp [h]
set_option maxRecDepth 100000 in
set_option maxHeartbeats 1600000 in
theorem orders_any {w : World} {a : Option Addr} {n ca : Nat} {zs : List Int} (ha : IntsAt w a zs) (la : zs.length = n) (ca0 : a = none → ca = 0) (ma : n ≤ 9223372036854775807) :
    Calls Try.prog 3 #[.slice a n ca] w fun e w' => e = .returned (.bool true) ∧ Below w.heap.size w w' := by
  have R0 := hide ha
  have HL := hide la
  have HC := hide ca0
  have HB0 := hide (Below.refl w.heap.size w)
  clear ha la ca0
  by_cases g1 : 200 < n
  · have j1 : (200 : Int) < (n : Int) := by omega
    go_enter Try.func3, Try.ntmps3
    go_wp2_with (first
      | (go_at_call 4; refine (awake_any _).mono ?_; rintro e w1 ⟨rfl, k2⟩; have HB1 := hide (below_on HB0.out k2); clear k2))
    go_ret
    exact ⟨rfl, HB1.out⟩
  have j1 : ¬ (200 : Int) < (n : Int) := by omega
  obtain ⟨s, k, e, HV⟩ : ∃ s k e, Hid (ofM zs = (s, k, e)) := ⟨_, _, _, rfl⟩
  obtain ⟨s2, k2, e2, HV2⟩ : ∃ s k e, Hid (ofM zs.reverse = (s, k, e)) := ⟨_, _, _, rfl⟩
  have hrev := ofM_reverse zs
  have hshape := ofM_shape zs
  rw [HV.out, HV2.out] at hrev
  rw [HV.out, HL.out] at hshape
  obtain ⟨hsl, hok, hbad⟩ := hshape
  obtain ⟨rfl, hee⟩ := hrev
  simp only at hsl hok hbad hee
  go_enter Try.func3, Try.ntmps3
  go_wp2_with (first
    | (go_at_call 4; refine (awake_any _).mono ?_; rintro e w1 ⟨rfl, k2⟩; have HB1 := hide (below_on HB0.out k2); have R1 := hide (R0.out.later k2); clear k2))
  go_loopw [3, 4] (fun vt vi wr => ∃ (i : Nat) (v : Value), vi = .int .i64 ((i : Int) - 1) ∧ vt = v ∧ i ≤ n ∧ Hid ((Below w1.heap.size w1 wr ∧ w1.heap.size ≤ wr.heap.size) ∧ IRow wr w1.heap.size v (zs.drop i).reverse)) (fun _ vi _ => (intOf vi + 1).toNat)
  case atStart => exact ⟨n, _, by go_num, rfl, Nat.le_refl _, ⟨Below.refl _ _, Nat.le_refl _⟩, by rw [List.drop_eq_nil_of_le (by rw [HL.out]; omega)]; exact irow_nil _ _⟩
  case round =>
    obtain ⟨i, v, rfl, rfl, hi, HR⟩ := hrel
    rcases Nat.eq_zero_or_pos i with rfl | hi0
    · have i1 : ¬ (0 : Int) ≤ -1 := by omega
      obtain ⟨a1, c1, e1⟩ := HR.out.2.shape
      rw [List.drop_zero, List.length_reverse, HL.out] at e1
      subst e1
      rw [List.drop_zero] at HR
      have RT := hide HR.out.2.ints
      have HBR := hide (below_on HB1.out HR.out.1.1)
      have RR := hide (R1.out.later HR.out.1.1)
      have HO1 : Hid (∀ (w' : World) a c, IntsAt w' a zs → Calls Try.prog 5 #[.slice a n c] w' fun e' w'' => e' = .returned (.tuple #[.int .u64 s, .int .i64 k, .int .i64 e]) ∧ w'' = w') := fun w' a c h => by
        have := of_any (ca := c) h HL.out (by omega)
        rw [HV.out] at this
        exact this
      have HO2 : Hid (∀ (w' : World), IntsAt w' a1 zs.reverse → Calls Try.prog 5 #[.slice a1 n c1] w' fun e' w'' => e' = .returned (.tuple #[.int .u64 s, .int .i64 k2, .int .i64 e2]) ∧ w'' = w') := fun w' h => by
        have := of_any (ca := c1) (n := n) h (by rw [List.length_reverse, HL.out]) (by omega)
        rw [HV2.out] at this
        exact this
      by_cases he : e = 0
      · have he2 : e2 = 0 := hee.1 he
        subst he he2
        have hpop := (hok rfl).2
        have z1 : ((s : Int) != (s : Int)) = false := by simp
        have z2 : ((pop 64 s : Int) == (n : Int)) = true := by rw [hpop]; simp
        have z3 : decide (s < 4611686018427387904) = true := by simpa using hsl
        clear hok hbad hee hpop
        go_wp2_with (first
          | (go_at_call 7; refine (valid_any _ _).mono ?_; rintro e w6 ⟨rfl, hw⟩; rw [hw]; clear hw)
          | (go_at_call 6; refine (count_any _ (by omega) _).mono ?_; rintro e w6 ⟨rfl, hw⟩; rw [hw]; clear hw)
          | (go_at_call 5; refine (HO2.out _ R3.out).mono ?_; rintro e w5 ⟨rfl, hw⟩; rw [hw]; clear hw)
          | (go_at_call 5; refine (HO1.out _ _ _ O2.out).mono ?_; rintro e w4 ⟨rfl, hw⟩; rw [hw]; have R3 := hide R2.out; clear hw)
          | (at_builtin; refine app_ints (.tmp 31) (.tmp 32) rfl rfl rfl rfl HL.out RR.out HC.out (by omega) HBR.out ?_; intro a_x c_x w3 k1 k2 k3; have HB3 := hide k3; have O2 := hide k1.ints; have R2 := hide (RT.out.later k2); clear k1 k2 k3))
        go_ret
        exact ⟨rfl, HB3.out⟩
      · have he2 : ¬ e2 = 0 := fun h => he (hee.2 h)
        have hs0 := hbad he
        subst hs0
        have z1 : ((e : Int) == 0) = false := by simpa using he
        have z2 : ((e2 : Int) == 0) = false := by simpa using he2
        have z3 : ((e : Int) != 0) = true := by simpa using he
        clear hok hbad hee
        go_wp2_with (first
          | (go_at_call 7; refine (valid_any _ _).mono ?_; rintro e w6 ⟨rfl, hw⟩; rw [hw]; clear hw)
          | (go_at_call 6; refine (count_any _ (by omega) _).mono ?_; rintro e w6 ⟨rfl, hw⟩; rw [hw]; clear hw)
          | (go_at_call 5; refine (HO2.out _ R3.out).mono ?_; rintro e w5 ⟨rfl, hw⟩; rw [hw]; clear hw)
          | (go_at_call 5; refine (HO1.out _ _ _ O2.out).mono ?_; rintro e w4 ⟨rfl, hw⟩; rw [hw]; have R3 := hide R2.out; clear hw)
          | (at_builtin; refine app_ints (.tmp 31) (.tmp 32) rfl rfl rfl rfl HL.out RR.out HC.out (by omega) HBR.out ?_; intro a_x c_x w3 k1 k2 k3; have HB3 := hide k3; have O2 := hide k1.ints; have R2 := hide (RT.out.later k2); clear k1 k2 k3))
        go_ret
        exact ⟨rfl, HB3.out⟩
    · obtain ⟨j, rfl⟩ : ∃ j, i = j + 1 := ⟨i - 1, by omega⟩
      have i1 : (0 : Int) ≤ (j : Int) := by omega
      have i2 : ((j + 1 : Nat) : Int) - 1 = (j : Int) := by omega
      rw [i2]
      obtain ⟨b1, o1, rfl, c1⟩ := (R1.out.later HR.out.1.1) j (by rw [HL.out]; omega)
      have HT := hide (turn_step zs j (by rw [HL.out]; omega))
      generalize zs[j]! = z at c1 HT
      go_wp2_with (at_builtin; refine app_one (.tmp 23) (.tmp 28) rfl rfl rfl rfl HR.out.2 (by rw [List.length_reverse, List.length_drop, HL.out]; omega) HR.out.1.1 HR.out.1.2 ?_; intro v' w2 h1 h2; have H2 := hide (And.intro h2 h1); clear h1 h2)
      go_roundw
      case rel => exact ⟨j, _, by go_num, rfl, by omega, H2.out.1, by rw [← HT.out]; exact H2.out.2⟩
      case measure => simp [intOf]
end Go.Proofs.Ytkemjofjmpjiiaa
