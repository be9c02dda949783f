/-
  What the document's Add, Most and the statements' sumError do.
-/
import Derived.Test.YtehbdnnehhknmaaEach
namespace Go.Proofs.Ytehbdnnehhknmaa
open Go.RowKit

/-- An append of one number onto a row of the call's own. -/
theorem app_one {w w0 : World} {ops : Array Oper} {rest : List Oper} {o : Oper} {a : Act} {Q : Exit → Act → World → Prop} (s x : Operand)
    (hgd : o.guard = none) (ho : o.op = .call { callee := .builtin .append, args := #[s, x], argTypes := #[22, 22] }) {base : Nat} {v : Value} {zs : List Int} {z : Int}
    (hs : a.eval s = v) (hx : a.eval x = .slice (some ⟨w.heap.size, 0, none⟩) 1 1) (hr : IRow w base v zs) (hl : zs.length ≤ 100000) (hb : Below base w0 w) (hbs : base ≤ w.heap.size)
    (h : ∀ v' w', IRow w' base v' (zs ++ [z]) → Below base w0 w' ∧ base ≤ w'.heap.size → wpList Try.prog ops Q rest (a.put o.dst v') w') : wpList Try.prog ops Q (o :: rest) a (w.alloc (.cells #[.int .i64 z] 3)) := by
  obtain ⟨i0, hi0, hy0, hy1, hy2⟩ := info_parts info3
  have hr1 := hr.alloc (.cells #[.int .i64 z] 3)
  have hb1 := hb.alloc hbs (.cells #[.int .i64 z] 3)
  refine wpList_append_own _ hgd s x 22 ho base 3 i0 (.int .i64 0) 1 8 Try.underlying22 hi0 hy0 hy1 hy2 rfl (by decide) v zs.length (intsV zs) hs hr1 ⟨w.heap.size, 0, none⟩ 1 1 (intsV [z]) hx rfl ?_ (intsV_one _) (by unfold maxLen; omega) (by omega) (by simp; omega) ?_
  · intro j u hu
    have hj : j = 0 := by
      have := (List.getElem?_eq_some_iff.1 hu).1
      rw [intsV_len] at this
      simp only [List.length_cons, List.length_nil] at this
      omega
    subst hj
    rw [add0, cell_of_row _ w.heap.size 0 _ _ _ (heap_alloc_new _ _)]
    simpa [intsV] using hu
  · intro v' w' h1 h2 _
    have h3 : IRow w' base v' (zs ++ [z]) := by
      unfold IRow
      rw [List.length_append, intsV_app]
      exact h1
    exact h v' w' h3 ⟨hb1.grown h2 (by simp; omega) fun k hk => (hr1.lt k hk).1, Nat.le_trans (by simp; omega) h2.size⟩
/-- The first k results. -/
def preK (F : Int → Int → Int × Int) (xs ys : List Int) (k : Nat) : List Int := (List.range k).map fun j => (F xs[j]! ys[j]!).1
theorem preK_len (F : Int → Int → Int × Int) (xs ys : List Int) (k : Nat) : (preK F xs ys k).length = k := by simp [preK]
theorem preK_succ (F : Int → Int → Int × Int) (xs ys : List Int) (k : Nat) : preK F xs ys (k + 1) = preK F xs ys k ++ [(F xs[k]! ys[k]!).1] := by
  unfold preK; rw [List.range_succ, List.map_append]; rfl
theorem addF_fit {x y : Int} (h : fitsB y = false) : addF x y = (0, 10) := by simp [addF, addV, addE, addOk, h]
theorem subF_fit {x y : Int} (h : fitsB y = false) : subF x y = (0, 10) := by simp [subF, h]
theorem subF_yes {x y : Int} (h : fitsB y = true) : subF x y = (addV x (-y), addE x (-y)) := by simp [subF, h]
section
variable {w : World} {a b : Option Addr} {ca cb n m : Nat} {xs ys : List Int}
set_option maxRecDepth 100000 in
set_option maxHeartbeats 1600000 in
theorem raddL_any (ha : IntsAt w a xs) (hb : IntsAt w b ys) (hn : xs.length = n) (hm : ys.length = m) (hl : n ≤ 1000) (hl2 : m ≤ 9223372036854775807) :
    Calls Try.prog 9 #[.slice a n ca, .slice b m cb, .bool false] w fun e w' => ∃ a' c', e = .returned (.tuple #[.slice a' (eachM addF xs ys).1.length c', .int .i64 (eachM addF xs ys).2]) ∧ IRow w' w.heap.size (.slice a' (eachM addF xs ys).1.length c') (eachM addF xs ys).1 ∧ Below w.heap.size w w' := by
  by_cases hnm : n = m
  · have HL : Hid (xs.length = ys.length) := by show _ = _; omega
    have HA := hide ha
    have HB := hide hb
    have HN := hide hn
    have HM := hide hm
    subst hnm
    have z0 : ((n : Int) != (n : Int)) = false := by simp
    have HB0 : Hid (Below w.heap.size w w ∧ w.heap.size ≤ w.heap.size) := ⟨Below.refl _ _, Nat.le_refl _⟩
    clear ha hb hn hm
    go_enter Try.func9, Try.ntmps9
    go_wp2
    go_loopw [8, 9] (fun vo vi wr => ∃ (i : Nat) (v : Value), vi = .int .i64 i ∧ vo = v ∧ i ≤ n ∧ Hid (∀ j, j < i → (addF xs[j]! ys[j]!).2 = 0) ∧ Hid ((Below w.heap.size w wr ∧ w.heap.size ≤ wr.heap.size) ∧ IRow wr w.heap.size v (preK addF xs ys i))) (fun _ vi _ => n - (intOf vi).toNat)
    case atStart => exact ⟨0, _, rfl, rfl, Nat.zero_le _, fun j hj => absurd hj (Nat.not_lt_zero j), HB0.out, irow_nil _ _⟩
    case round =>
      clear HB0
      obtain ⟨i, v, rfl, rfl, hi, HI, HR⟩ := hrel
      by_cases hil : i < n
      · have i1 : (i : Int) < (n : Int) := by omega
        have HK := hide (preK_succ addF xs ys i)
        obtain ⟨b1, o1, rfl, c1⟩ := (HA.out.later HR.out.1.1) i (by rw [HN.out]; exact hil)
        obtain ⟨b2, o2, rfl, c2⟩ := (HB.out.later HR.out.1.1) i (by rw [HM.out]; exact hil)
        have HBAD : Hid (∀ e, (addF xs[i]! ys[i]!).2 = e → e ≠ 0 → eachM addF xs ys = ([], e)) := fun e h1 h2 => by
          rw [eachM_bad HL.out (by rw [HN.out]; exact hil) HI.out (by rw [h1]; exact h2), h1]
        have HOK : Hid ((addF xs[i]! ys[i]!).2 = 0 → ∀ j, j < i + 1 → (addF xs[j]! ys[j]!).2 = 0) := fun h0 j hj => by
          by_cases e : j = i
          · rw [e]; exact h0
          · exact HI.out j (by omega)
        generalize xs[i]! = x at c1 HK HBAD HOK
        generalize ys[i]! = y at c2 HK HBAD HOK
        cases hfy : fitsB y
        · have HF := hide (HBAD.out 10 (by rw [addF_fit hfy]) (by decide))
          go_wp2_with (go_at_call 24; refine (rfits_any _ _).mono ?_; rintro e w' ⟨rfl, hw⟩; rw [hw]; clear hw)
          go_ret2
          exact ⟨none, 0, by rw [HF.out]; rfl, by rw [HF.out]; exact irow_nil _ _, HR.out.1.1⟩
        · have hyb := (fitsB_iff y).1 hfy
          obtain ⟨hy1, hy2⟩ := hyb
          have HV : Hid (addF x y = (addV x y, addE x y)) := rfl
          rw [HV.out] at HK HBAD HOK
          by_cases he : addE x y = 0
          · have z1 : (addE x y != 0) = false := by rw [he]; rfl
            have HI2 := hide (HOK.out he)
            clear HBAD HOK
            go_wp2_with (first | (go_at_call 24; refine (rfits_any _ _).mono ?_; rintro e w' ⟨rfl, hw⟩; rw [hw]; clear hw) | (go_at_call 25; refine (radd_any _ _ _).mono ?_; rintro e w' ⟨rfl, hw⟩; rw [hw]; clear hw) | (at_builtin; refine app_one (.tmp 46) (.tmp 48) rfl rfl rfl rfl HR.out.2 (by rw [preK_len]; omega) HR.out.1.1 HR.out.1.2 ?_; intro v' w2 h1 h2; have H2 := hide (And.intro h2 h1); clear h1 h2))
            go_roundw
            case rel => exact ⟨i + 1, _, by go_num, rfl, by omega, HI2.out, H2.out.1, by rw [HK.out]; exact H2.out.2⟩
            case measure => simp [intOf]; omega
          · have z1 : (addE x y != 0) = true := by simpa using he
            have HF := hide (HBAD.out _ rfl he)
            clear HBAD HOK
            go_wp2_with (first | (go_at_call 24; refine (rfits_any _ _).mono ?_; rintro e w' ⟨rfl, hw⟩; rw [hw]; clear hw) | (go_at_call 25; refine (radd_any _ _ _).mono ?_; rintro e w' ⟨rfl, hw⟩; rw [hw]; clear hw))
            go_ret2
            exact ⟨none, 0, by rw [HF.out]; rfl, by rw [HF.out]; exact irow_nil _ _, HR.out.1.1⟩
      · have i1 : ¬ (i : Int) < (n : Int) := by omega
        have hin : i = n := by omega
        subst hin
        have HF : Hid (eachM addF xs ys = (preK addF xs ys i, 0)) := by
          show _ = _
          rw [eachM_ok HL.out (fun j hj => HI.out j (by have := HN.out; omega)), HN.out]; rfl
        obtain ⟨a1, k1, e1⟩ := HR.out.2.shape
        rw [preK_len] at e1
        subst e1
        go_wp2
        go_ret2
        refine ⟨a1, k1, ?_, ?_, HR.out.1.1⟩
        · rw [HF.out]; simp [preK_len]
        · rw [HF.out]; simp only [preK_len]; exact HR.out.2
  · have HF : Hid (eachM addF xs ys = ([], 43)) := eachM_ne (by omega)
    have z0 : ((n : Int) != (m : Int)) = true := by simp; omega
    rw [HF.out]
    clear ha hb hn hm
    go_enter Try.func9, Try.ntmps9
    go_wp2
    go_ret2
    exact ⟨none, 0, rfl, irow_nil _ _, Below.refl _ _⟩
set_option maxRecDepth 100000 in
set_option maxHeartbeats 1600000 in
theorem rsubL_any (ha : IntsAt w a xs) (hb : IntsAt w b ys) (hn : xs.length = n) (hm : ys.length = m) (hl : n ≤ 1000) (hl2 : m ≤ 9223372036854775807) :
    Calls Try.prog 9 #[.slice a n ca, .slice b m cb, .bool true] w fun e w' => ∃ a' c', e = .returned (.tuple #[.slice a' (eachM subF xs ys).1.length c', .int .i64 (eachM subF xs ys).2]) ∧ IRow w' w.heap.size (.slice a' (eachM subF xs ys).1.length c') (eachM subF xs ys).1 ∧ Below w.heap.size w w' := by
  by_cases hnm : n = m
  · have HL : Hid (xs.length = ys.length) := by show _ = _; omega
    have HA := hide ha
    have HB := hide hb
    have HN := hide hn
    have HM := hide hm
    subst hnm
    have z0 : ((n : Int) != (n : Int)) = false := by simp
    have HB0 : Hid (Below w.heap.size w w ∧ w.heap.size ≤ w.heap.size) := ⟨Below.refl _ _, Nat.le_refl _⟩
    clear ha hb hn hm
    go_enter Try.func9, Try.ntmps9
    go_wp2
    go_loopw [8, 9] (fun vo vi wr => ∃ (i : Nat) (v : Value), vi = .int .i64 i ∧ vo = v ∧ i ≤ n ∧ Hid (∀ j, j < i → (subF xs[j]! ys[j]!).2 = 0) ∧ Hid ((Below w.heap.size w wr ∧ w.heap.size ≤ wr.heap.size) ∧ IRow wr w.heap.size v (preK subF xs ys i))) (fun _ vi _ => n - (intOf vi).toNat)
    case atStart => exact ⟨0, _, rfl, rfl, Nat.zero_le _, fun j hj => absurd hj (Nat.not_lt_zero j), HB0.out, irow_nil _ _⟩
    case round =>
      clear HB0
      obtain ⟨i, v, rfl, rfl, hi, HI, HR⟩ := hrel
      by_cases hil : i < n
      · have i1 : (i : Int) < (n : Int) := by omega
        have HK := hide (preK_succ subF xs ys i)
        obtain ⟨b1, o1, rfl, c1⟩ := (HA.out.later HR.out.1.1) i (by rw [HN.out]; exact hil)
        obtain ⟨b2, o2, rfl, c2⟩ := (HB.out.later HR.out.1.1) i (by rw [HM.out]; exact hil)
        have HBAD : Hid (∀ e, (subF xs[i]! ys[i]!).2 = e → e ≠ 0 → eachM subF xs ys = ([], e)) := fun e h1 h2 => by
          rw [eachM_bad HL.out (by rw [HN.out]; exact hil) HI.out (by rw [h1]; exact h2), h1]
        have HOK : Hid ((subF xs[i]! ys[i]!).2 = 0 → ∀ j, j < i + 1 → (subF xs[j]! ys[j]!).2 = 0) := fun h0 j hj => by
          by_cases e : j = i
          · rw [e]; exact h0
          · exact HI.out j (by omega)
        generalize xs[i]! = x at c1 HK HBAD HOK
        generalize ys[i]! = y at c2 HK HBAD HOK
        cases hfy : fitsB y
        · have HF := hide (HBAD.out 10 (by rw [subF_fit hfy]) (by decide))
          go_wp2_with (go_at_call 24; refine (rfits_any _ _).mono ?_; rintro e w' ⟨rfl, hw⟩; rw [hw]; clear hw)
          go_ret2
          exact ⟨none, 0, by rw [HF.out]; rfl, by rw [HF.out]; exact irow_nil _ _, HR.out.1.1⟩
        · have hyb := (fitsB_iff y).1 hfy
          obtain ⟨hy1, hy2⟩ := hyb
          have HV : Hid (subF x y = (addV x (-y), addE x (-y))) := subF_yes hfy
          rw [HV.out] at HK HBAD HOK
          by_cases he : addE x (-y) = 0
          · have z1 : (addE x (-y) != 0) = false := by rw [he]; rfl
            have HI2 := hide (HOK.out he)
            clear HBAD HOK
            go_wp2_with (first | (go_at_call 24; refine (rfits_any _ _).mono ?_; rintro e w' ⟨rfl, hw⟩; rw [hw]; clear hw) | (go_at_call 25; refine (radd_any _ _ _).mono ?_; rintro e w' ⟨rfl, hw⟩; rw [hw]; clear hw) | (at_builtin; refine app_one (.tmp 46) (.tmp 48) rfl rfl rfl rfl HR.out.2 (by rw [preK_len]; omega) HR.out.1.1 HR.out.1.2 ?_; intro v' w2 h1 h2; have H2 := hide (And.intro h2 h1); clear h1 h2))
            go_roundw
            case rel => exact ⟨i + 1, _, by go_num, rfl, by omega, HI2.out, H2.out.1, by rw [HK.out]; exact H2.out.2⟩
            case measure => simp [intOf]; omega
          · have z1 : (addE x (-y) != 0) = true := by simpa using he
            have HF := hide (HBAD.out _ rfl he)
            clear HBAD HOK
            go_wp2_with (first | (go_at_call 24; refine (rfits_any _ _).mono ?_; rintro e w' ⟨rfl, hw⟩; rw [hw]; clear hw) | (go_at_call 25; refine (radd_any _ _ _).mono ?_; rintro e w' ⟨rfl, hw⟩; rw [hw]; clear hw))
            go_ret2
            exact ⟨none, 0, by rw [HF.out]; rfl, by rw [HF.out]; exact irow_nil _ _, HR.out.1.1⟩
      · have i1 : ¬ (i : Int) < (n : Int) := by omega
        have hin : i = n := by omega
        subst hin
        have HF : Hid (eachM subF xs ys = (preK subF xs ys i, 0)) := by
          show _ = _
          rw [eachM_ok HL.out (fun j hj => HI.out j (by have := HN.out; omega)), HN.out]; rfl
        obtain ⟨a1, k1, e1⟩ := HR.out.2.shape
        rw [preK_len] at e1
        subst e1
        go_wp2
        go_ret2
        refine ⟨a1, k1, ?_, ?_, HR.out.1.1⟩
        · rw [HF.out]; simp [preK_len]
        · rw [HF.out]; simp only [preK_len]; exact HR.out.2
  · have HF : Hid (eachM subF xs ys = ([], 43)) := eachM_ne (by omega)
    have z0 : ((n : Int) != (m : Int)) = true := by simp; omega
    rw [HF.out]
    clear ha hb hn hm
    go_enter Try.func9, Try.ntmps9
    go_wp2
    go_ret2
    exact ⟨none, 0, rfl, irow_nil _ _, Below.refl _ _⟩
set_option maxHeartbeats 800000 in
theorem sumError_any (ha : IntsAt w a xs) (hb : IntsAt w b ys) (hn : xs.length = n) (hm : ys.length = m) (hl : n ≤ 1000) (hl2 : m ≤ 9223372036854775807) :
    Calls Try.prog 10 #[.slice a n ca, .slice b m cb] w fun e w' => e = .returned (.int .i64 (eachM addF xs ys).2) ∧ Below w.heap.size w w' := by
  have HE := hide (raddL_any (ca := ca) (cb := cb) ha hb hn hm hl hl2)
  clear ha hb hn hm
  go_enter Try.func10, Try.ntmps10
  go_wp2_with (go_at_call 9; refine HE.out.mono ?_; rintro e w1 ⟨a1, c1, rfl, h1, h2⟩)
  go_ret
  exact ⟨rfl, h2⟩
set_option maxRecDepth 100000 in
set_option maxHeartbeats 1600000 in
theorem rmostL_any (ha : IntsAt w a xs) (hb : IntsAt w b ys) (hn : xs.length = n) (hm : ys.length = m) (hl : n ≤ 1000) (hl2 : m ≤ 9223372036854775807) :
    Calls Try.prog 14 #[.slice a n ca, .slice b m cb] w fun e w' => ∃ a' c', e = .returned (.tuple #[.slice a' (eachM mostF xs ys).1.length c', .int .i64 (eachM mostF xs ys).2]) ∧ IRow w' w.heap.size (.slice a' (eachM mostF xs ys).1.length c') (eachM mostF xs ys).1 ∧ Below w.heap.size w w' := by
  by_cases hnm : n = m
  · have HL : Hid (xs.length = ys.length) := by show _ = _; omega
    have HA := hide ha
    have HB := hide hb
    have HN := hide hn
    have HM := hide hm
    subst hnm
    have z0 : ((n : Int) != (n : Int)) = false := by simp
    have HB0 : Hid (Below w.heap.size w w ∧ w.heap.size ≤ w.heap.size) := ⟨Below.refl _ _, Nat.le_refl _⟩
    clear ha hb hn hm
    go_enter Try.func14, Try.ntmps14
    go_wp2
    go_loopw [6, 7] (fun vo vi wr => ∃ (i : Nat) (v : Value), vi = .int .i64 i ∧ v = vo ∧ i ≤ n ∧ Hid (∀ j, j < i → (mostF xs[j]! ys[j]!).2 = 0) ∧ Hid ((Below w.heap.size w wr ∧ w.heap.size ≤ wr.heap.size) ∧ IRow wr w.heap.size v (preK mostF xs ys i))) (fun _ vi _ => n - (intOf vi).toNat)
    case atStart => exact ⟨0, _, rfl, rfl, Nat.zero_le _, fun j hj => absurd hj (Nat.not_lt_zero j), HB0.out, irow_nil _ _⟩
    case round =>
      clear HB0
      obtain ⟨i, v, rfl, rfl, hi, HI, HR⟩ := hrel
      by_cases hil : i < n
      · have i1 : (i : Int) < (n : Int) := by omega
        have HK := hide (preK_succ mostF xs ys i)
        obtain ⟨b1, o1, rfl, c1⟩ := (HA.out.later HR.out.1.1) i (by rw [HN.out]; exact hil)
        obtain ⟨b2, o2, rfl, c2⟩ := (HB.out.later HR.out.1.1) i (by rw [HM.out]; exact hil)
        have HOK : Hid ((mostF xs[i]! ys[i]!).2 = 0 → ∀ j, j < i + 1 → (mostF xs[j]! ys[j]!).2 = 0) := fun h0 j hj => by
          by_cases e : j = i
          · rw [e]; exact h0
          · exact HI.out j (by omega)
        generalize xs[i]! = x at c1 HK HOK
        generalize ys[i]! = y at c2 HK HOK
        by_cases hyx : y < x
        · have HV : Hid (mostF x y = (x, 0)) := by show _ = _; unfold mostF; rw [if_pos hyx]
          have i2 : decide (y < x) = true := by simpa using hyx
          rw [HV.out] at HK HOK
          have HI2 := hide (HOK.out rfl)
          have HRQ : Hid (∀ q, (Below w.heap.size w (wr.drewN q) ∧ w.heap.size ≤ (wr.drewN q).heap.size) ∧ IRow (wr.drewN q) w.heap.size v (preK mostF xs ys i)) := fun q => ⟨⟨below_drewN HR.out.1.1 q, by rw [drewN_heap]; exact HR.out.1.2⟩, HR.out.2.drewN q⟩
          clear HOK HR
          go_wp2
          go_quiet (fail)
          go_wp2_with ((at_builtin; refine app_one (.tmp 28) (.tmp 33) rfl rfl rfl rfl (HRQ.out _).2 (by rw [preK_len]; omega) (HRQ.out _).1.1 (HRQ.out _).1.2 ?_; intro v' w2 h1 h2; have H2 := hide (And.intro h2 h1); clear h1 h2))
          go_roundw
          case rel => exact ⟨i + 1, _, by go_num, rfl, by omega, HI2.out, H2.out.1, by rw [HK.out]; exact H2.out.2⟩
          case measure => simp [intOf]; omega
        · have HV : Hid (mostF x y = (y, 0)) := by show _ = _; unfold mostF; rw [if_neg hyx]
          have i2 : decide (y < x) = false := by simpa using hyx
          rw [HV.out] at HK HOK
          have HI2 := hide (HOK.out rfl)
          have HRQ : Hid (∀ q, (Below w.heap.size w (wr.drewN q) ∧ w.heap.size ≤ (wr.drewN q).heap.size) ∧ IRow (wr.drewN q) w.heap.size v (preK mostF xs ys i)) := fun q => ⟨⟨below_drewN HR.out.1.1 q, by rw [drewN_heap]; exact HR.out.1.2⟩, HR.out.2.drewN q⟩
          clear HOK HR
          go_wp2
          go_quiet (fail)
          go_wp2_with ((at_builtin; refine app_one (.tmp 35) (.tmp 40) rfl rfl rfl rfl (HRQ.out _).2 (by rw [preK_len]; omega) (HRQ.out _).1.1 (HRQ.out _).1.2 ?_; intro v' w2 h1 h2; have H2 := hide (And.intro h2 h1); clear h1 h2))
          go_roundw
          case rel => exact ⟨i + 1, _, by go_num, rfl, by omega, HI2.out, H2.out.1, by rw [HK.out]; exact H2.out.2⟩
          case measure => simp [intOf]; omega
      · have i1 : ¬ (i : Int) < (n : Int) := by omega
        have hin : i = n := by omega
        subst hin
        have HF : Hid (eachM mostF xs ys = (preK mostF xs ys i, 0)) := by
          show _ = _
          rw [eachM_ok HL.out (fun j hj => HI.out j (by have := HN.out; omega)), HN.out]; rfl
        obtain ⟨a1, k1, e1⟩ := HR.out.2.shape
        rw [preK_len] at e1
        subst e1
        go_wp2
        go_ret2
        refine ⟨a1, k1, ?_, ?_, HR.out.1.1⟩
        · rw [HF.out]; simp [preK_len]
        · rw [HF.out]; simp only [preK_len]; exact HR.out.2
  · have HF : Hid (eachM mostF xs ys = ([], 43)) := eachM_ne (by omega)
    have z0 : ((n : Int) != (m : Int)) = true := by simp; omega
    rw [HF.out]
    clear ha hb hn hm
    go_enter Try.func14, Try.ntmps14
    go_wp2
    go_ret2
    exact ⟨none, 0, rfl, irow_nil _ _, Below.refl _ _⟩
end
end Go.Proofs.Ytehbdnnehhknmaa
