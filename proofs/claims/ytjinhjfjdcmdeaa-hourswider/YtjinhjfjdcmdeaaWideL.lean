/-
  What the law HoursWider does.
-/
import Derived.Test.YtjinhjfjdcmdeaaChkL
namespace Go.Proofs.Ytjinhjfjdcmdeaa
open Go.RowKit

theorem umod (x : Int) (n : Nat) (hn : 0 < n) : ∃ u p : Nat, IntKind.u64.wrap x = (u : Int) ∧ Int.tmod (u : Int) (n : Int) = (p : Int) ∧ (u : Int) % (n : Int) = (p : Int) ∧ p < n := by
  obtain ⟨u, hu⟩ : ∃ u : Nat, IntKind.u64.wrap x = (u : Int) := ⟨(IntKind.u64.wrap x).toNat, by rw [IntKind.wrap_u64]; omega⟩
  exact ⟨u, u % n, hu, rfl, rfl, Nat.mod_lt _ hn⟩
theorem WRow.addr {w : World} {base m c : Nat} {a : Option Addr} {L : List Win} (h : WRow w base (.slice a m c) L) (hl : 0 < L.length) : ∃ g, a = some ⟨g, 0, none⟩ ∧ base ≤ g := by
  have h' : w.ownsRow base 37 2 (.slice a m c) L.length (flatW L) := h
  rcases h'.2 with ⟨e, e2⟩ | ⟨g, cap, cur, e, hb, _⟩
  · omega
  · cases e; exact ⟨g, rfl, hb⟩
theorem flatW_set : ∀ (L : List Win) (p : Nat) (f u : Int), ((flatW L).set (p * 2) (.int .i64 f)).set (p * 2 + 1) (.int .i64 u) = flatW (L.set p (f, u))
  | [], _, _, _ => rfl
  | x :: r, 0, f, u => rfl
  | x :: r, p + 1, f, u => by
    have ih := flatW_set r p f u
    show ((encW x ++ flatW r).set ((p + 1) * 2) _).set ((p + 1) * 2 + 1) _ = encW x ++ flatW (r.set p (f, u))
    rw [← ih, show (p + 1) * 2 = (encW x).length + p * 2 by simp [encW]; omega, show (encW x).length + p * 2 + 1 = (encW x).length + (p * 2 + 1) by omega]
    rw [List.set_append_right _ _ (by omega), List.set_append_right _ _ (by omega)]
    simp only [Nat.add_sub_cancel_left]
theorem WRow.put {w : World} {base g m c : Nat} {L : List Win} (h : WRow w base (.slice (some ⟨g, 0, none⟩) m c) L) (hm : L.length = m) (p : Nat) (f u : Int) : WRow ((w.setCell ⟨g, p * 2, none⟩ (.int .i64 f)).setCell ⟨g, p * 2 + 1, none⟩ (.int .i64 u)) base (.slice (some ⟨g, 0, none⟩) m c) (L.set p (f, u)) := by
  subst hm
  unfold WRow
  rw [List.length_set, ← flatW_set]
  exact (World.ownsRow.stored (World.ownsRow.stored h _ _).1 _ _).1
theorem WRow.drew {w : World} {base : Nat} {v : Value} {L : List Win} (h : WRow w base v L) : WRow w.drew base v L := h.later (Nat.le_refl _) (Below.refl _ _).drew
theorem WRow.frozen {w : World} {base g m c : Nat} {L : List Win} (h : WRow w base (.slice (some ⟨g, 0, none⟩) m c) L) (hm : L.length = m) (j : Nat) : w.frozen? ⟨g, j, none⟩ = false := by subst hm; exact World.ownsRow.frozenAt h j
theorem wider_ends {x y : Int} {b d : Bool} {L M : List Win} {t : Int} (h : Lw L) (k : Lw M) (hs : ∀ x, inP L x → inP M x) (e1 : startM t L = (x, b)) (e2 : startM t M = (y, d)) : b = true → d = true ∧ y ≤ x := by
  have := wider_start (t := t) h k hs
  rw [e1, e2] at this
  exact this
theorem wider_ends2 {x y : Int} {b d : Bool} {L M : List Win} {t : Int} (h : Lw L) (k : Lw M) (hs : ∀ x, inP L x → inP M x) (e1 : lastM t L = (x, b)) (e2 : lastM t M = (y, d)) : b = true → d = true ∧ x ≤ y := by
  have := wider_last (t := t) h k hs
  rw [e1, e2] at this
  exact this
set_option maxRecDepth 100000 in
set_option maxHeartbeats 6400000 in
theorem widerL_any {a : Option Addr} {m c : Nat} {L : List Win} {w : World} (i t b : Int) (h : WinsAt w a m L) (hc : a = none → c = 0) :
    Calls Try.prog 6 #[.slice a m c, .int .i64 i, .int .i64 t, .int .i64 b] w fun e w' => e = .returned (.bool true) ∧ Below w.heap.size w w' := by
  have R0 := hide h
  have HC := hide hc
  have HB0 := hide (Below.refl w.heap.size w)
  have HLN := hide h.len
  clear h hc
  cases hl : lawB L with
  | false =>
    replace hl := hide hl
    go_enter Try.func6, Try.ntmps6
    go_wp2_with (first
      | (go_at_call 10; refine (lawful_is hl.out R1.out).mono ?_; rintro e w2 ⟨rfl, k2⟩; have HB2 := hide (below_on HB1.out k2); have R2 := hide (R1.out.on k2); clear k2)
      | (go_at_call 7; refine (awake_any _).mono ?_; rintro e w1 ⟨rfl, k2⟩; have HB1 := hide (below_on HB0.out k2); have R1 := hide (R0.out.on k2); clear k2))
    go_ret
    exact ⟨rfl, HB2.out⟩
  | true =>
    obtain ⟨hm1, hm2, hL⟩ := chk_ok (of_decide_eq_true hl)
    rw [HLN.out] at hm1 hm2
    replace hl := hide hl
    obtain ⟨u, p, hu, hp1, hp2, hpm⟩ := umod i m (by omega)
    obtain ⟨v, s, hv, hs1, hs2, hsm⟩ := umod b 50 (by omega)
    have hs3 : (v : Int) % 50 = (s : Int) := hs2
    clear hs2
    have wm : IntKind.u64.wrap (m : Int) = (m : Int) := by rw [IntKind.wrap_u64]; omega
    have wp : IntKind.i64.wrap (p : Int) = (p : Int) := by rw [IntKind.wrap_i64]; omega
    have ws : IntKind.i64.wrap (s : Int) = (s : Int) := by rw [IntKind.wrap_i64]; omega
    have i1 : (p : Int) < (m : Int) := by omega
    have i0 : ¬ (m : Int) = 0 := by omega
    have HPM := hide hpm
    have HL := hide hL
    have hx0 := hL.1 (L[p]!) (by rw [getElem!_pos L p (by rw [HLN.out]; exact hpm)]; exact List.getElem_mem _)
    obtain ⟨x, hx⟩ : ∃ x, L[p]! = x := ⟨_, rfl⟩
    have HX := hide hx
    rw [hx] at hx0
    obtain ⟨x1, x2⟩ := x
    obtain ⟨y1, y2, y3⟩ := hx0
    simp only at y1 y2 y3
    have wa : IntKind.i64.wrap (x1 - (s : Int)) = x1 - (s : Int) := by rw [IntKind.wrap_i64]; omega
    have wb : IntKind.i64.wrap (x2 + (s : Int)) = x2 + (s : Int) := by rw [IntKind.wrap_i64]; omega
    have HWI : Hid (∀ z, inP L z → inP (L.set p (x1 - (s : Int), x2 + (s : Int))) z) := fun z hz => wider_in (by rw [HLN.out]; exact HPM.out) (by rw [HX.out]; show x1 - (s : Int) ≤ x1; omega) (by rw [HX.out]; show x2 ≤ x2 + (s : Int); omega) hz
    clear hx hL
    go_enter Try.func6, Try.ntmps6
    go_wp2_with (first
      | (at_builtin; refine app_wins (.tmp 24) (.tmp 25) rfl rfl rfl rfl R2.out HC.out HB2.out ?_; intro aX cX w3 k1 k2 k3 k4 k5; have HB3 := hide k5; have X3 := hide k2; have R3 := hide (R2.out.on k4); obtain ⟨g, eg, hg⟩ := k1.addr (by rw [HLN.out]; omega); subst eg; obtain ⟨b0, o0, e0, c0, c1⟩ := k2.cell p HPM.out; cases e0; rw [HX.out] at c0 c1; have f0 := k1.frozen HLN.out (p * 2); have f1 := k1.frozen HLN.out (p * 2 + 1); have HG := hide hg; have HWR := hide k1; have HBW := hide k4; clear hg; clear k1 k2 k3 k4 k5)
      | (go_at_call 10; refine (lawful_is hl.out R1.out).mono ?_; rintro e w2 ⟨rfl, k2⟩; have HB2 := hide (below_on HB1.out k2); have R2 := hide (R1.out.on k2); clear k2)
      | (go_at_call 7; refine (awake_any _).mono ?_; rintro e w1 ⟨rfl, k2⟩; have HB1 := hide (below_on HB0.out k2); have R1 := hide (R0.out.on k2); clear k2))
    simp only [Nat.zero_add] at c0 c1
    go_region
    obtain ⟨M, hM⟩ : ∃ M, L.set p (x1 - (s : Int), x2 + (s : Int)) = M := ⟨_, rfl⟩
    have HMR := hide (((HWR.out.put HLN.out p (x1 - (s : Int)) (x2 + (s : Int)))).drew)
    rw [hM] at HMR HWI
    have HML : Hid (M.length = m) := by rw [← hM]; show _ = _; rw [List.length_set]; exact HLN.out
    have HBS : Hid (Below w2.heap.size w2 ((w3.setCell ⟨g, p * 2, none⟩ (.int .i64 (x1 - (s : Int)))).setCell ⟨g, p * 2 + 1, none⟩ (.int .i64 (x2 + (s : Int)))).drew) :=
      ((HBW.out.setCell (p := ⟨g, p * 2, none⟩) HG.out _).setCell (p := ⟨g, p * 2 + 1, none⟩) HG.out _).drew
    clear hM c0 c1 f0 f1 wa wb
    generalize ((w3.setCell ⟨g, p * 2, none⟩ (.int .i64 (x1 - (s : Int)))).setCell ⟨g, p * 2 + 1, none⟩ (.int .i64 (x2 + (s : Int)))).drew = w4 at HMR HBS ⊢
    have HB4 := hide (below_on HB2.out HBS.out)
    have R4 := hide (R2.out.on HBS.out)
    have X4 : Hid (WinsAt w4 (some ⟨g, 0, none⟩) m M) := by
      obtain ⟨a', c', e, h⟩ := HMR.out.at (by rw [HML.out]; omega)
      cases e
      rw [HML.out] at h
      exact h
    clear HMR HBS HWR HBW
    cases hl2 : lawB M with
    | false =>
      replace hl2 := hide hl2
      go_wp2_with (go_at_call 10; refine (lawful_is hl2.out X4.out).mono ?_; rintro e w5 ⟨rfl, k2⟩; have HB5 := hide (below_on HB4.out k2); clear k2)
      go_ret
      exact ⟨rfl, HB5.out⟩
    | true =>
      have hM2 := (chk_ok (of_decide_eq_true hl2)).2.2
      replace hl2 := hide hl2
      obtain ⟨sa, so, HS⟩ : ∃ i e, Hid (startM t L = (i, e)) := ⟨_, _, rfl⟩
      obtain ⟨la, lo, HT⟩ : ∃ i e, Hid (lastM t L = (i, e)) := ⟨_, _, rfl⟩
      obtain ⟨sb, sp, HS2⟩ : ∃ i e, Hid (startM t M = (i, e)) := ⟨_, _, rfl⟩
      obtain ⟨lb, lp, HT2⟩ : ∃ i e, Hid (lastM t M = (i, e)) := ⟨_, _, rfl⟩
      have n1 := wider_ends HL.out hM2 HWI.out HS.out HS2.out
      have n2 := wider_ends2 HL.out hM2 HWI.out HT.out HT2.out
      clear hM2
      cases so with
      | false =>
        clear n1
        cases lo with
        | false =>
          clear n2
          go_wp2_with (first
            | (go_at_call 13; refine (last_is HT2.out X10.out).mono ?_; rintro e w11 ⟨rfl, k2⟩; have HB11 := hide (below_on HB10.out k2); have R11 := hide (R10.out.on k2); have X11 := hide (X10.out.on k2); have Y11 := hide (Y10.out.on k2); have Z11 := hide (Z10.out.on k2); clear k2)
            | (go_at_call 13; refine (last_is HT.out Z9.out).mono ?_; rintro e w10 ⟨rfl, k2⟩; have HB10 := hide (below_on HB9.out k2); have R10 := hide (R9.out.on k2); have X10 := hide (X9.out.on k2); have Y10 := hide (Y9.out.on k2); have Z10 := hide (Z9.out.on k2); clear k2)
            | (at_builtin; refine app_wins (.tmp 76) (.tmp 77) rfl rfl rfl rfl R8.out HC.out HB8.out ?_; intro aZ cZ w9 k1 k2 k3 k4 k5; have HB9 := hide k5; have Z9 := hide k2; have R9 := hide (R8.out.on k4); have X9 := hide (X8.out.on k4); have Y9 := hide (Y8.out.on k4); clear k1 k2 k3 k4 k5)
            | (go_at_call 11; refine (start_is HS2.out X7.out).mono ?_; rintro e w8 ⟨rfl, k2⟩; have HB8 := hide (below_on HB7.out k2); have R8 := hide (R7.out.on k2); have X8 := hide (X7.out.on k2); have Y8 := hide (Y7.out.on k2); clear k2)
            | (go_at_call 11; refine (start_is HS.out Y6.out).mono ?_; rintro e w7 ⟨rfl, k2⟩; have HB7 := hide (below_on HB6.out k2); have R7 := hide (R6.out.on k2); have X7 := hide (X6.out.on k2); have Y7 := hide (Y6.out.on k2); clear k2)
            | (at_builtin; refine app_wins (.tmp 62) (.tmp 63) rfl rfl rfl rfl R5.out HC.out HB5.out ?_; intro aY cY w6 k1 k2 k3 k4 k5; have HB6 := hide k5; have Y6 := hide k2; have R6 := hide (R5.out.on k4); have X6 := hide (X5.out.on k4); clear k1 k2 k3 k4 k5)
            | (go_at_call 10; refine (lawful_is hl2.out X4.out).mono ?_; rintro e w5 ⟨rfl, k2⟩; have HB5 := hide (below_on HB4.out k2); have R5 := hide (R4.out.on k2); have X5 := hide (X4.out.on k2); clear k2))
          go_ret
          exact ⟨rfl, HB11.out⟩
        | true =>
          obtain ⟨rfl, n3⟩ := n2 rfl
          clear n2
          go_wp2_with (first
            | (go_at_call 13; refine (last_is HT2.out X10.out).mono ?_; rintro e w11 ⟨rfl, k2⟩; have HB11 := hide (below_on HB10.out k2); have R11 := hide (R10.out.on k2); have X11 := hide (X10.out.on k2); have Y11 := hide (Y10.out.on k2); have Z11 := hide (Z10.out.on k2); clear k2)
            | (go_at_call 13; refine (last_is HT.out Z9.out).mono ?_; rintro e w10 ⟨rfl, k2⟩; have HB10 := hide (below_on HB9.out k2); have R10 := hide (R9.out.on k2); have X10 := hide (X9.out.on k2); have Y10 := hide (Y9.out.on k2); have Z10 := hide (Z9.out.on k2); clear k2)
            | (at_builtin; refine app_wins (.tmp 76) (.tmp 77) rfl rfl rfl rfl R8.out HC.out HB8.out ?_; intro aZ cZ w9 k1 k2 k3 k4 k5; have HB9 := hide k5; have Z9 := hide k2; have R9 := hide (R8.out.on k4); have X9 := hide (X8.out.on k4); have Y9 := hide (Y8.out.on k4); clear k1 k2 k3 k4 k5)
            | (go_at_call 11; refine (start_is HS2.out X7.out).mono ?_; rintro e w8 ⟨rfl, k2⟩; have HB8 := hide (below_on HB7.out k2); have R8 := hide (R7.out.on k2); have X8 := hide (X7.out.on k2); have Y8 := hide (Y7.out.on k2); clear k2)
            | (go_at_call 11; refine (start_is HS.out Y6.out).mono ?_; rintro e w7 ⟨rfl, k2⟩; have HB7 := hide (below_on HB6.out k2); have R7 := hide (R6.out.on k2); have X7 := hide (X6.out.on k2); have Y7 := hide (Y6.out.on k2); clear k2)
            | (at_builtin; refine app_wins (.tmp 62) (.tmp 63) rfl rfl rfl rfl R5.out HC.out HB5.out ?_; intro aY cY w6 k1 k2 k3 k4 k5; have HB6 := hide k5; have Y6 := hide k2; have R6 := hide (R5.out.on k4); have X6 := hide (X5.out.on k4); clear k1 k2 k3 k4 k5)
            | (go_at_call 10; refine (lawful_is hl2.out X4.out).mono ?_; rintro e w5 ⟨rfl, k2⟩; have HB5 := hide (below_on HB4.out k2); have R5 := hide (R4.out.on k2); have X5 := hide (X4.out.on k2); clear k2))
          go_ret
          exact ⟨rfl, HB11.out⟩
      | true =>
        obtain ⟨rfl, n4⟩ := n1 rfl
        clear n1
        cases lo with
        | false =>
          clear n2
          go_wp2_with (first
            | (go_at_call 13; refine (last_is HT2.out X10.out).mono ?_; rintro e w11 ⟨rfl, k2⟩; have HB11 := hide (below_on HB10.out k2); have R11 := hide (R10.out.on k2); have X11 := hide (X10.out.on k2); have Y11 := hide (Y10.out.on k2); have Z11 := hide (Z10.out.on k2); clear k2)
            | (go_at_call 13; refine (last_is HT.out Z9.out).mono ?_; rintro e w10 ⟨rfl, k2⟩; have HB10 := hide (below_on HB9.out k2); have R10 := hide (R9.out.on k2); have X10 := hide (X9.out.on k2); have Y10 := hide (Y9.out.on k2); have Z10 := hide (Z9.out.on k2); clear k2)
            | (at_builtin; refine app_wins (.tmp 76) (.tmp 77) rfl rfl rfl rfl R8.out HC.out HB8.out ?_; intro aZ cZ w9 k1 k2 k3 k4 k5; have HB9 := hide k5; have Z9 := hide k2; have R9 := hide (R8.out.on k4); have X9 := hide (X8.out.on k4); have Y9 := hide (Y8.out.on k4); clear k1 k2 k3 k4 k5)
            | (go_at_call 11; refine (start_is HS2.out X7.out).mono ?_; rintro e w8 ⟨rfl, k2⟩; have HB8 := hide (below_on HB7.out k2); have R8 := hide (R7.out.on k2); have X8 := hide (X7.out.on k2); have Y8 := hide (Y7.out.on k2); clear k2)
            | (go_at_call 11; refine (start_is HS.out Y6.out).mono ?_; rintro e w7 ⟨rfl, k2⟩; have HB7 := hide (below_on HB6.out k2); have R7 := hide (R6.out.on k2); have X7 := hide (X6.out.on k2); have Y7 := hide (Y6.out.on k2); clear k2)
            | (at_builtin; refine app_wins (.tmp 62) (.tmp 63) rfl rfl rfl rfl R5.out HC.out HB5.out ?_; intro aY cY w6 k1 k2 k3 k4 k5; have HB6 := hide k5; have Y6 := hide k2; have R6 := hide (R5.out.on k4); have X6 := hide (X5.out.on k4); clear k1 k2 k3 k4 k5)
            | (go_at_call 10; refine (lawful_is hl2.out X4.out).mono ?_; rintro e w5 ⟨rfl, k2⟩; have HB5 := hide (below_on HB4.out k2); have R5 := hide (R4.out.on k2); have X5 := hide (X4.out.on k2); clear k2))
          go_ret
          exact ⟨rfl, HB11.out⟩
        | true =>
          obtain ⟨rfl, n3⟩ := n2 rfl
          clear n2
          go_wp2_with (first
            | (go_at_call 13; refine (last_is HT2.out X10.out).mono ?_; rintro e w11 ⟨rfl, k2⟩; have HB11 := hide (below_on HB10.out k2); have R11 := hide (R10.out.on k2); have X11 := hide (X10.out.on k2); have Y11 := hide (Y10.out.on k2); have Z11 := hide (Z10.out.on k2); clear k2)
            | (go_at_call 13; refine (last_is HT.out Z9.out).mono ?_; rintro e w10 ⟨rfl, k2⟩; have HB10 := hide (below_on HB9.out k2); have R10 := hide (R9.out.on k2); have X10 := hide (X9.out.on k2); have Y10 := hide (Y9.out.on k2); have Z10 := hide (Z9.out.on k2); clear k2)
            | (at_builtin; refine app_wins (.tmp 76) (.tmp 77) rfl rfl rfl rfl R8.out HC.out HB8.out ?_; intro aZ cZ w9 k1 k2 k3 k4 k5; have HB9 := hide k5; have Z9 := hide k2; have R9 := hide (R8.out.on k4); have X9 := hide (X8.out.on k4); have Y9 := hide (Y8.out.on k4); clear k1 k2 k3 k4 k5)
            | (go_at_call 11; refine (start_is HS2.out X7.out).mono ?_; rintro e w8 ⟨rfl, k2⟩; have HB8 := hide (below_on HB7.out k2); have R8 := hide (R7.out.on k2); have X8 := hide (X7.out.on k2); have Y8 := hide (Y7.out.on k2); clear k2)
            | (go_at_call 11; refine (start_is HS.out Y6.out).mono ?_; rintro e w7 ⟨rfl, k2⟩; have HB7 := hide (below_on HB6.out k2); have R7 := hide (R6.out.on k2); have X7 := hide (X6.out.on k2); have Y7 := hide (Y6.out.on k2); clear k2)
            | (at_builtin; refine app_wins (.tmp 62) (.tmp 63) rfl rfl rfl rfl R5.out HC.out HB5.out ?_; intro aY cY w6 k1 k2 k3 k4 k5; have HB6 := hide k5; have Y6 := hide k2; have R6 := hide (R5.out.on k4); have X6 := hide (X5.out.on k4); clear k1 k2 k3 k4 k5)
            | (go_at_call 10; refine (lawful_is hl2.out X4.out).mono ?_; rintro e w5 ⟨rfl, k2⟩; have HB5 := hide (below_on HB4.out k2); have R5 := hide (R4.out.on k2); have X5 := hide (X4.out.on k2); clear k2))
          go_ret
          exact ⟨rfl, HB11.out⟩
end Go.Proofs.Ytjinhjfjdcmdeaa
