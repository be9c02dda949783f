/-
  What the calls of climb's meet and Dist do.
-/
import Derived.Test.YtojkdmkeankcgaaGreatZClimb8
namespace Go.Proofs.YtojkdmkeankcgaaGreat
open Go.RowKit Go.Sort

def mtI : Option (Nat × Int) → Int
  | none => -1
  | some t => t.1
def mlI : Option (Nat × Int) → Int
  | none => -1
  | some t => t.2
/-- What a side's weights are worth. -/
def DOk (n : Nat) (D : Nat → Option Int) : Prop := ∀ v d, D v = some d → v < n ∧ 0 ≤ d ∧ d ≤ 4294967296000000
theorem mlI_bnd {n : Nat} {D F : Nat → Option Int} (hD : DOk n D) (hF : DOk n F) (k : Nat) : -1 ≤ mlI (meetP D F k) ∧ mlI (meetP D F k) ≤ 8589934592000000 ∧ (mlI (meetP D F k) < 0 ↔ meetP D F k = none) := by
  rcases meetP_is D F k with ⟨h1, _⟩ | ⟨t, l, h1, _, ⟨x, y, h3, h4, h5⟩, _⟩
  · rw [h1]; simp [mlI]
  · rw [h1]
    have := hD t x h3
    have := hF t y h4
    simp [mlI]
    omega
theorem meetP_skip {D F : Nat → Option Int} {k : Nat} (h : D k = none ∨ F k = none) : meetP D F (k + 1) = meetP D F k := by
  rw [meetP]
  rcases h with h | h
  · rw [h]
  · cases D k <;> simp [h]
theorem meetP_take {D F : Nat → Option Int} {k : Nat} {x y : Int} (hx : D k = some x) (hy : F k = some y) (h : mlI (meetP D F k) < 0 ∨ x + y < mlI (meetP D F k)) (hn : mlI (meetP D F k) < 0 → meetP D F k = none) : meetP D F (k + 1) = some (k, x + y) := by
  rw [meetP, hx, hy]
  simp only
  cases e : meetP D F k with
  | none => rfl
  | some t =>
    simp only
    rw [e] at h hn
    rw [if_pos]
    rcases h with h | h
    · have := hn h; cases this
    · exact h
theorem meetP_keep {D F : Nat → Option Int} {k : Nat} {x y : Int} (hx : D k = some x) (hy : F k = some y) (h : ¬ (mlI (meetP D F k) < 0 ∨ x + y < mlI (meetP D F k))) : meetP D F (k + 1) = meetP D F k := by
  rw [meetP, hx, hy]
  simp only
  cases e : meetP D F k with
  | none => rw [e] at h; simp [mlI] at h
  | some t =>
    simp only
    rw [e] at h
    rw [if_neg]
    intro h2
    exact h (.inr h2)
set_option maxRecDepth 100000 in
set_option maxHeartbeats 12800000 in
theorem meet_any {B1 B2 n su cu lu yu sd cd ld yd : Nat} {w : World} {k1 o1 i1 k2 o2 i2 : Value} {s1 s2 : Int} {D F : Nat → Option Int} {A1 A2 : Nat → Lnk} (hn : n ≤ 32) (h1 : SdAt B1 w su cu lu yu n k1 o1 i1 s1 D A1) (h2 : SdAt B2 w sd cd ld yd n k2 o2 i2 s2 F A2) (hD : DOk n D) (hF : DOk n F) :
    Calls Tryz.prog 42 #[.pointer (some ⟨su, 0, none⟩), .pointer (some ⟨sd, 0, none⟩)] w fun e w' => e = .returned (.tuple #[.int .i64 (mtI (meetP D F n)), .int .i64 (mlI (meetP D F n))]) ∧ ∃ q, w' = w.drewN q := by
  have HN := hide hn
  have H1 := hide h1
  have H2 := hide h2
  have HDF := hide (And.intro hD hF)
  obtain ⟨_, _, _, _, a4, a5, _⟩ := h1.c
  clear h1 h2 hD hF
  go_enter Tryz.func42, Tryz.ntmps42
  go_wp2
  clear a4 a5
  go_loopw [6, 7, 16] (fun vt vl vi wr => ∃ i : Nat, vt = .int .i64 (mtI (meetP D F i)) ∧ vl = .int .i64 (mlI (meetP D F i)) ∧ vi = .int .i64 i ∧ i ≤ n ∧ Hid (∃ q, wr = w.drewN q)) (fun _ _ vi _ => n - (intOf vi).toNat)
  case atStart => exact ⟨0, rfl, rfl, rfl, Nat.zero_le _, 0, rfl⟩
  case round =>
    obtain ⟨i, rfl, rfl, rfl, hi, HR⟩ := hrel
    obtain ⟨q, hq⟩ := HR.out
    have HM := hide (mlI_bnd HDF.out.1 HDF.out.2 i)
    by_cases hin : i < n
    · have j1 : (i : Int) < (n : Int) := by omega
      have S1 := hide (H1.out.drewN q)
      have S2 := hide (H2.out.drewN q)
      rw [← hq] at S1 S2
      obtain ⟨_, _, _, _, a4, a5, _⟩ := S1.out.c
      obtain ⟨_, _, _, _, b4, b5, _⟩ := S2.out.c
      have y1 := S1.out.cclo hin
      have y2 := S2.out.cclo hin
      have y3 := S1.out.clst hin
      have y4 := S2.out.clst hin
      have HQ := hide hq
      clear hq HR
      generalize hml : mlI (meetP D F i) = ml at HM ⊢
      generalize hmt : mtI (meetP D F i) = mt at ⊢
      have HML := hide hml
      have HMT := hide hmt
      have hb1 : -1 ≤ ml ∧ ml ≤ 8589934592000000 := ⟨HM.out.1, HM.out.2.1⟩
      clear hml hmt
      cases hD : D i with
      | none =>
        have HS := hide (meetP_skip (F := F) (k := i) (.inl hD))
        rw [hD] at y1 y3
        simp only [Option.isSome_none] at y1
        replace hD := hide hD
        clear y2 y3 y4
        go_wp2
        go_roundw
        case rel => exact ⟨i + 1, by rw [HS.out, HMT.out], by rw [HS.out, HML.out], by go_num, by omega, q, HQ.out⟩
        case measure => simp [intOf]; omega
      | some x =>
        rw [hD] at y1 y3
        simp only [Option.isSome_some, Option.getD_some] at y1 y3
        have hx := (HDF.out.1 i x hD).2
        cases hF : F i with
        | none =>
          have HS := hide (meetP_skip (D := D) (k := i) (.inr hF))
          rw [hF] at y2 y4
          simp only [Option.isSome_none] at y2
          replace hD := hide hD
          replace hF := hide hF
          clear y4
          go_wp2
          go_roundw
          case rel => exact ⟨i + 1, by rw [HS.out, HMT.out], by rw [HS.out, HML.out], by go_num, by omega, q, HQ.out⟩
          case measure => simp [intOf]; omega
        | some y =>
          rw [hF] at y2 y4
          simp only [Option.isSome_some, Option.getD_some] at y2 y4
          have hy := (HDF.out.2 i y hF).2
          have w1 : Wt x := ⟨hx.1, by omega⟩
          have w2 : Wt y := ⟨hy.1, by omega⟩
          have HW := hide (And.intro w1 w2)
          clear w1 w2
          by_cases hh : ml < 0 ∨ x + y < ml
          · have HS := hide (meetP_take hD hF (by rw [HML.out]; exact hh) (by rw [HML.out]; exact fun e => HM.out.2.2.1 e))
            have HLT := hide (fun w => lighter_any (x + y) ml w)
            rw [decide_eq_true hh] at HLT
            replace hD := hide hD
            replace hF := hide hF
            replace hh := hide hh
            go_wp2
            go_quiet (first | (go_at_call 40; exact Calls.quiet_of_same (plusC_any x y HW.out.1 HW.out.2 _)))
            go_wp2_with (go_at_call 41; refine (HLT.out _).mono ?_; rintro e w2 ⟨rfl, hw⟩; rw [hw]; clear hw)
            go_roundw
            case rel => exact ⟨i + 1, by rw [HS.out]; rfl, by rw [HS.out]; rfl, by go_num, by omega, q + nq, by rw [HQ.out, World.drewN_drewN]⟩
            case measure => simp [intOf]; omega
          · have HS := hide (meetP_keep hD hF (by rw [HML.out]; exact hh))
            have HLT := hide (fun w => lighter_any (x + y) ml w)
            rw [decide_eq_false hh] at HLT
            replace hD := hide hD
            replace hF := hide hF
            replace hh := hide hh
            go_wp2
            go_quiet (first | (go_at_call 40; exact Calls.quiet_of_same (plusC_any x y HW.out.1 HW.out.2 _)))
            go_wp2_with (go_at_call 41; refine (HLT.out _).mono ?_; rintro e w2 ⟨rfl, hw⟩; rw [hw]; clear hw)
            go_roundw
            case rel => exact ⟨i + 1, by rw [HS.out, HMT.out], by rw [HS.out, HML.out], by go_num, by omega, q + nq, by rw [HQ.out, World.drewN_drewN]⟩
            case measure => simp [intOf]; omega
    · have : i = n := by omega
      subst this
      generalize hml : mlI (meetP D F i) = ml at ⊢
      generalize hmt : mtI (meetP D F i) = mt at ⊢
      have HML := hide hml
      have HMT := hide hmt
      have HQ := hide hq
      clear hml hmt hq
      go_wp2
      go_ret2
      exact ⟨by rw [HML.out, HMT.out]; rfl, q, HQ.out⟩
theorem Side.dok {n : Nat} {up : Bool} {E : Mx} {s : Nat} {D : Nat → Option Int} {A : Nat → Lnk} (h : Side n up E s D A) : DOk n D := fun v d e => h.lt v d e
theorem none_dok (n : Nat) : DOk n fun _ => none := fun v d e => by cases e
theorem mlI_cv (x : Option (Nat × Int)) : mlI x = cv (x.map (·.2)) := by cases x <;> rfl
theorem meetP_none_l (F : Nat → Option Int) : ∀ k, meetP (fun _ => none) F k = none
  | 0 => rfl
  | k + 1 => by rw [meetP_skip (.inl rfl)]; exact meetP_none_l F k
theorem meetP_none_r (D : Nat → Option Int) : ∀ k, meetP D (fun _ => none) k = none
  | 0 => rfl
  | k + 1 => by rw [meetP_skip (.inr rfl)]; exact meetP_none_r D k
section
variable {n : Nat} {w : World} {b : LfB} {rv : Nat → Int} {W : Nat → Nat → Option Int} {K : Mx} {rk : Nat → Nat} {Q : Nat → Option Int}
set_option maxRecDepth 100000 in
set_option maxHeartbeats 12800000 in
theorem cdist_any (hl : LfA n w b rv (upM K rk) (dnM K rk)) (hn : n ≤ 32) (hBd : Bd n W n K rk Q rv) (hW : WOk n W) {p q : Nat} (hp : p < n) (hq : q < n) :
    Calls Tryz.prog 14 #[.pointer (some ⟨b.l, 0, none⟩), .int .i64 p, .int .i64 q] w fun e w' => e = .returned (.int .i64 (cv (least n W p q))) ∧ Below w.heap.size w w' := by
  have HU := hide (wards_up hl hn hBd hp)
  have HL := hide hl
  have HN := hide hn
  have HBD := hide hBd
  have HW := hide hW
  have HP := hide hp
  have HQ := hide hq
  clear hl hBd hW
  go_enter Tryz.func14, Tryz.ntmps14
  go_wp2_with (first
    | (go_at_call 43; refine HU.out.mono ?_; rintro e w1 ⟨su, cu, lu, yu, D, A, rfl, h1, h2, h3⟩; have H1 := hide (And.intro h1 (And.intro h2 h3)); clear h1 h2 h3)
    | (go_at_call 44; refine (wards_dn (HL.out.later H1.out.2.2) HN.out HBD.out HQ.out).mono ?_; rintro e w2 ⟨sd, cd, ld, yd, F, A2, rfl, h1, h2, h3⟩; have H2 := hide (And.intro h1 (And.intro h2 h3)); clear h1 h2 h3)
    | (go_at_call 42; refine (meet_any HN.out (H1.out.1.later H2.out.2.2) H2.out.1 H1.out.2.1.dok H2.out.2.1.dok).mono ?_; rintro e w3 ⟨rfl, k, hw⟩; have H3 := hide hw; clear hw))
  go_ret
  refine ⟨?_, ?_⟩
  · show Ending.returned (.int .i64 (mlI (meetP D F n))) = _
    rw [mlI_cv, meet_least HBD.out HW.out HP.out HQ.out H1.out.2.1.least H2.out.2.1.least]
  · rw [H3.out]
    exact Qu.below_drewN (H1.out.2.2.trans (H2.out.2.2.mono H1.out.2.2.size)) k
set_option maxRecDepth 100000 in
set_option maxHeartbeats 12800000 in
theorem cdist_out (hl : LfA n w b rv (upM K rk) (dnM K rk)) (hn : n ≤ 32) (hBd : Bd n W n K rk Q rv) {p q : Int} (hpq : ¬ (0 ≤ p ∧ p < n) ∨ ((0 ≤ p ∧ p < n) ∧ ¬ (0 ≤ q ∧ q < n))) :
    Calls Tryz.prog 14 #[.pointer (some ⟨b.l, 0, none⟩), .int .i64 p, .int .i64 q] w fun e w' => e = .returned (.int .i64 (-1)) ∧ Below w.heap.size w w' := by
  have HDN : Hid (∀ w', LfA n w' b rv (upM K rk) (dnM K rk) → Calls Tryz.prog 44 #[.pointer (some ⟨b.l, 0, none⟩), .int .i64 q] w' fun e w'' => ∃ sb gc gl gy lk lo hi F A, e = .returned (.pointer (some ⟨sb, 0, none⟩)) ∧ SdAt w'.heap.size w'' sb gc gl gy n lk lo hi q F A ∧ (DOk n F ∧ (¬ (0 ≤ q ∧ q < n) → F = fun _ => none)) ∧ Below w'.heap.size w' w'') := fun w' h' => by
    by_cases hq : 0 ≤ q ∧ q < n
    · obtain ⟨q', rfl⟩ := Int.eq_ofNat_of_zero_le hq.1
      refine (wards_dn h' hn hBd (p := q') (by omega)).mono ?_
      rintro e w'' ⟨sb, gc, gl, gy, D, A, rfl, h1, h2, h3⟩
      exact ⟨_, _, _, _, _, _, _, D, A, rfl, h1, ⟨h2.dok, fun e => absurd hq e⟩, h3⟩
    · refine (wards_dn_out h' hn hq).mono ?_
      rintro e w'' ⟨sb, gc, gl, gy, A, rfl, h1, h3⟩
      exact ⟨_, _, _, _, _, _, _, _, A, rfl, h1, ⟨none_dok n, fun _ => rfl⟩, h3⟩
  have HUP : Hid (Calls Tryz.prog 43 #[.pointer (some ⟨b.l, 0, none⟩), .int .i64 p] w fun e w'' => ∃ sb gc gl gy lk lo hi F A, e = .returned (.pointer (some ⟨sb, 0, none⟩)) ∧ SdAt w.heap.size w'' sb gc gl gy n lk lo hi p F A ∧ (DOk n F ∧ (¬ (0 ≤ p ∧ p < n) → F = fun _ => none)) ∧ Below w.heap.size w w'') := by
    show Calls _ _ _ _ _
    by_cases hq : 0 ≤ p ∧ p < n
    · obtain ⟨q', rfl⟩ := Int.eq_ofNat_of_zero_le hq.1
      refine (wards_up hl hn hBd (p := q') (by omega)).mono ?_
      rintro e w'' ⟨sb, gc, gl, gy, D, A, rfl, h1, h2, h3⟩
      exact ⟨_, _, _, _, _, _, _, D, A, rfl, h1, ⟨h2.dok, fun e => absurd hq e⟩, h3⟩
    · refine (wards_up_out hl hn hq).mono ?_
      rintro e w'' ⟨sb, gc, gl, gy, A, rfl, h1, h3⟩
      exact ⟨_, _, _, _, _, _, _, _, A, rfl, h1, ⟨none_dok n, fun _ => rfl⟩, h3⟩
  have HL := hide hl
  have HN := hide hn
  have HPQ := hide hpq
  clear hl hBd hpq
  go_enter Tryz.func14, Tryz.ntmps14
  go_wp2_with (first
    | (go_at_call 43; refine HUP.out.mono ?_; rintro e w1 ⟨su, cu, lu, yu, k1, o1, i1, D, A, rfl, h1, h2, h3⟩; have H1 := hide (And.intro h1 (And.intro h2 h3)); clear h1 h2 h3)
    | (go_at_call 44; refine (HDN.out _ (HL.out.later H1.out.2.2)).mono ?_; rintro e w2 ⟨sd, cd, ld, yd, k2, o2, i2, F, A2, rfl, h1, h2, h3⟩; have H2 := hide (And.intro h1 (And.intro h2 h3)); clear h1 h2 h3)
    | (go_at_call 42; refine (meet_any HN.out (H1.out.1.later H2.out.2.2) H2.out.1 H1.out.2.1.1 H2.out.2.1.1).mono ?_; rintro e w3 ⟨rfl, k, hw⟩; have H3 := hide hw; clear hw))
  go_ret
  refine ⟨?_, ?_⟩
  · show Ending.returned (.int .i64 (mlI (meetP D F n))) = _
    have e : meetP D F n = none := by
      rcases HPQ.out with e | e
      · rw [H1.out.2.1.2 e]; exact meetP_none_l _ _
      · rw [H2.out.2.1.2 e.2]; exact meetP_none_r _ _
    rw [e]; rfl
  · rw [H3.out]
    exact Qu.below_drewN (H1.out.2.2.trans (H2.out.2.2.mono H1.out.2.2.size)) k
end
set_option maxRecDepth 100000 in
set_option maxHeartbeats 12800000 in
theorem cdist_nil (p q : Int) (w : World) : Calls Tryz.prog 14 #[.pointer none, .int .i64 p, .int .i64 q] w fun e w' => e = .returned (.int .i64 (-1)) ∧ Below w.heap.size w w' := by
  go_enter Tryz.func14, Tryz.ntmps14
  go_wp2_with (first
    | (go_at_call 43; refine (wards_up_nil p w).mono ?_; rintro e w1 ⟨su, cu, lu, yu, A, rfl, h1, h3⟩; have H1 := hide (And.intro h1 h3); clear h1 h3)
    | (go_at_call 44; refine (wards_dn_nil q w1).mono ?_; rintro e w2 ⟨sd, cd, ld, yd, A2, rfl, h1, h3⟩; have H2 := hide (And.intro h1 h3); clear h1 h3)
    | (go_at_call 42; refine (meet_any (by omega) (H1.out.1.later H2.out.2) H2.out.1 (none_dok 0) (none_dok 0)).mono ?_; rintro e w3 ⟨rfl, k, hw⟩; have H3 := hide hw; clear hw))
  go_ret
  refine ⟨rfl, ?_⟩
  rw [H3.out]
  exact Qu.below_drewN (H1.out.2.trans (H2.out.2.mono H1.out.2.size)) k
end Go.Proofs.YtojkdmkeankcgaaGreat
