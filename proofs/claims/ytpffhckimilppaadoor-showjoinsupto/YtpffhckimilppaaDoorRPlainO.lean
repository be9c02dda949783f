/-
  What the document's plain does of an object, and of any value.
-/
import Derived.Test.YtpffhckimilppaaDoorRPlain
namespace Go.Proofs.YtpffhckimilppaaDoor
open Go.RowKit
set_option maxRecDepth 100000
section
variable {x : VI} {na ka : Option Addr} {nc kc : Nat} {w : World}
set_option maxHeartbeats 6400000 in
theorem rplain_out2 (h : (x.truth = true ∧ x.kind = 2 ∧ (x.num ≠ 0 ∨ (x.num = 0 ∧ x.text ≠ []) ∨ (x.num = 0 ∧ x.text = [] ∧ x.kids.length ≠ 0))) ∨ (x.truth = false ∧ x.num ≠ 0 ∧ x.kind = 3 ∧ (x.text ≠ [] ∨ (x.text = [] ∧ x.kids.length ≠ 0))) ∨ (x.truth = false ∧ x.num = 0 ∧ x.text ≠ [] ∧ x.kind = 4 ∧ x.kids.length ≠ 0)) :
    Calls Tryd.prog 25 #[.agg (aggI x (.slice na x.names.length nc) (.slice ka x.kids.length kc)).toArray] w fun e w' => e = .returned (.bool (plainB x)) ∧ Below w.heap.size w w' := by
  unfold aggI
  have HF : Hid (plainB x = false) := by
    show _ = _
    have hs : spareB x = false := by
      rcases h with ⟨h1, h2, h3 | ⟨h3, h4⟩ | ⟨h3, h4, h5⟩⟩ | ⟨h1, h2, h3, h4 | ⟨h4, h5⟩⟩ | ⟨h1, h2, h3, h4, h5⟩
      · simp [spareB, h2, h3]
      · simp [spareB, h2, h4]
      · simp only [spareB, h2, Bool.and_eq_false_iff]; right; simp; intro e; apply h5; rw [e]; rfl
      · simp [spareB, h3, h4]
      · simp only [spareB, h3, Bool.and_eq_false_iff]; right; simp; intro e; apply h5; rw [e]; rfl
      · simp only [spareB, h4, Bool.and_eq_false_iff]; right; simp; intro e; apply h5; rw [e]; rfl
    simp [plainB, hs]
  rcases h with ⟨h1, h2, h3 | ⟨h3, h4⟩ | ⟨h3, h4, h5⟩⟩ | ⟨h1, h2, h3, h4 | ⟨h4, h5⟩⟩ | ⟨h1, h2, h3, h4, h5⟩
  · have z2 : (x.num != 0) = true := by simpa using h3
    rw [h1, h2]
    go_enter Tryd.func25, Tryd.ntmps25
    go_wp2
    go_ret
    exact ⟨by rw [HF.out]; rfl, (Below.refl _ _).alloc (Nat.le_refl _) _⟩
  · rw [h1, h2, h3]
    go_enter Tryd.func25, Tryd.ntmps25
    go_wp2
    go_ret
    exact ⟨by rw [HF.out]; rfl, (Below.refl _ _).alloc (Nat.le_refl _) _⟩
  · have z7 : (0 : Int) < (x.kids.length : Int) := by omega
    rw [h1, h2, h3, h4]
    go_enter Tryd.func25, Tryd.ntmps25
    go_wp2
    go_ret
    exact ⟨by rw [HF.out]; rfl, (Below.refl _ _).alloc (Nat.le_refl _) _⟩
  · have z2 : (x.num != 0) = true := by simpa using h2
    rw [h1, h3]
    go_enter Tryd.func25, Tryd.ntmps25
    go_wp2
    go_ret
    exact ⟨by rw [HF.out]; rfl, (Below.refl _ _).alloc (Nat.le_refl _) _⟩
  · have z2 : (x.num != 0) = true := by simpa using h2
    have z7 : (0 : Int) < (x.kids.length : Int) := by omega
    rw [h1, h3, h4]
    go_enter Tryd.func25, Tryd.ntmps25
    go_wp2
    go_ret
    exact ⟨by rw [HF.out]; rfl, (Below.refl _ _).alloc (Nat.le_refl _) _⟩
  · have z7 : (0 : Int) < (x.kids.length : Int) := by omega
    rw [h1, h2, h4]
    go_enter Tryd.func25, Tryd.ntmps25
    go_wp2
    go_ret
    exact ⟨by rw [HF.out]; rfl, (Below.refl _ _).alloc (Nat.le_refl _) _⟩
set_option maxHeartbeats 6400000 in
theorem rplain_obj (hr : Rest x) (hk : x.kind = 6) (hz : SzV x) (hv : VAt w x (.slice na x.names.length nc) (.slice ka x.kids.length kc)) :
    Calls Tryd.prog 25 #[.agg (aggI x (.slice na x.names.length nc) (.slice ka x.kids.length kc)).toArray] w fun e w' => e = .returned (.bool (plainB x)) ∧ Below w.heap.size w w' := by
  have HSR := hide (spare_rest hr)
  have HF : Hid (plainB x = ((x.names.length == x.kids.length) && apartB x.names)) := by show _ = _; rw [plainB, HSR.out, hk]; simp
  unfold aggI
  obtain ⟨h1, h2, h3, h4⟩ := hr
  have tr : x.truth = false := by cases h : x.truth with | false => rfl | true => have := h1 h; omega
  have nm : x.num = 0 := Classical.byContradiction fun h => by have := h2 h; omega
  have tx : x.text = [] := Classical.byContradiction fun h => by have := h3 h; omega
  obtain ⟨nv1, nl, hnv, hnl, hnn⟩ := hv.names
  injection hnv with hna hle hce
  subst hna
  clear hle hce
  have hnl2 : x.names.length ≤ 9223372036854775807 := by simpa using hnl
  have HNN := hide hnn
  have HZN := hide hz.names
  have HKE := hide hk
  rw [hk, tr, nm, tx]
  clear h1 h2 h3 h4 hk tr nm tx hnn hv hnl HSR
  have zf : fitsB 0 = true := fits_zero
  have zv : Lib.validD [] = true := valid_nil
  by_cases kk : (0 : Int) < (x.kids.length : Int)
  all_goals
    go_enter Tryd.func25, Tryd.ntmps25
    go_wp2_with (first
      | (go_at_call 34; refine (rfits_any _ _).mono ?_; rintro e w1 ⟨rfl, hw⟩; rw [hw]; clear hw)
      | (go_at_call 19; refine (utf_any [] (by simp) _).mono ?_; rintro e w1 ⟨rfl, k2⟩; have B2 := (bxx_gen (x := x) (nc := nc) (kc := kc) HKE.out rfl).later k2; have c0 := B2.b0; rw [HKE.out] at c0; have HB1 := hide B2; clear B2 k2))
    go_loopw [3] (fun vi wr => ∃ i : Nat, vi = .int .i64 i ∧ i ≤ x.names.length ∧ Hid (AprtK x.names i) ∧ Hid (Bxx x na ka nc kc w wr)) (fun vi _ => x.names.length - (intOf vi).toNat)
    case atStart => exact ⟨0, rfl, Nat.zero_le _, aprt_zero _, HB1.out⟩
    case round =>
      clear HB1
      obtain ⟨i, rfl, hi, HA, HB⟩ := hrel
      have c4 := HB.out.b4
      by_cases hil : i < x.names.length
      · have i1 : (i : Int) < (x.names.length : Int) := by omega
        obtain ⟨s, hsi⟩ : ∃ s, x.names[i]? = some s := ⟨_, List.getElem?_eq_getElem hil⟩
        obtain ⟨gn, rfl, hcn⟩ := HNN.out i (strv s) (by rw [List.getElem?_map, hsi]; rfl)
        have HCI : Hid (∀ w', Below w.heap.size w w' → w'.cell? (gn.add i) = some (.string ⟨s.toArray⟩)) := fun w' h => (h.cell (block_lt_of_cell hcn)).trans hcn
        have c1 := HCI.out _ HB.out.below
        have HU := hide (fun w' => utf_any s (HZN.out s (List.mem_of_getElem? hsi)) w')
        clear hcn
        cases hv : Lib.validD s
        · have HF2 : Hid (plainB x = false) := by show _ = _; rw [HF.out, apart_bad (List.mem_of_getElem? hsi) hv, Bool.and_false]
          have HV2 : Hid (Lib.validD s = false) := hv
          clear hsi hv
          go_wp2_with (first
            | (go_at_call 19; refine (HU.out _).mono ?_; rintro e w2 ⟨rfl, k2⟩; rw [HV2.out]; have H1 := hide (HB.out.later k2).below; clear k2))
          go_ret
          exact ⟨by rw [HF2.out]; rfl, H1.out⟩
        · have HV2 : Hid (Lib.validD s = true) := hv
          have HTW : Hid (∀ k, k < i → x.names[k]? = some s → plainB x = false) := fun k hk he => by
            rw [HF.out, apart_twice hsi (List.mem_take_iff_getElem.2 ⟨k, by have := (List.getElem?_eq_some_iff.1 he).1; omega, (List.getElem?_eq_some_iff.1 he).2⟩), Bool.and_false]
          have HSU : Hid ((∀ k, k < i → x.names[k]? ≠ some s) → AprtK x.names (i + 1)) := fun h => aprt_succ HA.out hsi (fun hm => by
            obtain ⟨k, hk, e⟩ := List.mem_take_iff_getElem.1 hm
            exact h k (by omega) (by rw [List.getElem?_eq_getElem (by omega), e])) hv
          clear hsi hv
          go_wp2_with (first
            | (go_at_call 19; refine (HU.out _).mono ?_; rintro e w2 ⟨rfl, k2⟩; rw [HV2.out]; have HB2 := hide (HB.out.later k2); clear k2))
          clear c1 c4
          go_loopw [4] (fun vk wq => ∃ k : Nat, vk = .int .i64 k ∧ k ≤ i ∧ Hid (∀ j, j < k → x.names[j]? ≠ some s) ∧ Hid (Bxx x (some gn) ka nc kc w wq)) (fun vk _ => i - (intOf vk).toNat)
          case atStart => exact ⟨0, rfl, Nat.zero_le _, fun j hj => absurd hj (Nat.not_lt_zero j), HB2.out⟩
          case round =>
            clear HB2
            obtain ⟨k, rfl, hk, HK, HB3⟩ := hrel
            by_cases hki : k < i
            · have k1 : (k : Int) < (i : Int) := by omega
              have k2 : (k : Int) < (x.names.length : Int) := by omega
              obtain ⟨t, hti⟩ : ∃ t, x.names[k]? = some t := ⟨_, List.getElem?_eq_getElem (by omega)⟩
              obtain ⟨gn2, e2, hcn⟩ := HNN.out k (strv t) (by rw [List.getElem?_map, hti]; rfl)
              cases e2
              have d1 := HCI.out _ HB3.out.below
              have d2 : _ = some (Value.string ⟨t.toArray⟩) := (HB3.out.below.cell (block_lt_of_cell hcn)).trans hcn
              have d4 := HB3.out.b4
              clear hcn
              by_cases hst : t = s
              · subst hst
                have HF2 := hide (HTW.out k hki hti)
                have y1 : (t == t) = true := by simp
                clear hti
                go_wp2
                go_quiet (fail)
                go_wp2
                go_ret
                exact ⟨by rw [HF2.out]; rfl, below_drewN HB3.out.below _⟩
              · have HK2 : Hid (∀ j, j < k + 1 → x.names[j]? ≠ some s) := fun j hj => by
                  by_cases e : j = k
                  · rw [e, hti]; intro e2; injection e2 with e2; exact hst e2
                  · exact HK.out j (by omega)
                have y1 : (t == s) = false := by simpa using hst
                clear hti
                go_wp2
                go_quiet (fail)
                go_wp2
                go_roundw
                case rel => exact ⟨k + 1, by go_num, by omega, HK2.out, HB3.out.later (below_drewN (Below.refl _ _) _)⟩
                case measure => simp [intOf]; omega
            · have k1 : ¬ (k : Int) < (i : Int) := by omega
              obtain rfl : k = i := by omega
              have HA2 := hide (HSU.out HK.out)
              go_wp2
              go_roundw
              case rel => exact ⟨k + 1, by go_num, by omega, HA2.out, HB3.out⟩
              case measure => simp [intOf]; omega
      · have i1 : ¬ (i : Int) < (x.names.length : Int) := by omega
        obtain rfl : i = x.names.length := by omega
        have HF2 : Hid (plainB x = ((x.names.length : Int) == (x.kids.length : Int))) := by
          show _ = _
          rw [HF.out, aprt_all HA.out, Bool.and_true, Bool.eq_iff_iff]; simp; omega
        have c5 := HB.out.b5
        go_wp2
        go_ret
        exact ⟨by rw [HF2.out]; rfl, HB.out.below⟩
theorem rplain_any (hz : SzV x) (hv : VAt w x (.slice na x.names.length nc) (.slice ka x.kids.length kc)) :
    Calls Tryd.prog 25 #[.agg (aggI x (.slice na x.names.length nc) (.slice ka x.kids.length kc)).toArray] w fun e w' => e = .returned (.bool (plainB x)) ∧ Below w.heap.size w w' := by
  by_cases hr : Rest x
  · by_cases h1 : x.kind < 1 ∨ 6 < x.kind
    · exact rplain_none hr h1
    · by_cases h6 : x.kind = 6
      · exact rplain_obj hr h6 hz hv
      · exact rplain_low hr (by omega) hz
  · unfold Rest at hr
    cases ht : x.truth
    · by_cases hn : x.num = 0
      · by_cases htx : x.text = []
        · by_cases hkd : x.kids.length = 0
          · exact absurd ⟨fun h => (by rw [ht] at h; cases h), fun h => absurd hn h, fun h => absurd htx h, fun h => absurd hkd h⟩ hr
          · by_cases h5 : x.kind = 5 ∨ x.kind = 6
            · exact absurd ⟨fun h => (by rw [ht] at h; cases h), fun h => absurd hn h, fun h => absurd htx h, fun _ => h5⟩ hr
            · exact rplain_out (.inr (.inr (.inr ⟨ht, hn, htx, hkd, fun e => h5 (.inl e), fun e => h5 (.inr e)⟩)))
        · by_cases h4 : x.kind = 4
          · by_cases hkd : x.kids.length = 0
            · exact absurd ⟨fun h => (by rw [ht] at h; cases h), fun h => absurd hn h, fun _ => h4, fun h => absurd hkd h⟩ hr
            · exact rplain_out2 (.inr (.inr ⟨ht, hn, htx, h4, hkd⟩))
          · exact rplain_out (.inr (.inr (.inl ⟨ht, hn, htx, h4⟩)))
      · by_cases h3 : x.kind = 3
        · by_cases htx : x.text = []
          · by_cases hkd : x.kids.length = 0
            · exact absurd ⟨fun h => (by rw [ht] at h; cases h), fun _ => h3, fun h => absurd htx h, fun h => absurd hkd h⟩ hr
            · exact rplain_out2 (.inr (.inl ⟨ht, hn, h3, .inr ⟨htx, hkd⟩⟩))
          · exact rplain_out2 (.inr (.inl ⟨ht, hn, h3, .inl htx⟩))
        · exact rplain_out (.inr (.inl ⟨ht, hn, h3⟩))
    · by_cases h2 : x.kind = 2
      · by_cases hn : x.num = 0
        · by_cases htx : x.text = []
          · by_cases hkd : x.kids.length = 0
            · exact absurd ⟨fun _ => h2, fun h => absurd hn h, fun h => absurd htx h, fun h => absurd hkd h⟩ hr
            · exact rplain_out2 (.inl ⟨ht, h2, .inr (.inr ⟨hn, htx, hkd⟩)⟩)
          · exact rplain_out2 (.inl ⟨ht, h2, .inr (.inl ⟨hn, htx⟩)⟩)
        · exact rplain_out2 (.inl ⟨ht, h2, .inl hn⟩)
      · exact rplain_out (.inl ⟨ht, h2⟩)
end
end Go.Proofs.YtpffhckimilppaaDoor
