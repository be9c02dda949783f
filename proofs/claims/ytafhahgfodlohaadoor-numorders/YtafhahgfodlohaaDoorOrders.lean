/-
  NumOrders is proved: for every two numbers the law returns true (sums and products go by any order; a number and its opposite are nothing; a product by one more is the sum with it once more), and the arguments read as they did; the conditions are the card's own: the library's listed tables hold what the program's text lays.
-/
import Derived.Test.YtafhahgfodlohaaDoorFrame
import Derived.Test.YtafhahgfodlohaaDoorWalkF
import Derived.Test.YtafhahgfodlohaaDoorCards
import Derived.Test.YtafhahgfodlohaaDoorTie
import Derived.SevenTiedAt
namespace Go.Proofs.YtafhahgfodlohaaDoor
open Go.ChangeShapes Go.WideShapes Go.ChangeAt Go.WideMaps Go.WideElems Go.RowKit
set_option maxRecDepth 100000

theorem addV_comm (a b : Int) : addV b a = addV a b := by simp [addV, addOk, Int.add_comm b a, Bool.and_comm (fitsB b)]
theorem addE_comm (a b : Int) : addE b a = addE a b := by simp [addE, addOk, Int.add_comm b a, Bool.and_comm (fitsB b)]
theorem mulV_comm (a b : Int) : mulV b a = mulV a b := by simp [mulV, mulOk, Int.mul_comm b a, Bool.and_comm (fitsB b)]
theorem mulE_comm (a b : Int) : mulE b a = mulE a b := by simp [mulE, mulOk, Int.mul_comm b a, Bool.and_comm (fitsB b)]
theorem add_opp (a : Int) (h : fitsB a = true) : addV a (-a) = 0 ∧ addE a (-a) = 0 := by
  have hn : fitsB (-a) = true := by rw [fits_abs, Int.natAbs_neg, ← fits_abs]; exact h
  have h0 : fitsB 0 = true := by decide
  simp [addV, addE, addOk, h, hn, Int.add_right_neg, h0]
theorem mulE_yes {a b : Int} (h : mulOk a b = true) : mulE a b = 0 := by simp [mulE, h]
theorem mulE_no {a b : Int} (h : mulOk a b = false) : mulE a b = 10 := by simp [mulE, h]
theorem mulOk_pred {a b : Int} (h0 : 0 ≤ b) (h1 : b < 4611686018427387903) (h : mulOk a (b + 1) = true) : mulOk a b = true := by
  simp only [mulOk, Bool.and_eq_true] at h ⊢
  exact ⟨⟨h.1.1, (fitsB_iff b).2 ⟨by omega, by omega⟩⟩, fits_sub a (b + 1) b h0 (by omega) h.2⟩
theorem add_more {a b : Int} (h0 : 0 ≤ b) (h1 : b < 4611686018427387903) (h : mulOk a (b + 1) = true) : addV (mulV a b) a = mulV a (b + 1) ∧ addE (mulV a b) a = 0 := by
  have hp := mulOk_pred h0 h1 h
  have e1 : mulV a b = a * b := by simp [mulV, hp]
  have e2 : mulV a (b + 1) = a * b + a := by simp [mulV, h, Int.mul_add]
  simp only [mulOk, Bool.and_eq_true] at h hp
  have hf : fitsB (a * b + a) = true := by
    have := h.2; rwa [Int.mul_add, Int.mul_one] at this
  rw [e1, e2]
  simp [addV, addE, addOk, hp.2, hp.1.1, hf]

set_option maxHeartbeats 1000000 in
theorem orders_any (a b : Int) (w : World) (ht : Tab w) :
    Calls Tryd.prog 7 #[.int .i64 a, .int .i64 b] w fun e w' => e = .returned (.bool true) ∧ Below w.heap.size w w' := by
  have HT : Hid (Tab w) := ht
  clear ht
  have hc1 := addV_comm a b
  have hc2 := addE_comm a b
  have hc3 := mulV_comm a b
  have hc4 := mulE_comm a b
  cases ha : fitsB a
  · go_enter Tryd.func7, Tryd.ntmps7
    go_wp2_with (first | (go_at_call 9; refine (awake_any _ HT.out).mono ?_; rintro e w' ⟨rfl, hb⟩) | (go_at_call 10; refine (nadd_any _ _ _).mono ?_; rintro e w2 ⟨rfl, rfl⟩) | (go_at_call 12; refine (nmul_any _ _ _).mono ?_; rintro e w2 ⟨rfl, rfl⟩) | (go_at_call 15; refine (rfits_any _ _).mono ?_; rintro e w2 ⟨rfl, rfl⟩))
    go_ret
    exact ⟨by simp, by assumption⟩
  · obtain ⟨ha1, ha2⟩ := (fitsB_iff a).1 ha
    by_cases hb0 : b < 0
    · go_enter Tryd.func7, Tryd.ntmps7
      go_wp2_with (first | (go_at_call 9; refine (awake_any _ HT.out).mono ?_; rintro e w' ⟨rfl, hb⟩) | (go_at_call 10; refine (nadd_any _ _ _).mono ?_; rintro e w2 ⟨rfl, rfl⟩) | (go_at_call 12; refine (nmul_any _ _ _).mono ?_; rintro e w2 ⟨rfl, rfl⟩) | (go_at_call 15; refine (rfits_any _ _).mono ?_; rintro e w2 ⟨rfl, rfl⟩))
      go_ret
      exact ⟨by simp, by assumption⟩
    · by_cases hb1 : 4611686018427387903 ≤ b
      · go_enter Tryd.func7, Tryd.ntmps7
        go_wp2_with (first | (go_at_call 9; refine (awake_any _ HT.out).mono ?_; rintro e w' ⟨rfl, hb⟩) | (go_at_call 10; refine (nadd_any _ _ _).mono ?_; rintro e w2 ⟨rfl, rfl⟩) | (go_at_call 12; refine (nmul_any _ _ _).mono ?_; rintro e w2 ⟨rfl, rfl⟩) | (go_at_call 15; refine (rfits_any _ _).mono ?_; rintro e w2 ⟨rfl, rfl⟩))
        go_ret
        exact ⟨by simp, by assumption⟩
      · obtain ⟨ho1, ho2⟩ := add_opp a ha
        cases hk : mulOk a (b + 1)
        · have hk1 : mulE a (b + 1) = 10 := mulE_no hk
          clear hk
          go_enter Tryd.func7, Tryd.ntmps7
          go_wp2_with (first | (go_at_call 9; refine (awake_any _ HT.out).mono ?_; rintro e w' ⟨rfl, hb⟩) | (go_at_call 10; refine (nadd_any _ _ _).mono ?_; rintro e w2 ⟨rfl, rfl⟩) | (go_at_call 12; refine (nmul_any _ _ _).mono ?_; rintro e w2 ⟨rfl, rfl⟩) | (go_at_call 15; refine (rfits_any _ _).mono ?_; rintro e w2 ⟨rfl, rfl⟩))
          all_goals
            go_ret
            exact ⟨by simp, by assumption⟩
        · have hk1 : mulE a (b + 1) = 0 := mulE_yes hk
          have hk2 : mulE a b = 0 := mulE_yes (mulOk_pred (by omega) (by omega) hk)
          obtain ⟨hs1, hs2⟩ := add_more (by omega) (by omega) hk
          clear hk
          go_enter Tryd.func7, Tryd.ntmps7
          go_wp2_with (first | (go_at_call 9; refine (awake_any _ HT.out).mono ?_; rintro e w' ⟨rfl, hb⟩) | (go_at_call 10; refine (nadd_any _ _ _).mono ?_; rintro e w2 ⟨rfl, rfl⟩) | (go_at_call 12; refine (nmul_any _ _ _).mono ?_; rintro e w2 ⟨rfl, rfl⟩) | (go_at_call 15; refine (rfits_any _ _).mono ?_; rintro e w2 ⟨rfl, rfl⟩))
          go_ret
          exact ⟨by simp, by assumption⟩

theorem lifted7 (os : Os) (started : os.Started) (H : Type) (enc : TypeId × Value → H) :
    ReturnsInHanded {} Tryd.checked os 7 .any (fun w args => (Rows.numOrdersSpec.pre enc Tryd.prog Tryd.f7 [] false w args ∧ laidMetH Tryd.prog laid3 w) ∧ sizedMet enc Tryd.prog Tryd.f7 (OpenSpec.ofChange Rows.numOrdersSpec) false w args)
      (Rows.numOrdersSpec.post enc Tryd.prog Tryd.f7 false true false false) := by
  refine returnsInHanded_of_change_and (C := Tryd.checked) (X := fun w _ => laidMetH Tryd.prog laid3 w) (fun _ _ _ hh h => h.of_heap hh) own started (by kernel_rfl) Tryd.func7
    (ChangeSpec.witness_shaped (enc := enc) (C := Tryd.checked) (os := os) (X := fun w _ => laidMetH Tryd.prog laid3 w) false (World.doorLaid Tryd.prog 400 os) #[.int .i64 0, .int .i64 0] 8 rfl (World.shaped_of_RefB (by kernel_rfl) (by kernel_rfl)) (by kernel_rfl) (by kernel_rfl) (by kernel_rfl) (door_met os _)) ?_
  intro W base args ds gs before hval0 hW _ _ hL _
  have hval : ∀ (j : Nat) t v, Tryd.f7.params[j]? = some t → args[j]? = some v → Value.okWide Tryd.prog W .any base t v := hval0
  have hW' := hW
  obtain ⟨p, q, hA0, hV, rfl, hfz, hnd⟩ := hW
  have hA : DataW.TrodAll enc Tryd.prog W 0 (fun _ => true) true Tryd.f7.params.toList args.toList ds p := hA0
  rw [Tryd.params7] at hA hval
  obtain ⟨v0, v1, d0, d1, p0, p1, rfl, rfl, rfl, h0, h1⟩ := trodAll_two hA
  obtain ⟨rfl, rfl⟩ := trodVars_none hV
  obtain ⟨a, rfl, rfl, rfl, wa⟩ := open_int Tryd.underlying3 (hval 0 3 v0 rfl rfl) h0
  obtain ⟨b, rfl, rfl, rfl, wb⟩ := open_int Tryd.underlying3 (hval 1 3 v1 rfl rfl) h1
  have ht := tab_of_laid hL
  clear hA0 hval0
  simp only [List.append_nil] at hW'
  refine (orders_any a b W ht).mono fun e W' ⟨he, hnx⟩ => ?_
  subst he
  refine ⟨_, rfl, _, _, _, [], [], [], hW', ?_, ?_, rfl, hnx.frame _, fun h => by cases h⟩
  · exact trodAll_mk1 (shut_bool Tryd.underlying4 _)
  · exact trodAll_mk2 (shut_int Tryd.underlying3 wa) (shut_int Tryd.underlying3 wb)

theorem numOrders_row : Rows.NumOrdersSaid :=
  OpenClaim.holds_of_wide 7 Tryd.f7 rfl rfl rfl rfl rfl rfl rfl ⟨rfl, rfl, rfl, rfl, rfl⟩ rfl rfl rfl rfl rfl (by kernel_rfl) Tryd.func7 (by kernel_rfl)
    (of_decide_eq_true (by kernel_rfl)) (by unfold Func.isWrapper; first | (rw [if_pos (by decide +kernel)]; kernel_rfl) | (rw [if_neg (by decide +kernel)]; exact ⟨rfl, rfl⟩))
    (fun os started H enc _ => lifted7 os started H enc)

theorem numOrders_holds : Rows.NumOrdersCardSaid :=
  Claim7.holds_tied_plain_at .later [] [.data, .data, .data] true (true, "c11c7f0d57a32fe4275340d6e8fa22c411646f6b962c29818b1f6837f0f9cb97") false
    numOrders_row (fun _ h => by cases h) (by kernel_rfl) (fun _ h => by cases h) numOrders_row_tie rfl ⟨rfl, rfl⟩ (by kernel_rfl) rfl
    (fun f fn hf hfn => by
      obtain rfl : f = 7 := Option.some.inj ((show Tryd.prog.funcNamed "haulier/haulierlaw01.NumOrders" = some 7 by kernel_rfl).symm.trans hf) |>.symm
      obtain rfl : fn = Tryd.f7 := (Option.some.inj (Tryd.func7.symm.trans hfn)).symm
      exact ⟨by kernel_rfl, fun j t ht => by
        rw [Tryd.params7] at ht
        have hm : t ∈ [3, 3] := by simpa using Array.mem_of_getElem? ht
        have hall : ([3, 3].all fun u => !Tryd.prog.wantsStandIn u) = true := by kernel_rfl
        exact (show Tryd.prog.wantsStandIn t = false by simpa using List.all_eq_true.1 hall t hm)⟩)
    (by kernel_rfl)
#print axioms numOrders_holds

end Go.Proofs.YtafhahgfodlohaaDoor
