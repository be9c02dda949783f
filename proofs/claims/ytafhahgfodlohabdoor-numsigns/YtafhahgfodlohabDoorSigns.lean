/-
  NumSigns is proved: for every two numbers the law returns true (with both signs turned the sum's sign turns, the product's doesn't; with one the product's does), and the arguments read as they did; the conditions are the card's own: the library's listed tables hold what the program's text lays.
-/
import Derived.Test.YtafhahgfodlohabDoorFrame
import Derived.Test.YtafhahgfodlohabDoorWalkF
import Derived.Test.YtafhahgfodlohabDoorCards
import Derived.Test.YtafhahgfodlohabDoorTie
import Derived.SevenTiedAt
namespace Go.Proofs.YtafhahgfodlohabDoor
open Go.ChangeShapes Go.WideShapes Go.ChangeAt Go.WideMaps Go.WideElems Go.RowKit
set_option maxRecDepth 100000

theorem fits_neg (a : Int) : fitsB (-a) = fitsB a := by rw [fits_abs, fits_abs, Int.natAbs_neg]
theorem add_turned (a b : Int) : addV (-a) (-b) = -addV a b ∧ addE (-a) (-b) = addE a b := by
  have h : addOk (-a) (-b) = addOk a b := by
    have : -a + -b = -(a + b) := by omega
    rw [addOk, addOk, fits_neg, fits_neg, this, fits_neg]
  rw [addV, addE, addV, addE, h]
  cases addOk a b
  · simp
  · simp only [cond_true]; exact ⟨by omega, trivial⟩
theorem mul_turned (a b : Int) : mulV (-a) b = -mulV a b ∧ mulE (-a) b = mulE a b := by
  have h : mulOk (-a) b = mulOk a b := by
    rw [mulOk, mulOk, fits_neg, Int.neg_mul, fits_neg]
  rw [mulV, mulE, mulV, mulE, h]
  cases mulOk a b
  · simp
  · simp [Int.neg_mul]
theorem addV_bd (a b : Int) : -4611686018427387903 ≤ addV a b ∧ addV a b ≤ 4611686018427387903 := by
  cases h : addOk a b
  · rw [addV, h, cond_false]; decide
  · rw [addV, h, cond_true]
    simp only [addOk, Bool.and_eq_true] at h
    exact (fitsB_iff _).1 h.2
theorem mulV_bd (a b : Int) : -4611686018427387903 ≤ mulV a b ∧ mulV a b ≤ 4611686018427387903 := by
  cases h : mulOk a b
  · rw [mulV, h, cond_false]; decide
  · rw [mulV, h, cond_true]
    simp only [mulOk, Bool.and_eq_true] at h
    exact (fitsB_iff _).1 h.2
theorem no_fit (a b : Int) (h : (fitsB a && fitsB b) = false) : addE a b = 10 ∧ mulE a b = 10 := by
  have h1 : addOk a b = false := by rw [addOk, h]; rfl
  have h2 : mulOk a b = false := by rw [mulOk, h]; rfl
  rw [addE, mulE, h1, h2]; exact ⟨rfl, rfl⟩

set_option maxHeartbeats 1000000 in
theorem signs_any (a b : Int) (w : World) (ht : Tab w) :
    Calls Tryd.prog 3 #[.int .i64 a, .int .i64 b] w fun e w' => e = .returned (.bool true) ∧ Below w.heap.size w w' := by
  have HT : Hid (Tab w) := ht
  clear ht
  cases ha : fitsB a
  · obtain ⟨he, hf⟩ := no_fit a b (by rw [ha]; rfl)
    go_enter Tryd.func3, Tryd.ntmps3
    go_wp2_with (first | (go_at_call 4; refine (awake_any _ HT.out).mono ?_; rintro e w' ⟨rfl, hb⟩) | (go_at_call 6; refine (nadd_any _ _ _).mono ?_; rintro e w2 ⟨rfl, rfl⟩) | (go_at_call 7; refine (nmul_any _ _ _).mono ?_; rintro e w2 ⟨rfl, rfl⟩) | (go_at_call 5; refine (rfits_any _ _).mono ?_; rintro e w2 ⟨rfl, rfl⟩))
    go_ret
    exact ⟨by simp, by assumption⟩
  · cases hb : fitsB b
    · obtain ⟨he, hf⟩ := no_fit a b (by rw [ha, hb]; rfl)
      go_enter Tryd.func3, Tryd.ntmps3
      go_wp2_with (first | (go_at_call 4; refine (awake_any _ HT.out).mono ?_; rintro e w' ⟨rfl, hb⟩) | (go_at_call 6; refine (nadd_any _ _ _).mono ?_; rintro e w2 ⟨rfl, rfl⟩) | (go_at_call 7; refine (nmul_any _ _ _).mono ?_; rintro e w2 ⟨rfl, rfl⟩) | (go_at_call 5; refine (rfits_any _ _).mono ?_; rintro e w2 ⟨rfl, rfl⟩))
      go_ret
      exact ⟨by simp, by assumption⟩
    · obtain ⟨ha1, ha2⟩ := (fitsB_iff a).1 ha
      obtain ⟨hb1, hb2⟩ := (fitsB_iff b).1 hb
      obtain ⟨e1, e2⟩ := add_turned a b
      obtain ⟨e3, e4⟩ := mul_neg2 a b
      obtain ⟨e5, e6⟩ := mul_turned a b
      obtain ⟨b1, b2⟩ := addV_bd a b
      obtain ⟨b3, b4⟩ := mulV_bd a b
      go_enter Tryd.func3, Tryd.ntmps3
      go_wp2_with (first | (go_at_call 4; refine (awake_any _ HT.out).mono ?_; rintro e w' ⟨rfl, hb⟩) | (go_at_call 6; refine (nadd_any _ _ _).mono ?_; rintro e w2 ⟨rfl, rfl⟩) | (go_at_call 7; refine (nmul_any _ _ _).mono ?_; rintro e w2 ⟨rfl, rfl⟩) | (go_at_call 5; refine (rfits_any _ _).mono ?_; rintro e w2 ⟨rfl, rfl⟩))
      go_ret
      exact ⟨by simp, by assumption⟩

theorem lifted3 (os : Os) (started : os.Started) (H : Type) (enc : TypeId × Value → H) :
    ReturnsInHanded {} Tryd.checked os 3 .any (fun w args => (Rows.numSignsSpec.pre enc Tryd.prog Tryd.f3 [] false w args ∧ laidMetH Tryd.prog laid3 w) ∧ sizedMet enc Tryd.prog Tryd.f3 (OpenSpec.ofChange Rows.numSignsSpec) false w args)
      (Rows.numSignsSpec.post enc Tryd.prog Tryd.f3 false true false false) := by
  refine returnsInHanded_of_change_and (C := Tryd.checked) (X := fun w _ => laidMetH Tryd.prog laid3 w) (fun _ _ _ hh h => h.of_heap hh) own started (by kernel_rfl) Tryd.func3
    (ChangeSpec.witness_shaped (enc := enc) (C := Tryd.checked) (os := os) (X := fun w _ => laidMetH Tryd.prog laid3 w) false (World.doorLaid Tryd.prog 400 os) #[.int .i64 0, .int .i64 0] 8 rfl (World.shaped_of_RefB (by kernel_rfl) (by kernel_rfl)) (by kernel_rfl) (by kernel_rfl) (by kernel_rfl) (door_met os _)) ?_
  intro W base args ds gs before hval0 hW _ _ hL _
  have hval : ∀ (j : Nat) t v, Tryd.f3.params[j]? = some t → args[j]? = some v → Value.okWide Tryd.prog W .any base t v := hval0
  have hW' := hW
  obtain ⟨p, q, hA0, hV, rfl, hfz, hnd⟩ := hW
  have hA : DataW.TrodAll enc Tryd.prog W 0 (fun _ => true) true Tryd.f3.params.toList args.toList ds p := hA0
  rw [Tryd.params3] at hA hval
  obtain ⟨v0, v1, d0, d1, p0, p1, rfl, rfl, rfl, h0, h1⟩ := trodAll_two hA
  obtain ⟨rfl, rfl⟩ := trodVars_none hV
  obtain ⟨a, rfl, rfl, rfl, wa⟩ := open_int Tryd.underlying3 (hval 0 3 v0 rfl rfl) h0
  obtain ⟨b, rfl, rfl, rfl, wb⟩ := open_int Tryd.underlying3 (hval 1 3 v1 rfl rfl) h1
  have ht := tab_of_laid hL
  clear hA0 hval0
  simp only [List.append_nil] at hW'
  refine (signs_any a b W ht).mono fun e W' ⟨he, hnx⟩ => ?_
  subst he
  refine ⟨_, rfl, _, _, _, [], [], [], hW', ?_, ?_, rfl, hnx.frame _, fun h => by cases h⟩
  · exact trodAll_mk1 (shut_bool Tryd.underlying4 _)
  · exact trodAll_mk2 (shut_int Tryd.underlying3 wa) (shut_int Tryd.underlying3 wb)

theorem numSigns_row : Rows.NumSignsSaid :=
  OpenClaim.holds_of_wide 3 Tryd.f3 rfl rfl rfl rfl rfl rfl rfl ⟨rfl, rfl, rfl, rfl, rfl⟩ rfl rfl rfl rfl rfl (by kernel_rfl) Tryd.func3 (by kernel_rfl)
    (of_decide_eq_true (by kernel_rfl)) (by unfold Func.isWrapper; first | (rw [if_pos (by decide +kernel)]; kernel_rfl) | (rw [if_neg (by decide +kernel)]; exact ⟨rfl, rfl⟩))
    (fun os started H enc _ => lifted3 os started H enc)

theorem numSigns_holds : Rows.NumSignsCardSaid :=
  Claim7.holds_tied_plain_at .later [] [.data, .data, .data] true (true, "c8a76524efbd0b167e8b192ec462c422814f956ed5376732e5409344b92310f3") false
    numSigns_row (fun _ h => by cases h) (by kernel_rfl) (fun _ h => by cases h) numSigns_row_tie rfl ⟨rfl, rfl⟩ (by kernel_rfl) rfl
    (fun f fn hf hfn => by
      obtain rfl : f = 3 := Option.some.inj ((show Tryd.prog.funcNamed "haulier/haulierlaw01.NumSigns" = some 3 by kernel_rfl).symm.trans hf) |>.symm
      obtain rfl : fn = Tryd.f3 := (Option.some.inj (Tryd.func3.symm.trans hfn)).symm
      exact ⟨by kernel_rfl, fun j t ht => by
        rw [Tryd.params3] at ht
        have hm : t ∈ [3, 3] := by simpa using Array.mem_of_getElem? ht
        have hall : ([3, 3].all fun u => !Tryd.prog.wantsStandIn u) = true := by kernel_rfl
        exact (show Tryd.prog.wantsStandIn t = false by simpa using List.all_eq_true.1 hall t hm)⟩)
    (by kernel_rfl)
#print axioms numSigns_holds

end Go.Proofs.YtafhahgfodlohabDoor
