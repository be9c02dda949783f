/-
  NumBack is proved: for every number the law returns true (its text is read as it; one that doesn't fit is refused as too great), and the argument reads as it did; the conditions are the card's own: the library's listed tables hold what the program's text lays.
-/
import Derived.Test.YtafhahgfodlohaaDoorFrame
import Derived.Test.YtafhahgfodlohaaDoorNumeral
import Derived.Test.YtafhahgfodlohaaDoorCards
import Derived.Test.YtafhahgfodlohaaDoorTie
import Derived.SevenTiedAt
namespace Go.Proofs.YtafhahgfodlohaaDoor
open Go.ChangeShapes Go.WideShapes Go.ChangeAt Go.WideMaps Go.WideElems Go.RowKit
set_option maxRecDepth 100000

theorem tab_below {W W' : World} (ht : Tab W) (hb : Below W.heap.size W W') : Tab W' := by
  unfold Tab Lib.TabIs World.var? at *
  simp only [gPow, Option.bind_some] at *
  have h0 : 0 < W.heap.size := by
    refine Nat.pos_of_ne_zero fun e => ?_
    rw [Array.getElem?_eq_none (by omega)] at ht
    simp at ht
  rw [hb.block 0 h0]
  exact ht

set_option maxHeartbeats 1000000 in
theorem back_any (a : Int) (w : World) (ht : Tab w) (h0 : -9223372036854775808 ≤ a) (h1 : a ≤ 9223372036854775807) :
    Calls Tryd.prog 6 #[.int .i64 a] w fun e w' => e = .returned (.bool true) ∧ Below w.heap.size w w' := by
  have HT : Hid (Tab w) := ht
  clear ht
  obtain ⟨l, hl⟩ : ∃ l, Hid (Lib.itoa a = l) := ⟨_, rfl⟩
  have HV : Hid (parV l = (bif fitsB a then a else 0) ∧ parE l = (bif fitsB a then 0 else 10)) := by
    rw [← hl.out]; exact back_num a
  have HS : Hid ((⟨l.toArray⟩ : ByteArray).size ≤ maxLen) := by
    have := itoa_len a h0 h1
    rw [hl.out] at this
    show l.toArray.size ≤ maxLen
    unfold maxLen
    simp only [List.size_toArray]
    omega
  cases ha : fitsB a
  · have HP : Hid (parV l = 0 ∧ parE l = 10) := by rw [ha] at HV; exact HV.out
    clear HV
    go_enter Tryd.func6, Tryd.ntmps6
    go_wp2_with (go_at_call 9; refine (awake_any _ HT.out).mono ?_; rintro e w' ⟨rfl, hb⟩)
    refine (text_is l _ h0 h1 _ (tab_below HT.out hb) hl.out).mono ?_
    rintro e w2 ⟨rfl, hb2⟩
    have hb3 := hb.trans (hb2.mono hb.size)
    clear hb hb2
    go_wp2_with (first | (go_at_call 18; refine (parse_is 0 10 _ _ HS.out (by simpa using HP.out.1) (by simpa using HP.out.2)).mono ?_; rintro e w3 ⟨rfl, rfl⟩) | (go_at_call 15; refine (rfits_any _ _).mono ?_; rintro e w3 ⟨rfl, rfl⟩))
    go_ret
    exact ⟨by simp, by assumption⟩
  · have HP : Hid (parV l = a ∧ parE l = 0) := by rw [ha] at HV; exact HV.out
    clear HV
    go_enter Tryd.func6, Tryd.ntmps6
    go_wp2_with (go_at_call 9; refine (awake_any _ HT.out).mono ?_; rintro e w' ⟨rfl, hb⟩)
    refine (text_is l _ h0 h1 _ (tab_below HT.out hb) hl.out).mono ?_
    rintro e w2 ⟨rfl, hb2⟩
    have hb3 := hb.trans (hb2.mono hb.size)
    clear hb hb2
    go_wp2_with (first | (go_at_call 18; refine (parse_is a 0 _ _ HS.out (by simpa using HP.out.1) (by simpa using HP.out.2)).mono ?_; rintro e w3 ⟨rfl, rfl⟩) | (go_at_call 15; refine (rfits_any _ _).mono ?_; rintro e w3 ⟨rfl, rfl⟩))
    go_ret
    exact ⟨by simp, by assumption⟩

theorem lifted6 (os : Os) (started : os.Started) (H : Type) (enc : TypeId × Value → H) :
    ReturnsInHanded {} Tryd.checked os 6 .any (fun w args => (Rows.numBackSpec.pre enc Tryd.prog Tryd.f6 [] false w args ∧ laidMetH Tryd.prog laid3 w) ∧ sizedMet enc Tryd.prog Tryd.f6 (OpenSpec.ofChange Rows.numBackSpec) false w args)
      (Rows.numBackSpec.post enc Tryd.prog Tryd.f6 false true false false) := by
  refine returnsInHanded_of_change_and (C := Tryd.checked) (X := fun w _ => laidMetH Tryd.prog laid3 w) (fun _ _ _ hh h => h.of_heap hh) own started (by kernel_rfl) Tryd.func6
    (ChangeSpec.witness_shaped (enc := enc) (C := Tryd.checked) (os := os) (X := fun w _ => laidMetH Tryd.prog laid3 w) false (World.doorLaid Tryd.prog 400 os) #[.int .i64 0] 8 rfl (World.shaped_of_RefB (by kernel_rfl) (by kernel_rfl)) (by kernel_rfl) (by kernel_rfl) (by kernel_rfl) (door_met os _)) ?_
  intro W base args ds gs before hval0 hW _ _ hL _
  have hval : ∀ (j : Nat) t v, Tryd.f6.params[j]? = some t → args[j]? = some v → Value.okWide Tryd.prog W .any base t v := hval0
  have hW' := hW
  obtain ⟨p, q, hA0, hV, rfl, hfz, hnd⟩ := hW
  have hA : DataW.TrodAll enc Tryd.prog W 0 (fun _ => true) true Tryd.f6.params.toList args.toList ds p := hA0
  rw [Tryd.params6] at hA hval
  obtain ⟨v0, d0, rfl, rfl, h0⟩ := trodAll_one hA
  obtain ⟨rfl, rfl⟩ := trodVars_none hV
  obtain ⟨a, rfl, rfl, rfl, wa⟩ := open_int Tryd.underlying3 (hval 0 3 v0 rfl rfl) h0
  have ba := bounds_i64 wa
  have ht := tab_of_laid hL
  clear hA0 hval0
  simp only [List.append_nil] at hW'
  refine (back_any a W ht ba.1 ba.2).mono fun e W' ⟨he, hnx⟩ => ?_
  subst he
  refine ⟨_, rfl, _, _, _, [], [], [], hW', ?_, ?_, rfl, hnx.frame _, fun h => by cases h⟩
  · exact trodAll_mk1 (shut_bool Tryd.underlying4 _)
  · exact trodAll_mk1 (shut_int Tryd.underlying3 wa)

theorem numBack_row : Rows.NumBackSaid :=
  OpenClaim.holds_of_wide 6 Tryd.f6 rfl rfl rfl rfl rfl rfl rfl ⟨rfl, rfl, rfl, rfl, rfl⟩ rfl rfl rfl rfl rfl (by kernel_rfl) Tryd.func6 (by kernel_rfl)
    (of_decide_eq_true (by kernel_rfl)) (by unfold Func.isWrapper; first | (rw [if_pos (by decide +kernel)]; kernel_rfl) | (rw [if_neg (by decide +kernel)]; exact ⟨rfl, rfl⟩))
    (fun os started H enc _ => lifted6 os started H enc)

theorem numBack_holds : Rows.NumBackCardSaid :=
  Claim7.holds_tied_plain_at .later [] [.data, .data, .data] true (true, "c11c7f0d57a32fe4275340d6e8fa22c411646f6b962c29818b1f6837f0f9cb97") false
    numBack_row (fun _ h => by cases h) (by kernel_rfl) (fun _ h => by cases h) numBack_row_tie rfl ⟨rfl, rfl⟩ (by kernel_rfl) rfl
    (fun f fn hf hfn => by
      obtain rfl : f = 6 := Option.some.inj ((show Tryd.prog.funcNamed "haulier/haulierlaw01.NumBack" = some 6 by kernel_rfl).symm.trans hf) |>.symm
      obtain rfl : fn = Tryd.f6 := (Option.some.inj (Tryd.func6.symm.trans hfn)).symm
      exact ⟨by kernel_rfl, fun j t ht => by
        rw [Tryd.params6] at ht
        have hm : t ∈ [3] := by simpa using Array.mem_of_getElem? ht
        have hall : ([3].all fun u => !Tryd.prog.wantsStandIn u) = true := by kernel_rfl
        exact (show Tryd.prog.wantsStandIn t = false by simpa using List.all_eq_true.1 hall t hm)⟩)
    (by kernel_rfl)
#print axioms numBack_holds

end Go.Proofs.YtafhahgfodlohaaDoor
