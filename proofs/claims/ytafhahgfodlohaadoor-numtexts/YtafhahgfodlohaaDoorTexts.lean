/-
  NumTexts is proved: for every number and every text the law returns true (Text and Parse of num answer as the document's do), and the arguments read as they did; the conditions are the card's own: the library's listed tables hold what the program's text lays.
-/
import Derived.Test.YtafhahgfodlohaaDoorFrame
import Derived.Test.YtafhahgfodlohaaDoorWalkH
import Derived.Test.YtafhahgfodlohaaDoorWalkJ
import Derived.Test.YtafhahgfodlohaaDoorCards
import Derived.Test.YtafhahgfodlohaaDoorTie
import Derived.SevenTiedAt
namespace Go.Proofs.YtafhahgfodlohaaDoor
open Go.ChangeShapes Go.WideShapes Go.ChangeAt Go.WideMaps Go.WideElems Go.RowKit
open Go.ChangeMaps (open_string shut_string)
set_option maxRecDepth 100000

theorem tab_below {W W' : World} (ht : Tab W) (hb : Below W.heap.size W W') : Tab W' := by
  unfold Tab Lib.TabIs World.var? at *
  simp only [gPow, Option.bind_some] at *
  have h0 : 0 < W.heap.size := by
    refine Nat.pos_of_ne_zero fun e => ?_
    rw [Array.getElem?_eq_none (by omega)] at ht
    simp at ht
  rw [hb.block 0 h0]
  exact ht
theorem nparse_is (v x : Int) (s : ByteArray) (w : World) (hs : s.size ≤ maxLen) (hv : Hid (parV s.data.toList = v)) (hx : Hid (parE s.data.toList = x)) :
    Calls Tryd.prog 18 #[.string s] w fun e w' => e = .returned (.tuple #[.int .i64 v, .int .i64 x]) ∧ w' = w := by
  rw [← hv.out, ← hx.out]; exact nparse_any s w hs
theorem rparse_is (v x : Int) (s : ByteArray) (w : World) (hs : s.size ≤ maxLen) (hv : Hid (parV s.data.toList = v)) (hx : Hid (parE s.data.toList = x)) :
    Calls Tryd.prog 19 #[.string s] w fun e w' => e = .returned (.tuple #[.int .i64 v, .int .i64 x]) ∧ w' = w := by
  rw [← hv.out, ← hx.out]; exact rparse_any s w hs

set_option maxHeartbeats 1000000 in
theorem texts_any (a : Int) (s : ByteArray) (w : World) (ht : Tab w) (h0 : -9223372036854775808 ≤ a) (h1 : a ≤ 9223372036854775807) (hs : s.size ≤ maxLen) :
    Calls Tryd.prog 5 #[.int .i64 a, .string s] w fun e w' => e = .returned (.bool true) ∧ Below w.heap.size w w' := by
  have HT : Hid (Tab w) := ht
  clear ht
  obtain ⟨t, hl⟩ : ∃ t : ByteArray, Hid ((⟨(Lib.itoa a).toArray⟩ : ByteArray) = t) := ⟨_, rfl⟩
  have HN : Hid (∀ w, Tab w → Calls Tryd.prog 20 #[.int .i64 a] w fun e w' => e = .returned (.string t) ∧ Below w.heap.size w w') := by
    intro w ht; rw [← hl.out]; exact text_any a h0 h1 w ht
  have HR : Hid (∀ w, Calls Tryd.prog 21 #[.int .i64 a] w fun e w' => e = .returned (.string t) ∧ Below w.heap.size w w') := by
    intro w; rw [← hl.out]; exact rtext_any a h0 h1 w
  obtain ⟨v, hv⟩ : ∃ v, Hid (parV s.data.toList = v) := ⟨_, rfl⟩
  obtain ⟨x, hx⟩ : ∃ x, Hid (parE s.data.toList = x) := ⟨_, rfl⟩
  clear hl
  go_enter Tryd.func5, Tryd.ntmps5
  go_wp2_with (first | (go_at_call 9; refine (awake_any _ HT.out).mono ?_; rintro e w' ⟨rfl, hb⟩) | (go_at_call 18; refine (nparse_is v x _ _ hs hv hx).mono ?_; rintro e w2 ⟨rfl, rfl⟩) | (go_at_call 19; refine (rparse_is v x _ _ hs hv hx).mono ?_; rintro e w2 ⟨rfl, rfl⟩))
  refine (HN.out _ (tab_below HT.out hb)).mono ?_
  rintro e w3 ⟨rfl, hb2⟩
  have hb3 := hb.trans (hb2.mono hb.size)
  clear hb hb2
  go_wp2_with fail
  refine (HR.out _).mono ?_
  rintro e w4 ⟨rfl, hb4⟩
  have hb5 := hb3.trans (hb4.mono hb3.size)
  clear hb3 hb4
  go_wp2
  go_ret
  exact ⟨by simp, by assumption⟩

theorem lifted5 (os : Os) (started : os.Started) (H : Type) (enc : TypeId × Value → H) :
    ReturnsInHanded {} Tryd.checked os 5 .any (fun w args => (Rows.numTextsSpec.pre enc Tryd.prog Tryd.f5 [] false w args ∧ laidMetH Tryd.prog laid3 w) ∧ sizedMet enc Tryd.prog Tryd.f5 (OpenSpec.ofChange Rows.numTextsSpec) false w args)
      (Rows.numTextsSpec.post enc Tryd.prog Tryd.f5 false true false false) := by
  refine returnsInHanded_of_change_and (C := Tryd.checked) (X := fun w _ => laidMetH Tryd.prog laid3 w) (fun _ _ _ hh h => h.of_heap hh) own started (by kernel_rfl) Tryd.func5
    (ChangeSpec.witness_shaped (enc := enc) (C := Tryd.checked) (os := os) (X := fun w _ => laidMetH Tryd.prog laid3 w) false (World.doorLaid Tryd.prog 400 os) #[.int .i64 0, .string ⟨#[]⟩] 8 rfl (World.shaped_of_RefB (by kernel_rfl) (by kernel_rfl)) (by kernel_rfl) (by kernel_rfl) (by kernel_rfl) (door_met os _)) ?_
  intro W base args ds gs before hval0 hW _ _ hL _
  have hval : ∀ (j : Nat) t v, Tryd.f5.params[j]? = some t → args[j]? = some v → Value.okWide Tryd.prog W .any base t v := hval0
  have hW' := hW
  obtain ⟨p, q, hA0, hV, rfl, hfz, hnd⟩ := hW
  have hA : DataW.TrodAll enc Tryd.prog W 0 (fun _ => true) true Tryd.f5.params.toList args.toList ds p := hA0
  rw [Tryd.params5] at hA hval
  obtain ⟨v0, v1, d0, d1, p0, p1, rfl, rfl, rfl, h0, h1⟩ := trodAll_two hA
  obtain ⟨rfl, rfl⟩ := trodVars_none hV
  obtain ⟨a, rfl, rfl, rfl, wa⟩ := open_int Tryd.underlying3 (hval 0 3 v0 rfl rfl) h0
  have ba := bounds_i64 wa
  obtain ⟨s, rfl, rfl, rfl, ws⟩ := open_string Tryd.underlying9 (hval 1 9 v1 rfl rfl) h1
  have ht := tab_of_laid hL
  clear hA0 hval0
  simp only [List.append_nil] at hW'
  refine (texts_any a s W ht ba.1 ba.2 ws).mono fun e W' ⟨he, hnx⟩ => ?_
  subst he
  refine ⟨_, rfl, _, _, _, [], [], [], hW', ?_, ?_, rfl, hnx.frame _, fun h => by cases h⟩
  · exact trodAll_mk1 (shut_bool Tryd.underlying4 _)
  · exact trodAll_mk2 (shut_int Tryd.underlying3 wa) (shut_string Tryd.underlying9 ws)

theorem numTexts_row : Rows.NumTextsSaid :=
  OpenClaim.holds_of_wide 5 Tryd.f5 rfl rfl rfl rfl rfl rfl rfl ⟨rfl, rfl, rfl, rfl, rfl⟩ rfl rfl rfl rfl rfl (by kernel_rfl) Tryd.func5 (by kernel_rfl)
    (of_decide_eq_true (by kernel_rfl)) (by unfold Func.isWrapper; first | (rw [if_pos (by decide +kernel)]; kernel_rfl) | (rw [if_neg (by decide +kernel)]; exact ⟨rfl, rfl⟩))
    (fun os started H enc _ => lifted5 os started H enc)

theorem numTexts_holds : Rows.NumTextsCardSaid :=
  Claim7.holds_tied_plain_at .later [] [.data, .data, .data] true (true, "c11c7f0d57a32fe4275340d6e8fa22c411646f6b962c29818b1f6837f0f9cb97") false
    numTexts_row (fun _ h => by cases h) (by kernel_rfl) (fun _ h => by cases h) numTexts_row_tie rfl ⟨rfl, rfl⟩ (by kernel_rfl) rfl
    (fun f fn hf hfn => by
      obtain rfl : f = 5 := Option.some.inj ((show Tryd.prog.funcNamed "haulier/haulierlaw01.NumTexts" = some 5 by kernel_rfl).symm.trans hf) |>.symm
      obtain rfl : fn = Tryd.f5 := (Option.some.inj (Tryd.func5.symm.trans hfn)).symm
      exact ⟨by kernel_rfl, fun j t ht => by
        rw [Tryd.params5] at ht
        have hm : t ∈ [3, 9] := by simpa using Array.mem_of_getElem? ht
        have hall : ([3, 9].all fun u => !Tryd.prog.wantsStandIn u) = true := by kernel_rfl
        exact (show Tryd.prog.wantsStandIn t = false by simpa using List.all_eq_true.1 hall t hm)⟩)
    (by kernel_rfl)
#print axioms numTexts_holds

end Go.Proofs.YtafhahgfodlohaaDoor
