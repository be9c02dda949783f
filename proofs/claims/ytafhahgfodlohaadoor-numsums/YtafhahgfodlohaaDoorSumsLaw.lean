/-
  NumSums is proved: for every list of numbers the law returns true (Sum of num answers as the document's does), and the list reads as it did; the conditions are the card's own: the library's listed tables hold what the program's text lays.
-/
import Derived.Test.YtafhahgfodlohaaDoorRowsOf
import Derived.Test.YtafhahgfodlohaaDoorCards
import Derived.Test.YtafhahgfodlohaaDoorTie
import Derived.SevenTiedAt
namespace Go.Proofs.YtafhahgfodlohaaDoor
open Go.ChangeShapes Go.WideShapes Go.ChangeAt Go.WideMaps Go.WideElems Go.RowKit
set_option maxRecDepth 100000

theorem nsum_zero (g cap : Nat) (w : World) : Calls Tryd.prog 16 #[.slice (some ⟨g, 0, none⟩) 0 cap] w fun e w' => e = .returned (.tuple #[.int .i64 0, .int .i64 0]) ∧ w' = w :=
  nsum_none _ cap w

set_option maxHeartbeats 1000000 in
theorem sums_none (w : World) (ht : Tab w) :
    Calls Tryd.prog 4 #[.slice none 0 0] w fun e w' => e = .returned (.bool true) ∧ Below w.heap.size w w' := by
  have HT : Hid (Tab w) := ht
  clear ht
  obtain ⟨i0, hi, hz0, hz1, hz2⟩ := info_parts info3
  go_enter Tryd.func4, Tryd.ntmps4
  go_wp2_with (first | (go_at_call 9; refine (awake_any _ HT.out).mono ?_; rintro e w' ⟨rfl, hb⟩) | (at_builtin; refine wpList_append_own_none rfl (.tmp 10) (.tmp 11) 30 rfl w.heap.size 3 i0 1 Tryd.underlying30 hi _ 0 [] rfl (World.ownsRow_made _ #[] 0 hb.size (by decide) rfl) rfl ?_) | (go_at_call 16; refine (nsum_zero _ _ _).mono ?_; rintro e w2 ⟨rfl, rfl⟩) | (go_at_call 17; refine (rsum_none _ _ _).mono ?_; rintro e w2 ⟨rfl, rfl⟩))
  go_ret
  exact ⟨by simp, hb.alloc hb.size _⟩

set_option maxHeartbeats 1000000 in
theorem sums_row (y : Addr) (len cap : Nat) (zs : List Int) (w : World) (ht : Tab w) (hm : len ≤ maxLen) (hl : zs.length = len) (hc : ∀ k, k < len → w.cell? (y.add k) = some (.int .i64 (zs.getD k 0))) (h47 : len * 8 ≤ 140737488351232) :
    Calls Tryd.prog 4 #[.slice (some y) len cap] w fun e w' => e = .returned (.bool true) ∧ Below w.heap.size w w' := by
  have HT : Hid (Tab w) := ht
  clear ht
  have HR : Hid (IsRow w (some y) len cap zs) := .inr ⟨y, rfl, hm, hl, hc⟩
  have HC : Hid (∀ w', Below w.heap.size w w' → ∀ j u, (zs.map (Value.int .i64))[j]? = some u → w'.cell? (y.add j) = some u) := fun w' hb => row_news hl fun k hk => cell_later hb (hc k hk)
  have HL : Hid (zs.length = len) := hl
  clear hc hl hm
  obtain ⟨v, x, hv⟩ : ∃ v x, Hid (sumL zs = (v, x)) := ⟨_, _, rfl⟩
  obtain ⟨i0, hi, hz0, hz1, hz2⟩ := info_parts info3
  go_enter Tryd.func4, Tryd.ntmps4
  go_wp2_with (first | (go_at_call 9; refine (awake_any _ HT.out).mono ?_; rintro e w' ⟨rfl, hb⟩) | (at_builtin; refine wpList_append_own _ rfl (.tmp 10) (.tmp 11) 30 rfl w.heap.size 3 i0 (.int .i64 0) 1 8 Tryd.underlying30 hi hz0 hz1 hz2 rfl (by decide) _ 0 [] rfl (World.ownsRow_made _ #[] 0 hb.size (by decide) rfl) y len cap (zs.map (Value.int .i64)) rfl (by simp [HL.out]) (HC.out _ (hb.alloc hb.size _)) (ints_oneCell _ _) (by unfold maxLen; omega) (by omega) (by have := hb.size; simp; omega) ?_))
  intro v' w2 hown hg _
  obtain ⟨hb2, a2, cap2, rfl, hrow2⟩ := behind hb hown hg
  have hrow3 := HR.out.later hb2
  have HB : Hid (Below w.heap.size w w2) := hb2
  have HR2 : Hid (IsRow w2 a2 len cap2 zs) := hrow2
  have HR3 : Hid (IsRow w2 (some y) len cap zs) := hrow3
  clear hown hg hb hb2 hrow2 hrow3 HR HC
  go_wp2_with (first | (go_at_call 16; refine (nsum_is v x _ _ _ zs _ HR2.out hv).mono ?_; rintro e w4 ⟨rfl, rfl⟩) | (go_at_call 17; refine (rsum_is v x _ _ _ zs _ HR3.out hv).mono ?_; rintro e w4 ⟨rfl, rfl⟩))
  go_ret
  exact ⟨by simp, HB.out⟩

theorem sums_any (a : Option Addr) (len cap : Nat) (zs : List Int) (w : World) (ht : Tab w) (hr : IsRow w a len cap zs) (h47 : len * 8 ≤ 140737488351232) :
    Calls Tryd.prog 4 #[.slice a len cap] w fun e w' => e = .returned (.bool true) ∧ Below w.heap.size w w' := by
  rcases hr with ⟨rfl, rfl, rfl, rfl⟩ | ⟨x, rfl, hm, hl, hc⟩
  · exact sums_none w ht
  · exact sums_row x len cap zs w ht hm hl hc h47

theorem lifted4 (os : Os) (started : os.Started) (H : Type) (enc : TypeId × Value → H) :
    ReturnsInHanded {} Tryd.checked os 4 .any (fun w args => (Rows.numSumsSpec.pre enc Tryd.prog Tryd.f4 [] false w args ∧ laidMetH Tryd.prog laid3 w) ∧ sizedMet enc Tryd.prog Tryd.f4 (OpenSpec.ofChange Rows.numSumsSpec) false w args)
      (Rows.numSumsSpec.post enc Tryd.prog Tryd.f4 false true false false) := by
  refine returnsInHanded_of_change_and (C := Tryd.checked) (X := fun w _ => laidMetH Tryd.prog laid3 w) (fun _ _ _ hh h => h.of_heap hh) own started (by kernel_rfl) Tryd.func4
    (ChangeSpec.witness_shaped (enc := enc) (C := Tryd.checked) (os := os) (X := fun w _ => laidMetH Tryd.prog laid3 w) false (World.doorLaid Tryd.prog 400 os) #[.slice none 0 0] 8 rfl (World.shaped_of_RefB (by kernel_rfl) (by kernel_rfl)) (by kernel_rfl) (by kernel_rfl) (by kernel_rfl) (door_met os _)) ?_
  intro W base args ds gs before hval0 hW _ hsz0 hL _
  have hval : ∀ (j : Nat) t v, Tryd.f4.params[j]? = some t → args[j]? = some v → Value.okWide Tryd.prog W .any base t v := hval0
  have hsz : (DataW.weightsEach Tryd.prog (Tryd.f4.params.toList ++ Rows.numSumsSpec.plain.varTypes Tryd.prog) (ds ++ gs)).all (· ≤ reachBytes) = true := hsz0
  have hW' := hW
  obtain ⟨p, q, hA0, hV, rfl, hfz, hnd⟩ := hW
  have hA : DataW.TrodAll enc Tryd.prog W 0 (fun _ => true) true Tryd.f4.params.toList args.toList ds p := hA0
  rw [Tryd.params4] at hA hval hsz
  obtain ⟨v0, d0, rfl, rfl, h0⟩ := trodAll_one hA
  obtain ⟨rfl, rfl⟩ := trodVars_none hV
  obtain ⟨a0, len0, cap0, rfl⟩ := okWide_slice Tryd.underlying30 (hval 0 30 v0 rfl rfl)
  have k0 := h0
  have lt0 : ∀ x ∈ p, x.block < W.heap.size := by obtain ⟨m, hm⟩ := k0; exact DataW.trod_lt m _ _ _ hm
  obtain ⟨z0, w0, hlen⟩ : ∃ zs, IsRow W a0 len0 cap0 zs ∧ len0 * 8 ≤ 140737488351232 := by
    obtain ⟨fuel, hf⟩ := h0
    rcases open_ints Tryd.underlying30 Tryd.underlying3 cells3 hf with ⟨hcs, _⟩ | ⟨x, l, c, zs, hcs, _, hl, hm, hz, hx, hcell, hwz⟩
    · simp [Value.cells] at hcs
      obtain ⟨rfl, rfl, rfl⟩ := hcs
      exact ⟨[], .inl ⟨rfl, rfl, rfl, rfl⟩, by omega⟩
    · simp [Value.cells] at hcs
      obtain ⟨rfl, rfl, rfl⟩ := hcs
      simp only [if_true] at hz
      simp only [Prod.mk.injEq] at hx
      have hs := sized_slice hsz (j := 0) (t := 30) (e := 3) (elems := lits .i64 (zs.take len0)) (spare := lits .i64 (zs.drop len0)) rfl (by rw [hx.1]; rfl) Tryd.underlying30
      rw [bytes3] at hs
      simp only [lits, List.length_map, List.length_take, List.length_drop, reachBytes] at hs
      refine ⟨zs.take len0, .inr ⟨x, rfl, by omega, by rw [List.length_take]; omega, fun k hk => ?_⟩, by omega⟩
      rw [hcell k (by omega)]
      congr 2
      simp [List.getD, hk]
  have ht := tab_of_laid hL
  clear hA0 hval0
  simp only [List.append_nil] at hW'
  refine (sums_any a0 len0 cap0 z0 W ht w0 hlen).mono fun e W' ⟨he, hnx⟩ => ?_
  subst he
  exact ⟨_, rfl, _, _, _, [], _, [], hW', trodAll_mk1 (shut_bool Tryd.underlying4 _), trodAll_mk1 (Below.trod laidOut (by kernel_rfl) (of_decide_eq_true (by kernel_rfl)) k0 hnx lt0), rfl, hnx.frame _, fun h => by cases h⟩

theorem numSums_row : Rows.NumSumsSaid :=
  OpenClaim.holds_of_wide 4 Tryd.f4 rfl rfl rfl rfl rfl rfl rfl ⟨rfl, rfl, rfl, rfl, rfl⟩ rfl rfl rfl rfl rfl (by kernel_rfl) Tryd.func4 (by kernel_rfl)
    (of_decide_eq_true (by kernel_rfl)) (by unfold Func.isWrapper; first | (rw [if_pos (by decide +kernel)]; kernel_rfl) | (rw [if_neg (by decide +kernel)]; exact ⟨rfl, rfl⟩))
    (fun os started H enc _ => lifted4 os started H enc)

theorem numSums_holds : Rows.NumSumsCardSaid :=
  Claim7.holds_tied_plain_at .later [] [.data, .data, .data] true (true, "c11c7f0d57a32fe4275340d6e8fa22c411646f6b962c29818b1f6837f0f9cb97") false
    numSums_row (fun _ h => by cases h) (by kernel_rfl) (fun _ h => by cases h) numSums_row_tie rfl ⟨rfl, rfl⟩ (by kernel_rfl) rfl
    (fun f fn hf hfn => by
      obtain rfl : f = 4 := Option.some.inj ((show Tryd.prog.funcNamed "haulier/haulierlaw01.NumSums" = some 4 by kernel_rfl).symm.trans hf) |>.symm
      obtain rfl : fn = Tryd.f4 := (Option.some.inj (Tryd.func4.symm.trans hfn)).symm
      exact ⟨by kernel_rfl, fun j t ht => by
        rw [Tryd.params4] at ht
        have hm : t ∈ [30] := by simpa using Array.mem_of_getElem? ht
        have hall : ([30].all fun u => !Tryd.prog.wantsStandIn u) = true := by kernel_rfl
        exact (show Tryd.prog.wantsStandIn t = false by simpa using List.all_eq_true.1 hall t hm)⟩)
    (by kernel_rfl)
#print axioms numSums_holds

end Go.Proofs.YtafhahgfodlohaaDoor
