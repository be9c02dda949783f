/-
  ShowReads is proved: for every slice of bytes the law returns true (what Parse answers is printed, and read again as just that tree), and the slice reads as it did; the conditions are the card's own: the library's five listed tables hold what the program's text lays.
-/
import Derived.Test.YtpffhckimilppaaDoorVRd
import Derived.Test.YtpffhckimilppaaDoorFrame3
import Derived.OpenShut
import Derived.Test.YtpffhckimilppaaDoorCards
import Derived.Test.YtpffhckimilppaaDoorTie
import Derived.SevenTiedAt
namespace Go.Proofs.YtpffhckimilppaaDoor
open Go.ChangeShapes Go.WideShapes Go.ChangeAt Go.WideMaps Go.WideElems Go.RowKit
set_option maxRecDepth 100000

theorem toU8N (z : Int) (h : 0 ≤ z ∧ z ≤ 255) : ((z.toNat.toUInt8).toNat : Int) = z := by
  simp [Nat.toUInt8]; omega
theorem Jt.cells5 : Tryd.prog.cellsOf 5 = 1 := by kernel_rfl
/-- Opens an argument that is a slice of bytes. -/
theorem Jt.open_bytes {H : Type} {enc : TypeId × Value → H} {W : World} {a : Option Addr} {m c : Nat} {d : DataW H} {p : List MemPlace}
    (h : DataW.Trod enc Tryd.prog W 0 (fun _ => true) true 30 (.slice a m c) d p) : ∃ l : List UInt8, l.length = m ∧ Jt.BytesOf W a l ∧ (a = none → c = 0) ∧ m ≤ 9223372036854775807 := by
  obtain ⟨fuel, hf⟩ := h
  rcases open_ints Tryd.underlying30 Tryd.underlying5 Jt.cells5 hf with ⟨hcs, _⟩ | ⟨x, l, c', zs, hcs, _, hl, hm, hz, hx, hcell, hwz⟩
  · simp [Value.cells] at hcs
    obtain ⟨rfl, rfl, rfl⟩ := hcs
    exact ⟨[], rfl, fun j u hu => by simp [bytesV] at hu, fun _ => rfl, by omega⟩
  · simp [Value.cells] at hcs
    obtain ⟨rfl, rfl, rfl⟩ := hcs
    simp only [if_true] at hz
    unfold maxLen at hm
    have hlen : ((zs.take m).map fun z : Int => z.toNat.toUInt8).length = m := by rw [List.length_map, List.length_take]; omega
    refine ⟨(zs.take m).map fun z => z.toNat.toUInt8, hlen, fun j u hu => ⟨x, rfl, ?_⟩, (fun e => by cases e), by omega⟩
    have hj : j < m := by
      have := (List.getElem?_eq_some_iff.1 hu).1
      rw [bytesV_len, hlen] at this; exact this
    rw [bytesV_get _ j (by rw [hlen]; exact hj)] at hu
    cases hu
    have hjz : j < zs.length := by omega
    rw [hcell j (by omega)]
    have hb := bounds_u8 (hwz zs[j] (List.getElem_mem hjz))
    congr 2
    have e1 : zs.getD j 0 = zs[j] := by simp [List.getD, List.getElem?_eq_getElem hjz]
    rw [e1]
    simp only [List.getElem_map, List.getElem_take]
    rw [toU8N]
    omega
theorem lifted7 (os : Os) (started : os.Started) (H : Type) (enc : TypeId × Value → H) :
    ReturnsInHanded {} Tryd.checked os 7 .any (fun w args => (Rows.showReadsSpec.pre enc Tryd.prog Tryd.f7 [] false w args ∧ laidMetH Tryd.prog laid5 w) ∧ sizedMet enc Tryd.prog Tryd.f7 (OpenSpec.ofChange Rows.showReadsSpec) false w args)
      (Rows.showReadsSpec.post enc Tryd.prog Tryd.f7 false true false false) := by
  refine returnsInHanded_of_change_and (C := Tryd.checked) (X := fun w _ => laidMetH Tryd.prog laid5 w) (fun _ _ _ hh h => h.of_heap hh) own started (by kernel_rfl) Tryd.func7
    (ChangeSpec.witness_shaped (enc := enc) (C := Tryd.checked) (os := os) (X := fun w _ => laidMetH Tryd.prog laid5 w) false (World.laidAll Tryd.prog os laid5) #[.slice none 0 0] 8 (World.laidAll_os _ _ _)
      (World.shaped_of_ZipB (by kernel_rfl) (by kernel_rfl)) (by kernel_rfl) (by kernel_rfl) (by kernel_rfl)
      (by rw [MakeChecks.laidMetH_plain _ _ _ (by kernel_rfl)]; exact laidMet_laidAll _ (by kernel_rfl) (by kernel_rfl))) ?_
  intro W base args ds gs before hval0 hW _ hsz0 hL _
  have hval : ∀ (j : Nat) t v, Tryd.f7.params[j]? = some t → args[j]? = some v → Value.okWide Tryd.prog W .any base t v := hval0
  have hsz : (DataW.weightsEach Tryd.prog (Tryd.f7.params.toList ++ Rows.showReadsSpec.plain.varTypes Tryd.prog) (ds ++ gs)).all (· ≤ reachBytes) = true := hsz0
  have hW' := hW
  obtain ⟨p, q, hA0, hV, rfl, _, _⟩ := hW
  have hA : DataW.TrodAll enc Tryd.prog W 0 (fun _ => true) true Tryd.f7.params.toList args.toList ds p := hA0
  rw [Tryd.params7] at hA hval hsz
  obtain ⟨v0, d0, rfl, rfl, h0⟩ := trodAll_one hA
  obtain ⟨rfl, rfl⟩ := trodVars_none hV
  obtain ⟨a0, m0, c0, rfl⟩ := okWide_slice Tryd.underlying30 (hval 0 30 v0 rfl rfl)
  have k0 := h0
  have lt0 : ∀ x ∈ p, x.block < W.heap.size := by obtain ⟨m, hm⟩ := k0; exact DataW.trod_lt m _ _ _ hm
  obtain ⟨l, hl, hby, hc0, hmm⟩ := Jt.open_bytes h0
  have hu := tabU_of_laid hL
  have ht := tab_of_laid hL
  clear hA0 hval0
  simp only [List.append_nil] at hW'
  have h2 : 2 ≤ W.heap.size := by
    have h3 : Lib.Utf8Tabs 0 1 W := hu
    have := block_lt_of_cell (h3.2 0 (by omega)).1
    simp at this; omega
  refine (Jt.reads_any hby hl hmm hc0 hu ht h2).mono fun e W' ⟨he, hnx⟩ => ?_
  subst he
  exact ⟨_, rfl, _, _, _, [], _, [], hW', trodAll_mk1 (shut_bool Tryd.underlying4 _), trodAll_mk1 (Below.trod laidOut (by kernel_rfl) (of_decide_eq_true (by kernel_rfl)) k0 hnx lt0), rfl, hnx.frame _, fun h => by cases h⟩

theorem showReads_row : Rows.ShowReadsSaid :=
  OpenClaim.holds_of_wide 7 Tryd.f7 rfl rfl rfl rfl rfl rfl rfl ⟨rfl, rfl, rfl, rfl, rfl⟩ rfl rfl rfl rfl rfl (by kernel_rfl) Tryd.func7 (by kernel_rfl)
    (of_decide_eq_true (by kernel_rfl)) (by unfold Func.isWrapper; first | (rw [if_pos (by decide +kernel)]; kernel_rfl) | (rw [if_neg (by decide +kernel)]; exact ⟨rfl, rfl⟩))
    (fun os started H enc _ => lifted7 os started H enc)

theorem showReads_holds : Rows.ShowReadsCardSaid :=
  Claim7.holds_tied_plain_at .later [] [.data, .data, .data, .data, .pinned] true (true, "e07e7dec2f2c1d8d8f398674fed55b1475c73f23bf9158f51d1216f3a6cb76c9") true
    showReads_row (fun _ h => by cases h) (by kernel_rfl) (fun _ h => by cases h) showReads_row_tie rfl ⟨rfl, rfl⟩ (by kernel_rfl) rfl
    (fun f fn hf hfn => by
      obtain rfl : f = 7 := Option.some.inj ((show Tryd.prog.funcNamed "haulier/haulierlaw03.ShowReads" = some 7 by kernel_rfl).symm.trans hf) |>.symm
      obtain rfl : fn = Tryd.f7 := (Option.some.inj (Tryd.func7.symm.trans hfn)).symm
      exact ⟨by kernel_rfl, fun j t ht => by
        rw [Tryd.params7] at ht
        have hm : t ∈ [30] := by simpa using Array.mem_of_getElem? ht
        have hall : ([30].all fun u => !Tryd.prog.wantsStandIn u) = true := by kernel_rfl
        exact (show Tryd.prog.wantsStandIn t = false by simpa using List.all_eq_true.1 hall t hm)⟩)
    (by kernel_rfl)
#print axioms showReads_holds
end Go.Proofs.YtpffhckimilppaaDoor
