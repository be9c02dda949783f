/-
  What show.apart, plain and allPlain do.
-/
import Derived.Test.YtpffhckimilppaaDoorShelfV
import Derived.Test.YtpffhckimilppaaDoorSpare
import Derived.Test.YtpffhckimilppaaDoorSmall3
import Derived.Maps.OwnSet
import Derived.StringKeys
namespace Go.Proofs.YtpffhckimilppaaDoor
open Go.RowKit Go.Maps
set_option maxRecDepth 100000

def litS (s : List UInt8) : Lit := .string s
def setD (ns : List (List UInt8)) : DataW Unit := setOf (.agg []) (ns.map litS)
def SetIs (w : World) (mb : Nat) (ns : List (List UInt8)) : Prop := w.ownsMap Tryd.prog 9 (unitElem (H := Unit)) mb ns.length (setD ns)
theorem lawS : Keyed Tryd.prog 9 := string_keyed Tryd.underlying9
theorem zero77 (w : World) : (zeroValue 77).run Tryd.prog w = .ok (.agg #[]) w := by kernel_rfl
theorem any_str (x : List UInt8) : ∀ l : List (List UInt8), (l.map litS).any (fun y => y.sameKey (litS x)) = decide (x ∈ l)
  | [] => by simp
  | a :: r => by
    rw [List.map_cons, List.any_cons, any_str x r]
    have : (litS a).sameKey (litS x) = decide (x = a) := by
      unfold litS Lit.sameKey
      rw [Bool.eq_iff_iff, beq_iff_eq, decide_eq_true_eq]
      exact ⟨fun h => h.symm, fun h => h.symm⟩
    rw [this]
    by_cases e : x = a <;> simp [e]
theorem has_setD (ns : List (List UInt8)) (x : List UInt8) : Maps.has (setD ns) (litS x) = decide (x ∈ ns) := by
  unfold setD
  rw [has_setOf _ _ _ (fun y hy => by obtain ⟨_, _, rfl⟩ := List.mem_map.1 hy; trivial)]
  exact any_str x ns
theorem setD_snoc (ns : List (List UInt8)) (x : List UInt8) : setD (ns ++ [x]) = (setD ns).put (litS x) (.agg []) := by
  unfold setD; rw [List.map_append, List.map_cons, List.map_nil, setOf_snoc]
theorem SetIs.later {w w' : World} {mb : Nat} {ns : List (List UInt8)} (h : SetIs w mb ns) (f : Below w.heap.size w w') : SetIs w' mb ns := by
  have hlt := World.ownsMap.lt h
  obtain ⟨es, clock, hb, F, hs, hD⟩ := h
  exact ⟨es, clock, (f.block mb hlt).trans hb, F, hs, hD⟩
theorem set_made (w : World) : SetIs (w.alloc (.map #[] 0)) w.heap.size [] := World.ownsMap_made w Tryd.prog 9 (unitElem (H := Unit))
/-- Names that are UTF-8, none twice. -/
def apartB (ns : List (List UInt8)) : Bool := decide ns.Nodup && ns.all Lib.validD
theorem apart_twice {ns : List (List UInt8)} {i : Nat} {s : List UInt8} (h : ns[i]? = some s) (hm : s ∈ ns.take i) : apartB ns = false := by
  have hi : i < ns.length := (List.getElem?_eq_some_iff.1 h).1
  have e : ns = ns.take i ++ s :: ns.drop (i + 1) := by
    rw [show s = ns[i] from ((List.getElem?_eq_some_iff.1 h).2).symm, ← List.drop_eq_getElem_cons hi, List.take_append_drop]
  have hn : ¬ ns.Nodup := fun hn => by
    rw [e, List.nodup_append] at hn
    exact hn.2.2 s hm s (by simp) rfl
  simp [apartB, hn]
theorem apart_bad {ns : List (List UInt8)} {s : List UInt8} (h : s ∈ ns) (hv : Lib.validD s = false) : apartB ns = false := by
  have : ns.all Lib.validD = false := by
    rw [Bool.eq_false_iff]
    intro h2
    rw [List.all_eq_true] at h2
    rw [h2 s h] at hv; cases hv
  simp [apartB, this]
/-- The names so far are apart. -/
def AprtK (ns : List (List UInt8)) (i : Nat) : Prop := (ns.take i).Nodup ∧ ∀ s ∈ ns.take i, Lib.validD s = true
theorem aprt_zero (ns : List (List UInt8)) : AprtK ns 0 := ⟨by simp, fun s h => by simp at h⟩
theorem take_succ' {ns : List (List UInt8)} {i : Nat} {s : List UInt8} (h : ns[i]? = some s) : ns.take (i + 1) = ns.take i ++ [s] := by rw [List.take_add_one, h]; rfl
theorem aprt_succ {ns : List (List UInt8)} {i : Nat} {s : List UInt8} (h : AprtK ns i) (hs : ns[i]? = some s) (hn : s ∉ ns.take i) (hv : Lib.validD s = true) : AprtK ns (i + 1) := by
  unfold AprtK
  rw [take_succ' hs]
  refine ⟨List.nodup_append.2 ⟨h.1, by simp, fun a ha b hb e => ?_⟩, fun a ha => ?_⟩
  · simp at hb; subst hb; subst e; exact hn ha
  · rcases List.mem_append.1 ha with h2 | h2
    · exact h.2 a h2
    · simp at h2; rw [h2]; exact hv
theorem aprt_all {ns : List (List UInt8)} (h : AprtK ns ns.length) : apartB ns = true := by
  unfold AprtK at h
  rw [List.take_length] at h
  unfold apartB
  rw [decide_eq_true h.1, Bool.true_and, List.all_eq_true]
  exact h.2
/-- The library's two tables. -/
def TabU (w : World) : Prop := Lib.Utf8Tabs 0 1 w
theorem TabU.later {w w' : World} (h : TabU w) (hb : Below w.heap.size w w') : TabU w' := Utf8Tabs_below h hb
set_option maxHeartbeats 1600000 in
theorem apart_any {ns : List (List UInt8)} {nv : Value} {w : World} (hN : SlAt w nv (ns.map strv)) (hs : ∀ s ∈ ns, s.length ≤ 9223372036854775807) (hT : TabU w) :
    Calls Tryd.prog 47 #[nv] w fun e w' => e = .returned (.bool (apartB ns)) ∧ Below w.heap.size w w' := by
  obtain ⟨na, nc, rfl, hl, hc⟩ := hN
  have hl2 : ns.length ≤ 9223372036854775807 := by simpa using hl
  rw [List.length_map]
  have HC := hide hc
  have HT := hide hT
  have HSL := hide hs
  have HB0 := hide ((Below.refl w.heap.size w).alloc (Nat.le_refl _) (.map #[] 0))
  have HM0 := hide (set_made w)
  clear hc hT hs hl
  have hmm := @run_makeMap Tryd.prog
  go_enter Tryd.func47, Tryd.ntmps47
  go_wp2
  go_loopw [11] (fun vi wr => ∃ i : Nat, vi = .int .i64 i ∧ i ≤ ns.length ∧ Hid (AprtK ns i) ∧ Hid (SetIs wr w.heap.size (ns.take i)) ∧ Hid (Below w.heap.size w wr) ∧ Hid (w.heap.size < wr.heap.size)) (fun vi _ => ns.length - (intOf vi).toNat)
  case atStart => exact ⟨0, rfl, Nat.zero_le _, aprt_zero ns, by rw [List.take_zero]; exact HM0.out, HB0.out, hide (show _ < _ by simp)⟩
  case round =>
    clear HB0 HM0
    obtain ⟨i, rfl, hi, HA, HM, HB, HLT⟩ := hrel
    by_cases hil : i < ns.length
    · have i1 : (i : Int) < (ns.length : Int) := by omega
      obtain ⟨s, hsi⟩ : ∃ s, ns[i]? = some s := ⟨_, List.getElem?_eq_getElem hil⟩
      obtain ⟨gn, rfl, hcn⟩ := HC.out i (strv s) (by rw [List.getElem?_map, hsi]; rfl)
      have c1 := (HB.out.cell (block_lt_of_cell hcn)).trans hcn
      unfold strv at c1
      have hsl := HSL.out s (List.mem_of_getElem? hsi)
      have hz : (⟨s.toArray⟩ : ByteArray).size = s.length := by simp [ByteArray.size]
      have hkey : keyOf Tryd.prog 9 (.string ⟨s.toArray⟩) = some (litS s) := by
        have := Go.WideMaps.keyOf_string_mk (P := Tryd.prog) (k := 9) Tryd.underlying9 (s := ⟨s.toArray⟩) (by rw [hz]; unfold maxLen; omega)
        show _ = some (Lit.string s)
        simpa using this
      have HTL : Hid ((ns.take i).length = i) := by show _ = _; rw [List.length_take]; omega
      have hhas : Maps.has (setD (ns.take i)) (litS s) = decide (s ∈ ns.take i) := has_setD _ _
      clear hcn
      by_cases hin : s ∈ ns.take i
      · have HF := hide (apart_twice hsi hin)
        rw [decide_eq_true hin] at hhas
        clear hin hsi
        go_wp2_with (first
          | (at_lookup; refine wpList_lookup_own_unit _ rfl _ _ 76 rfl 9 77 lawS Tryd.underlying76 (zero77 _) w.heap.size (ns.take i).length _ rfl HM.out _ _ rfl hkey ?_))
        go_ret
        exact ⟨by rw [HF.out]; rfl, HB.out.alloc HB.out.size _⟩
      · rw [decide_eq_false hin] at hhas
        have HVS := hide (fun (w' : World) (h : Below w.heap.size w w') => valid_string ⟨s.toArray⟩ w' (by rw [hz]; exact hsl) (HT.out.later h))
        simp only at HVS
        cases hv : Lib.validD s
        · have HF := hide (apart_bad (List.mem_of_getElem? hsi) hv)
          have HV2 : Hid (Lib.validD s = false) := hv
          clear hin hsi hv
          go_wp2_with (first
            | (at_lookup; refine wpList_lookup_own_unit _ rfl _ _ 76 rfl 9 77 lawS Tryd.underlying76 (zero77 _) w.heap.size (ns.take i).length _ rfl HM.out _ _ rfl hkey ?_)
            | (go_at_call 46; refine (HVS.out _ (HB.out.alloc HB.out.size _)).mono ?_; rintro e w1 ⟨rfl, k2⟩; rw [HV2.out]; have H1 := hide ((HB.out.alloc HB.out.size _).trans (k2.mono (by have := HLT.out; simp; omega))); clear k2))
          go_ret
          exact ⟨by rw [HF.out]; rfl, H1.out⟩
        · have HA2 := hide (aprt_succ HA.out hsi hin hv)
          have HV2 : Hid (Lib.validD s = true) := hv
          have HTS := hide (take_succ' hsi)
          clear hin hsi hv
          go_wp2_with (first
            | (at_lookup; refine wpList_lookup_own_unit _ rfl _ _ 76 rfl 9 77 lawS Tryd.underlying76 (zero77 _) w.heap.size (ns.take i).length _ rfl HM.out _ _ rfl hkey ?_)
            | (go_at_call 46; refine (HVS.out _ (HB.out.alloc HB.out.size _)).mono ?_; rintro e w1 ⟨rfl, k2⟩; rw [HV2.out]; have H1 := hide ((HB.out.alloc HB.out.size _).trans (k2.mono (by have := HLT.out; simp; omega))); have HM1 := hide ((HM.out.later ((Below.refl _ _).alloc (Nat.le_refl _) _)).later k2); have HS1 := hide (k2.size); clear k2)
            | (at_mapUpdate; refine wpList_mapUpdate_own _ rfl _ _ _ 76 rfl 9 77 lawS Tryd.underlying76 (unitElem (H := Unit)) w.heap.size (ns.take i).length _ rfl HM1.out (by rw [HTL.out]; unfold maxLen; omega) _ _ _ rfl rfl hkey _ [] unitElem_mk ?_; intro w4 hown4 hgrow4; have HM4 : Hid (SetIs w4 w.heap.size (ns.take (i + 1))) := (by show SetIs _ _ _; unfold SetIs; rw [HTS.out, setD_snoc, List.length_append]; exact hown4); have HB4 := hide (H1.out.grown hgrow4 H1.out.size (fun k e => by cases e; exact Nat.le_refl _)); have HL4 := hide (show w.heap.size < w4.heap.size from Nat.lt_of_lt_of_le HLT.out (Nat.le_trans (by simp) (Nat.le_trans HS1.out hgrow4.size))); clear hown4 hgrow4))
          go_roundw
          case rel => exact ⟨i + 1, by go_num, by omega, HA2.out, HM4.out, HB4.out, HL4.out⟩
          case measure => simp [intOf]; omega
    · have i1 : ¬ (i : Int) < (ns.length : Int) := by omega
      obtain rfl : i = ns.length := by omega
      have HF := hide (aprt_all HA.out)
      go_wp2
      go_ret
      exact ⟨by rw [HF.out]; rfl, HB.out⟩
/-- A value that a text could tell, with nothing beside. -/
def plainB (x : VI) : Bool := spareB x && (if x.kind = 1 ∨ x.kind = 2 ∨ x.kind = 5 then true else if x.kind = 3 then fitsB x.num else if x.kind = 4 then Lib.validD x.text else if x.kind = 6 then (x.names.length == x.kids.length) && apartB x.names else false)
/-- No text is longer than a string can be. -/
structure SzV (x : VI) : Prop where
  text : x.text.length ≤ 9223372036854775807
  names : ∀ s ∈ x.names, s.length ≤ 9223372036854775807
theorem box6 (w : World) (arr : Array Value) (j : Nat) (v : Value) (h : arr[j]? = some v) : (w.alloc (.cells arr 42)).cell? ⟨w.heap.size, j, none⟩ = some v := by
  rw [cell_of_row _ w.heap.size j _ _ _ (heap_alloc_new _ _)]; exact h
theorem below_on {w0 w1 w2 : World} (h : Below w0.heap.size w0 w1) (k : Below w1.heap.size w1 w2) : Below w0.heap.size w0 w2 := h.trans (k.mono h.size)
set_option maxHeartbeats 3200000 in
theorem plain_any {x : VI} {na ka : Option Addr} {nc kc : Nat} {w : World} (hv : VAt w x (.slice na x.names.length nc) (.slice ka x.kids.length kc)) (hz : SzV x) (hT : TabU w) :
    Calls Tryd.prog 33 #[.agg (aggI x (.slice na x.names.length nc) (.slice ka x.kids.length kc)).toArray] w fun e w' => e = .returned (.bool (plainB x)) ∧ Below w.heap.size w w' := by
  have HSP := hide (fun w => spare_any (x := x) (na := na) (ka := ka) (nc := nc) (kc := kc) (w := w))
  unfold aggI at HSP ⊢
  have HV := hide hv
  have HT := hide hT
  obtain ⟨bx, hbx⟩ : ∃ bx, bx = w.alloc (.cells #[.int .i64 x.kind, .bool x.truth, .int .i64 x.num, .string ⟨x.text.toArray⟩, .slice na x.names.length nc, .slice ka x.kids.length kc] 42) := ⟨_, rfl⟩
  have HBX := hide (show Below w.heap.size w bx by rw [hbx]; exact (Below.refl _ _).alloc (Nat.le_refl _) _)
  have b0 : bx.cell? ⟨w.heap.size, 0, none⟩ = some (.int .i64 x.kind) := by rw [hbx]; exact box6 _ _ 0 _ rfl
  have b2 : bx.cell? ⟨w.heap.size, 2, none⟩ = some (.int .i64 x.num) := by rw [hbx]; exact box6 _ _ 2 _ rfl
  have b3 : bx.cell? ⟨w.heap.size, 3, none⟩ = some (.string ⟨x.text.toArray⟩) := by rw [hbx]; exact box6 _ _ 3 _ rfl
  have b4 : bx.cell? ⟨w.heap.size, 4, none⟩ = some (.slice na x.names.length nc) := by rw [hbx]; exact box6 _ _ 4 _ rfl
  have b5 : bx.cell? ⟨w.heap.size, 5, none⟩ = some (.slice ka x.kids.length kc) := by rw [hbx]; exact box6 _ _ 5 _ rfl
  have HBC : Hid (∀ (w' : World) (j : Nat) (u : Value), Below bx.heap.size bx w' → bx.cell? ⟨w.heap.size, j, none⟩ = some u → w'.cell? ⟨w.heap.size, j, none⟩ = some u) := fun w' j u h hc => (h.cell (block_lt_of_cell hc)).trans hc
  have HC0 := hide b0
  have HC2 := hide b2
  have HC3 := hide b3
  have HC4 := hide b4
  have HC5 := hide b5
  clear b0 b2 b3 b4 b5 hv hT
  cases hsp : spareB x
  · have HF : Hid (plainB x = false) := by show _ = _; simp [plainB, hsp]
    have HS2 : Hid (spareB x = false) := hsp
    clear hsp
    go_enter Tryd.func33, Tryd.ntmps33
    go_wp2_with (first
      | (go_at_call 44; rw [← hbx]; refine (HSP.out bx).mono ?_; rintro e w1 ⟨rfl, k2⟩; rw [HS2.out]; have H1 := hide (below_on HBX.out k2); clear k2))
    go_ret
    exact ⟨by rw [HF.out]; rfl, H1.out⟩
  · have HS2 : Hid (spareB x = true) := hsp
    have HPL : Hid (plainB x = (if x.kind = 1 ∨ x.kind = 2 ∨ x.kind = 5 then true else if x.kind = 3 then fitsB x.num else if x.kind = 4 then Lib.validD x.text else if x.kind = 6 then (x.names.length == x.kids.length) && apartB x.names else false)) := by show _ = _; rw [plainB, hsp, Bool.true_and]
    clear hsp
    by_cases k1 : x.kind = 1 ∨ x.kind = 2 ∨ x.kind = 5
    · have HF : Hid (plainB x = true) := by show _ = _; rw [HPL.out, if_pos k1]
      rcases k1 with k1 | k1 | k1
      all_goals
        rw [k1] at HC0
        clear k1
        go_enter Tryd.func33, Tryd.ntmps33
        go_wp2_with (first
          | (go_at_call 44; rw [← hbx]; refine (HSP.out bx).mono ?_; rintro e w1 ⟨rfl, k2⟩; rw [HS2.out]; have c0 := HBC.out w1 0 _ k2 HC0.out; have H1 := hide (below_on HBX.out k2); clear k2))
        go_ret
        exact ⟨by rw [HF.out]; rfl, H1.out⟩
    · have hk1 : ¬ x.kind = 1 := fun h => k1 (.inl h)
      have hk2 : ¬ x.kind = 2 := fun h => k1 (.inr (.inl h))
      have hk5 : ¬ x.kind = 5 := fun h => k1 (.inr (.inr h))
      have z1 : (x.kind == 1) = false := by simpa using hk1
      have z2 : (x.kind == 2) = false := by simpa using hk2
      have z5 : (x.kind == 5) = false := by simpa using hk5
      by_cases k3 : x.kind = 3
      · have HF : Hid (plainB x = fitsB x.num) := by show _ = _; rw [HPL.out, if_neg k1, if_pos k3]
        rw [k3] at HC0
        clear k1 hk1 hk2 hk5 z1 z2 z5 k3
        go_enter Tryd.func33, Tryd.ntmps33
        go_wp2_with (first
          | (go_at_call 44; rw [← hbx]; refine (HSP.out bx).mono ?_; rintro e w1 ⟨rfl, k2⟩; rw [HS2.out]; have c0 := HBC.out w1 0 _ k2 HC0.out; have c2 := HBC.out w1 2 _ k2 HC2.out; have H1 := hide (below_on HBX.out k2); clear k2)
          | (go_at_call 45; refine (fits_any _ _).mono ?_; rintro e w2 ⟨rfl, hw⟩; rw [hw]; clear hw))
        go_ret
        exact ⟨by rw [HF.out]; rfl, H1.out⟩
      · have z3 : (x.kind == 3) = false := by simpa using k3
        by_cases k4 : x.kind = 4
        · have HF : Hid (plainB x = Lib.validD x.text) := by show _ = _; rw [HPL.out, if_neg k1, if_neg k3, if_pos k4]
          have hsz : (⟨x.text.toArray⟩ : ByteArray).size ≤ 9223372036854775807 := by have := hz.text; simpa [ByteArray.size] using this
          have HVS := hide (fun (w' : World) (h : Below w.heap.size w w') => valid_string ⟨x.text.toArray⟩ w' hsz (HT.out.later h))
          simp only at HVS
          rw [k4] at HC0
          clear k1 hk1 hk2 hk5 z1 z2 z5 k3 z3 k4 hsz
          go_enter Tryd.func33, Tryd.ntmps33
          go_wp2_with (first
            | (go_at_call 44; rw [← hbx]; refine (HSP.out bx).mono ?_; rintro e w1 ⟨rfl, k2⟩; rw [HS2.out]; have c0 := HBC.out w1 0 _ k2 HC0.out; have c3 := HBC.out w1 3 _ k2 HC3.out; have H1 := hide (below_on HBX.out k2); clear k2)
            | (go_at_call 46; refine (HVS.out _ H1.out).mono ?_; rintro e w2 ⟨rfl, k3⟩; have H2 := hide (below_on H1.out k3); clear k3))
          go_ret
          exact ⟨by rw [HF.out]; rfl, H2.out⟩
        · have z4 : (x.kind == 4) = false := by simpa using k4
          by_cases k6 : x.kind = 6
          · have HF0 : Hid (plainB x = ((x.names.length == x.kids.length) && apartB x.names)) := by show _ = _; rw [HPL.out, if_neg k1, if_neg k3, if_neg k4, if_pos k6]
            have HAP := hide (fun (w' : World) (h : Below w.heap.size w w') => apart_any (ns := x.names) (nv := .slice na x.names.length nc) (w := w') (HV.out.names.later h) hz.names (HT.out.later h))
            rw [k6] at HC0
            clear k1 hk1 hk2 hk5 z1 z2 z5 k3 z3 k4 z4 k6
            by_cases hnk : x.names.length = x.kids.length
            · have HF : Hid (plainB x = apartB x.names) := by show _ = _; rw [HF0.out, hnk]; simp
              have y1 : ((x.names.length : Int) == (x.kids.length : Int)) = true := by rw [hnk]; simp
              clear hnk
              go_enter Tryd.func33, Tryd.ntmps33
              go_wp2_with (first
                | (go_at_call 44; rw [← hbx]; refine (HSP.out bx).mono ?_; rintro e w1 ⟨rfl, k2⟩; rw [HS2.out]; have c0 := HBC.out w1 0 _ k2 HC0.out; have c4 := HBC.out w1 4 _ k2 HC4.out; have c5 := HBC.out w1 5 _ k2 HC5.out; have H1 := hide (below_on HBX.out k2); clear k2)
                | (go_at_call 47; refine (HAP.out _ H1.out).mono ?_; rintro e w2 ⟨rfl, k3⟩; have H2 := hide (below_on H1.out k3); clear k3))
              go_ret
              exact ⟨by rw [HF.out]; rfl, H2.out⟩
            · have HF : Hid (plainB x = false) := by show _ = _; rw [HF0.out, show (x.names.length == x.kids.length) = false by simpa using hnk]; rfl
              have y1 : ((x.names.length : Int) == (x.kids.length : Int)) = false := by simp; omega
              clear hnk
              go_enter Tryd.func33, Tryd.ntmps33
              go_wp2_with (first
                | (go_at_call 44; rw [← hbx]; refine (HSP.out bx).mono ?_; rintro e w1 ⟨rfl, k2⟩; rw [HS2.out]; have c0 := HBC.out w1 0 _ k2 HC0.out; have c4 := HBC.out w1 4 _ k2 HC4.out; have c5 := HBC.out w1 5 _ k2 HC5.out; have H1 := hide (below_on HBX.out k2); clear k2))
              go_ret
              exact ⟨by rw [HF.out]; rfl, H1.out⟩
          · have z6 : (x.kind == 6) = false := by simpa using k6
            have HF : Hid (plainB x = false) := by show _ = _; rw [HPL.out, if_neg k1, if_neg k3, if_neg k4, if_neg k6]
            go_enter Tryd.func33, Tryd.ntmps33
            go_wp2_with (first
              | (go_at_call 44; rw [← hbx]; refine (HSP.out bx).mono ?_; rintro e w1 ⟨rfl, k2⟩; rw [HS2.out]; have c0 := HBC.out w1 0 _ k2 HC0.out; have H1 := hide (below_on HBX.out k2); clear k2))
            go_ret
            exact ⟨by rw [HF.out]; rfl, H1.out⟩
set_option maxHeartbeats 1600000 in
theorem allPlain_any {T : List VI} {v : Value} {w : World} (hT : TreeAt w v T) (hz : ∀ x ∈ T, SzV x) (hTab : TabU w) :
    Calls Tryd.prog 23 #[v] w fun e w' => e = .returned (.bool (T.all plainB)) ∧ Below w.heap.size w w' := by
  obtain ⟨a, ca, rfl, hl, ha⟩ := hT
  have HA : Hid (∀ i x, T[i]? = some x → ∃ g o nv kv, a = some ⟨g, o, none⟩ ∧ VAt w x nv kv ∧ ∀ j u, (aggI x nv kv)[j]? = some u → w.cell? ⟨g, o + i * 6 + j, none⟩ = some u) := ha
  have HZ := hide hz
  have HTB := hide hTab
  have HB0 := hide (Below.refl w.heap.size w)
  clear ha hz hTab
  go_enter Tryd.func23, Tryd.ntmps23
  go_wp2
  go_loopw [7] (fun vi wr => ∃ i : Nat, vi = .int .i64 i ∧ i ≤ T.length ∧ Hid (∀ x ∈ T.take i, plainB x = true) ∧ Hid (Below w.heap.size w wr)) (fun vi _ => T.length - (intOf vi).toNat)
  case atStart => exact ⟨0, rfl, Nat.zero_le _, fun x h => by simp at h, HB0.out⟩
  case round =>
    clear HB0
    obtain ⟨i, rfl, hi, HP, HB⟩ := hrel
    by_cases hil : i < T.length
    · have i1 : (i : Int) < (T.length : Int) := by omega
      obtain ⟨x, hx⟩ : ∃ x, T[i]? = some x := ⟨_, List.getElem?_eq_getElem hil⟩
      obtain ⟨g, o, nv, kv, rfl, hva, hc⟩ := HA.out i x hx
      have hva2 := hva
      obtain ⟨⟨na, nc, rfl, hnl, _⟩, ⟨ka, kc, rfl, hkl, _⟩⟩ := hva
      rw [List.length_map, List.length_map] at hva2
      obtain ⟨c0, c1, c2, c3, c4, c5⟩ := six_cells (w := wr) (o := o + i * 6) (fun j u hj => (HB.out.cell (block_lt_of_cell (hc j u hj))).trans (hc j u hj))
      rw [List.length_map] at c4 c5
      have hg1 : ¬ wr.heap.size = g := World.new_ne wr _ c0
      have HPV := hide (fun (w' : World) (h : Below w.heap.size w w') => plain_any (x := x) (w := w') (hva2.later h) (HZ.out x (List.mem_of_getElem? hx)) (HTB.out.later h))
      simp only [aggI] at HPV
      have HTK : Hid (T.take (i + 1) = T.take i ++ [x]) := by show _ = _; rw [List.take_add_one, hx]; rfl
      clear hc hva2 hnl hkl
      cases hp : plainB x
      · have HF : Hid (T.all plainB = false) := by
          show _ = _
          rw [Bool.eq_false_iff]; intro h; rw [List.all_eq_true] at h; rw [h x (List.mem_of_getElem? hx)] at hp; cases hp
        have HP2 : Hid (plainB x = false) := hp
        clear hp hx
        go_wp2_with (first
          | (go_at_call 33; refine (HPV.out _ (HB.out.alloc HB.out.size _)).mono ?_; rintro e w1 ⟨rfl, k2⟩; rw [HP2.out]; have H1 := hide (below_on (HB.out.alloc HB.out.size _) k2); clear k2))
        go_ret
        exact ⟨by rw [HF.out]; rfl, H1.out⟩
      · have HPN : Hid (∀ y ∈ T.take (i + 1), plainB y = true) := fun y hy => by
          rw [HTK.out] at hy
          rcases List.mem_append.1 hy with h | h
          · exact HP.out y h
          · simp at h; rw [h]; exact hp
        have HP2 : Hid (plainB x = true) := hp
        clear hp hx
        go_wp2_with (first
          | (go_at_call 33; refine (HPV.out _ (HB.out.alloc HB.out.size _)).mono ?_; rintro e w1 ⟨rfl, k2⟩; rw [HP2.out]; have H1 := hide (below_on (HB.out.alloc HB.out.size _) k2); clear k2))
        go_roundw
        case rel => exact ⟨i + 1, by go_num, by omega, HPN.out, H1.out⟩
        case measure => simp [intOf]; omega
    · have i1 : ¬ (i : Int) < (T.length : Int) := by omega
      have HF : Hid (T.all plainB = true) := by
        show _ = _
        rw [List.all_eq_true]; intro y hy
        exact HP.out y (by rw [List.take_of_length_le (by omega)]; exact hy)
      go_wp2
      go_ret
      exact ⟨by rw [HF.out]; rfl, HB.out⟩
end Go.Proofs.YtpffhckimilppaaDoor
