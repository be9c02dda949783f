/-
  What the closure of an object's kids does.
-/
import Derived.Test.YtpffhckimilppaaDoorJObjA
namespace Go.Proofs.YtpffhckimilppaaDoor.Js
open Go.RowKit

section
variable {B : List UInt8} {R tb toff cap : Nat} {w0 w w' : World} {a d : Nat} {v : Value} {T : List V} {cs : List Value}
variable {wst wX : World} {o0 : Option Nat} {cs0 : List Value} {hi mb vb rb kind sb : Nat} {ns : List (List UInt8)} {ks : List Nat} {na ka : Option Addr} {nc kc : Nat}

theorem strs_one (x : List UInt8) : ∀ u ∈ [strv x], u.oneCell' = true := by intro u hu; simp at hu; subst hu; rfl
theorem SetIs.lt {m : Nat} {l : List (List UInt8)} (h : SetIs w m l) : m < w.heap.size := World.ownsMap.lt h
theorem set_kept (h : JG B R tb toff cap w0 d wst o0 cs0 hi mb wX vb rb kind ns ks T w a v cs na nc ka kc) {l : List (List UInt8)} (hset : SetIs w mb l) {w3 : World} {b : Obj} (hg : (w.alloc b).grownBy w3 (Value.slice na ns.length nc).ownBlock)
    {n : Nat} {xs : List Value} {u : Value} (_ : w3.ownsRow 0 9 1 u n xs) : SetIs (w3.setCell ⟨vb, 4, none⟩ u) mb l := by
  refine hset.eq ?_
  rw [heap_setCell_other _ _ mb _ (fun e => h.tyV.noMap hset e.symm), hg.block mb (by have := hset.lt; simp; omega) (fun e => (h.tyN mb e.symm).noMap hset rfl), Below.heap_alloc w b mb hset.lt]

theorem set_kept2 (h : JG B R tb toff cap w0 d wst o0 cs0 hi mb wX vb rb kind ns ks T w a v cs na nc ka kc) {l : List (List UInt8)} (hset : SetIs w mb l) {w3 : World} {b : Obj} (hg : (w.alloc b).grownBy w3 (Value.slice ka ks.length kc).ownBlock)
    {n : Nat} {xs : List Value} {u : Value} (_ : w3.ownsRow 0 3 1 u n xs) : SetIs (w3.setCell ⟨vb, 5, none⟩ u) mb l := by
  refine hset.eq ?_
  rw [heap_setCell_other _ _ mb _ (fun e => h.tyV.noMap hset e.symm), hg.block mb (by have := hset.lt; simp; omega) (fun e => (h.tyK mb e.symm).noMap hset rfl), Below.heap_alloc w b mb hset.lt]

theorem val_drew {sub : Sub} (HV : ValueC B R tb toff cap w0 sub d) (h : St B R tb toff cap w0 w a d v T cs) {x : Nat × List V} {a1 : Nat} (hM : sub T a = .ok x a1) :
    Calls Tryd.prog 41 #[.pointer (some ⟨R, 0, none⟩)] w.drew fun e w' => ∃ u, e = .returned u ∧ ∃ v' cs', u = natv x.1 ∧ St B R tb toff cap w0 w' a1 d v' x.2 cs' ∧ Fr R v.ownBlock w.drew w' ∧ Moved w.drew.heap.size v.ownBlock v'.ownBlock ∧ New w.drew.heap.size cs cs' := by
  refine (okT (HV w.drew a v T cs (h.drewN 1)) hM).mono ?_
  rintro e w' ⟨v', cs', rfl, h1⟩
  exact ⟨_, rfl, v', cs', rfl, h1⟩

def JO (B : List UInt8) (R tb toff cap : Nat) (w0 : World) (d : Nat) (wst : World) (o0 : Option Nat) (cs0 : List Value) (hi mb : Nat) (wX : World) (vb rb : Nat) (s : List (List UInt8) × List Nat × List V) (w : World) (a : Nat) (v : Value) : Prop :=
  ∃ cs na nc ka kc, JG B R tb toff cap w0 d wst o0 cs0 hi mb wX vb rb 6 s.1 s.2.1 s.2.2 w a v cs na nc ka kc ∧ SetIs w mb s.1 ∧ s.1.length = s.2.1.length

set_option maxRecDepth 100000 in
set_option maxHeartbeats 6400000 in
theorem kid_object {sub : Sub} (E : Env B R tb toff cap w0) (HV : ValueC B R tb toff cap w0 sub d) (hsub : SubOk sub) (hm1 : wst.heap.size ≤ mb) (hm0 : R < mb) (hmhi : mb < hi) (hsb1 : wst.heap.size ≤ sb) (hsb2 : sb < hi) (hsb3 : sb ≠ vb) (hsb4 : sb ≠ mb)
    (hsb : wX.heap[sb]? = some (.cells #[.map (some mb)] 76 (0, 0)))
    (s : List (List UInt8) × List Nat × List V) (w : World) (a : Nat) (v : Value) (hJ : JO B R tb toff cap w0 d wst o0 cs0 hi mb wX vb rb s w a v) :
    Calls Tryd.prog 69 #[.pointer (some ⟨vb, 0, none⟩), .pointer (some ⟨rb, 0, none⟩), .pointer (some ⟨sb, 0, none⟩)] w (DoneK (JO B R tb toff cap w0 d wst o0 cs0 hi mb wX vb rb) (Fr R o0 wst) (objK B sub s a)) := by
  obtain ⟨cs, na, nc, ka, kc, h, hset1, hlen⟩ := hJ
  have HVC : Hid (ValueC B R tb toff cap w0 sub d) := HV
  have HE : Hid (Env B R tb toff cap w0) := E
  have HSB : Hid (wX.heap[sb]? = some (.cells #[.map (some mb)] 76 (0, 0))) := hsb
  have hl := E.len
  have HLEN : Hid (s.1.length = s.2.1.length) := hlen
  have hl1 : s.1.length ≤ s.2.1.length := by omega
  clear HV E hsb hlen
  have cN := h.cN; have cR := h.cR
  have cS := cell_of_one ((h.mid sb hsb1 hsb2 hsb3 hsb4).trans HSB.out)
  have hle := h.le; have hlT := h.st.le; have hRw := h.hR
  have HNA : Hid (Calls Tryd.prog 70 #[.pointer (some ⟨R, 0, none⟩), .map (some mb)] w.drew (DoneN B R tb toff cap w0 w.drew d v mb s.1 (nameM B s.1 a))) :=
    name_any HE.out (h.st.sc.drewN 1) mb hm0 s.1 hset1 (by omega)
  cases hN : nameM B s.1 a with
  | bad a1 c =>
    have HR : Hid (objK B sub s a = .bad a1 c) := by show _ = _; simp [objK, hN, Res.andThen]
    rw [hN] at HNA
    have HNB : Hid (Calls Tryd.prog 70 #[.pointer (some ⟨R, 0, none⟩), .map (some mb)] w.drew fun e w' => e = .panicked (flt a1 c) ∧ Fr R (some mb) w.drew w') := HNA
    clear HNA hN
    go_enter Tryd.func69, Tryd.ntmps69
    go_wp2_with fail
    go_region_dies
    all_goals
      refine HNB.out.mono ?_
      rintro e w2 ⟨rfl, hf2⟩
      refine ⟨rfl, ?_⟩
      rw [HR.out]
      exact ⟨rfl, (h.fr.drewN 1).trans hf2 (.inr ⟨mb, rfl, hm1⟩)⟩
  | ok n p =>
    rw [hN] at HNA
    have HCn : Hid (Calls Tryd.prog 70 #[.pointer (some ⟨R, 0, none⟩), .map (some mb)] w.drew fun e w' => ∃ u, e = .returned u ∧ (u = strv n ∧ Sc B R tb toff cap w0 w' p d v ∧ Fr R (some mb) w.drew w' ∧ SetIs w' mb (s.1 ++ [n]))) := by
      have H : Calls Tryd.prog 70 #[.pointer (some ⟨R, 0, none⟩), .map (some mb)] w.drew fun e w' => e = .returned (strv n) ∧ Sc B R tb toff cap w0 w' p d v ∧ Fr R (some mb) w.drew w' ∧ SetIs w' mb (s.1 ++ [n]) := HNA
      refine H.mono ?_
      rintro e w' ⟨rfl, h1⟩
      exact ⟨_, rfl, rfl, h1⟩
    have HN : Hid (nameM B s.1 a = .ok n p) := hN
    clear HNA hN
    obtain ⟨i9, hi9, hz0, hz1, hz2⟩ := info_parts info9
    cases hW : wantM B 58 (skip B p) with
    | bad a1 c =>
      have HR : Hid (objK B sub s a = .bad a1 c) := by show _ = _; simp [objK, HN.out, hW, Res.andThen]
      have HW : Hid (wantM B 58 (skip B p) = .bad a1 c) := hW
      clear hW
      go_enter Tryd.func69, Tryd.ntmps69
      go_wp2_with fail
      go_region_law (first | (refine step_call2 rfl 70 (.tmp 5) (.tmp 6) 67 76 rfl hent54 (.pointer (some ⟨R, 0, none⟩)) (.map (some mb)) rfl rfl HCn.out ?_; rintro u w2 ⟨rfl, hs2, hf2, hset2⟩; have h2 := (h.drewN 1).named hset1 hm1 hf2 hs2; have cN2 := h2.cN; have cN2a := h2.cNa; have cR2 := h2.cR; have cS2 := (h2.mid sb hsb1 hsb2 hsb3 hsb4).trans HSB.out; have cS2c := cell_of_one cS2; simp only [strv]) | (refine step_append rfl (.tmp 4) (.tmp 8) 39 rfl 0 9 i9 (.string ⟨#[]⟩) 1 16 Tryd.underlying39 hi9 hz0 hz1 hz2 rfl (by decide) _ s.1.length (s.1.map strv) rfl (h2.own.names.alloc _) _ 1 1 [strv n] rfl rfl (cells_new _ [strv n] 9 _ (by simp)) (strs_one _) (by unfold maxLen; omega) (by omega) (by simp) ?_; intro v3 w3 hown3 hg3 hm3; obtain ⟨ka3, kc3, rfl⟩ := own_shape hown3; have h4 := h2.addName' (by omega) hown3 hg3 hm3; have hset4 := set_kept h2 hset2 hg3 hown3; have hv3 := h2.v3 hg3 h2.nne; have cV3 := cell_of_row w3 vb 4 _ _ _ hv3; have fV3 := frozen_of_row w3 vb 4 _ _ hv3; have cR4 := h4.cR; simp only [List.getElem?_toArray, List.getElem?_cons_succ, List.getElem?_cons_zero] at cV3))
      all_goals have hset4lt := hset4.lt
      all_goals go_wp2_with (first | (go_at_call 42; refine (blanks_any HE.out h4.st.sc).mono ?_; rintro e w5 ⟨rfl, hs5, hf5⟩; have h5 := h4.scan hf5 hs5; have hset5 := hset4.eq (hf5.block mb hset4lt (by omega) (by simp)); have cR5 := h5.cR) | (go_at_call 63; refine (badS (want_any HE.out h5.st.sc 58) HW.out).mono ?_; rintro e w6 ⟨rfl, hf6⟩))
      all_goals refine ⟨rfl, ?_⟩
      all_goals rw [HR.out]
      all_goals exact ⟨rfl, h5.fr.trans0 hf6.weak⟩
    | ok z q =>
      have hwq := wantM_at hW
      have HW : Hid (wantM B 58 (skip B p) = .ok z q) := hW
      clear hW
      cases hM : sub s.2.2 q with
      | bad a1 c =>
        have HR : Hid (objK B sub s a = .bad a1 c) := by show _ = _; simp [objK, HN.out, HW.out, hM, Res.andThen]
        have HM : Hid (sub s.2.2 q = .bad a1 c) := hM
        clear hM
        go_enter Tryd.func69, Tryd.ntmps69
        go_wp2_with fail
        go_region_law (first | (refine step_call2 rfl 70 (.tmp 5) (.tmp 6) 67 76 rfl hent54 (.pointer (some ⟨R, 0, none⟩)) (.map (some mb)) rfl rfl HCn.out ?_; rintro u w2 ⟨rfl, hs2, hf2, hset2⟩; have h2 := (h.drewN 1).named hset1 hm1 hf2 hs2; have cN2 := h2.cN; have cN2a := h2.cNa; have cR2 := h2.cR; have cS2 := (h2.mid sb hsb1 hsb2 hsb3 hsb4).trans HSB.out; have cS2c := cell_of_one cS2; simp only [strv]) | (refine step_append rfl (.tmp 4) (.tmp 8) 39 rfl 0 9 i9 (.string ⟨#[]⟩) 1 16 Tryd.underlying39 hi9 hz0 hz1 hz2 rfl (by decide) _ s.1.length (s.1.map strv) rfl (h2.own.names.alloc _) _ 1 1 [strv n] rfl rfl (cells_new _ [strv n] 9 _ (by simp)) (strs_one _) (by unfold maxLen; omega) (by omega) (by simp) ?_; intro v3 w3 hown3 hg3 hm3; obtain ⟨ka3, kc3, rfl⟩ := own_shape hown3; have h4 := h2.addName' (by omega) hown3 hg3 hm3; have hset4 := set_kept h2 hset2 hg3 hown3; have hv3 := h2.v3 hg3 h2.nne; have cV3 := cell_of_row w3 vb 4 _ _ _ hv3; have fV3 := frozen_of_row w3 vb 4 _ _ hv3; have cR4 := h4.cR; simp only [List.getElem?_toArray, List.getElem?_cons_succ, List.getElem?_cons_zero] at cV3))
        all_goals have hset4lt := hset4.lt
        all_goals go_wp2_with (first | (go_at_call 42; refine (blanks_any HE.out h4.st.sc).mono ?_; rintro e w5 ⟨rfl, hs5, hf5⟩; have h5 := h4.scan hf5 hs5; have hset5 := hset4.eq (hf5.block mb hset4lt (by omega) (by simp)); have cR5 := h5.cR) | (go_at_call 63; refine (okS (want_any HE.out h5.st.sc 58) HW.out).mono ?_; rintro e w6 ⟨rfl, hs6, hf6⟩; have h6 := h5.scan hf6 hs6; have hset6 := hset5.eq (hf6.block mb hset5.lt (by omega) (by simp)); have cR6 := h6.cR; have cK6 := h6.cK))
        all_goals go_region_dies
        all_goals
          refine (badT (HVC.out w6.drew q v s.2.2 cs (h6.st.drewN 1)) HM.out).mono ?_
          rintro e w7 ⟨rfl, hf7⟩
          refine ⟨rfl, ?_⟩
          rw [HR.out]
          exact ⟨rfl, (h6.fr.drewN 1).trans hf7 (h6.mv.le h6.hilo)⟩
      | ok x a1 =>
        have hx := hsub _ _ _ _ hM
        have HR : Hid (objK B sub s a = .ok (s.1 ++ [n], s.2.1 ++ [x.1], x.2) a1) := by show _ = _; simp [objK, HN.out, HW.out, hM, Res.andThen]
        have HM : Hid (sub s.2.2 q = .ok x a1) := hM
        clear hM
        obtain ⟨i3, hi3, hy0, hy1, hy2⟩ := info_parts info3
        go_enter Tryd.func69, Tryd.ntmps69
        go_wp2_with fail
        go_region_law (first | (refine step_call2 rfl 70 (.tmp 5) (.tmp 6) 67 76 rfl hent54 (.pointer (some ⟨R, 0, none⟩)) (.map (some mb)) rfl rfl HCn.out ?_; rintro u w2 ⟨rfl, hs2, hf2, hset2⟩; have h2 := (h.drewN 1).named hset1 hm1 hf2 hs2; have cN2 := h2.cN; have cN2a := h2.cNa; have cR2 := h2.cR; have cS2 := (h2.mid sb hsb1 hsb2 hsb3 hsb4).trans HSB.out; have cS2c := cell_of_one cS2; simp only [strv]) | (refine step_append rfl (.tmp 4) (.tmp 8) 39 rfl 0 9 i9 (.string ⟨#[]⟩) 1 16 Tryd.underlying39 hi9 hz0 hz1 hz2 rfl (by decide) _ s.1.length (s.1.map strv) rfl (h2.own.names.alloc _) _ 1 1 [strv n] rfl rfl (cells_new _ [strv n] 9 _ (by simp)) (strs_one _) (by unfold maxLen; omega) (by omega) (by simp) ?_; intro v3 w3 hown3 hg3 hm3; obtain ⟨ka3, kc3, rfl⟩ := own_shape hown3; have h4 := h2.addName' (by omega) hown3 hg3 hm3; have hset4 := set_kept h2 hset2 hg3 hown3; have hv3 := h2.v3 hg3 h2.nne; have cV3 := cell_of_row w3 vb 4 _ _ _ hv3; have fV3 := frozen_of_row w3 vb 4 _ _ hv3; have cR4 := h4.cR; simp only [List.getElem?_toArray, List.getElem?_cons_succ, List.getElem?_cons_zero] at cV3))
        all_goals have hset4lt := hset4.lt
        all_goals go_wp2_with (first | (go_at_call 42; refine (blanks_any HE.out h4.st.sc).mono ?_; rintro e w5 ⟨rfl, hs5, hf5⟩; have h5 := h4.scan hf5 hs5; have hset5 := hset4.eq (hf5.block mb hset4lt (by omega) (by simp)); have cR5 := h5.cR) | (go_at_call 63; refine (okS (want_any HE.out h5.st.sc 58) HW.out).mono ?_; rintro e w6 ⟨rfl, hs6, hf6⟩; have h6 := h5.scan hf6 hs6; have hset6 := hset5.eq (hf6.block mb hset5.lt (by omega) (by simp)); have cR6 := h6.cR; have cK6 := h6.cK))
        all_goals go_region_law (first | (refine step_call rfl 41 (.tmp 17) 67 rfl hent20 (.pointer (some ⟨R, 0, none⟩)) rfl (val_drew HVC.out h6.st HM.out) ?_; rintro u w7 ⟨v7, cs7, rfl, hst7, hf7, hm7, hn7⟩; have h7 := (h6.drewN 1).value (by omega) hst7 hf7 hm7 hn7; have hset7 := hset6.fr (w := w6.drew) hf7 (by omega) (h6.vout mb hm1 hmhi); have cK7 := h7.cK; have cK7a := h7.cKa; have cR7 := h7.cR; simp only [natv]) | (refine step_append rfl (.tmp 16) (.tmp 19) 40 rfl 0 3 i3 (.int .i64 0) 1 8 Tryd.underlying40 hi3 hy0 hy1 hy2 rfl (by decide) _ s.2.1.length (s.2.1.map natv) rfl (h7.own.kids.alloc _) _ 1 1 [natv x.1] rfl rfl (cells_new _ [natv x.1] 3 _ (by simp)) (ints_one _) (by unfold maxLen; omega) (by omega) (by simp) ?_; intro v8 w8 hown8 hg8 hm8; obtain ⟨ka8, kc8, rfl⟩ := own_shape hown8; have hP := h7.addKid' (by omega) (by simp; omega) hown8 hg8 hm8; have hsetP := set_kept2 h7 hset7 hg8 hown8; have hv8 := h7.v3 hg8 h7.kne; have cV8 := cell_of_row w8 vb 5 _ _ _ hv8; have fV8 := frozen_of_row w8 vb 5 _ _ hv8; simp only [List.getElem?_toArray, List.getElem?_cons_succ, List.getElem?_cons_zero] at cV8))
        all_goals go_wp2
        all_goals go_end0
        all_goals rw [HR.out]
        all_goals exact ⟨rfl, v7, cs7, _, _, _, _, hP, hsetP, by have := HLEN.out; simp; omega⟩
end
end Go.Proofs.YtpffhckimilppaaDoor.Js