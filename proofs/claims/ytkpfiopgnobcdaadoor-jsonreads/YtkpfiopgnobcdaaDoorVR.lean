/-
  The document's reader of JSON: an object, whatever its kids.
-/
import Derived.Test.YtkpfiopgnobcdaaDoorVP
namespace Go.Proofs.YtkpfiopgnobcdaaDoor
open Go.RowKit

section
variable {B : List UInt8} {R cap : Nat} {ta : Option Addr} {w0 w w' : World} {a bb pp : Nat} {v : Value} {T : List V} {cs : List Value}
set_option maxRecDepth 100000 in
set_option maxHeartbeats 12800000 in
theorem many_obj {sub : Sub} {deep n from_ : Nat} (E : REnv B R cap ta w0) (HV : RValueC B R cap ta w0 sub (deep + 1) n) (hsub : SubOk sub) (hfine : SubFine B sub) (hn : n ≤ 100) (h4 : 4 ≤ n) (hdp : deep ≤ 100) (h : RSt B R cap ta w0 w (from_ + 1) 0 0 v T cs) (hfrom : from_ < B.length) :
    Calls Tryd.prog 28 #[.pointer (some ⟨R, 0, none⟩), .bool true, .int .i64 deep, .int .i64 from_] w (DoneRV B R cap ta w0 w v T cs (n + 3) ((eachM B 125 (objK B sub) ([], [], T) from_).andThen fun s a' => putM from_ { kind := 6, names := s.1, kids := s.2.1 } s.2.2 a')) := by
  have hl := E.len
  have HE := hide E
  have HVC := hide HV
  have HSO := hide hsub
  have HSF := hide hfine
  have HJ0 := hide (RJ.start h 6)
  clear HV hsub hfine E h
  cases hA : aheadM B (from_ + 1) with
  | bad x c =>
    have HM : Hid ((eachM B 125 (objK B sub) ([], [], T) from_).andThen (fun s a' => putM from_ { kind := 6, names := s.1, kids := s.2.1 } s.2.2 a') = .bad x c) := by show _ = _; simp [eachM, hA, Res.andThen]
    have hc : c ≠ 0 := by have := ahead_fine (B := B) (a := from_ + 1) (by omega); rw [hA] at this; exact this.2
    have HN := hide (badH (next_good HE.out HJ0.out.st.sc (by omega)) hA)
    have hc1 : ((c : Int) == 0) = false := by simp; omega
    clear hA
    go_enter Tryd.func28, Tryd.ntmps28
    go_wp2_with (go_at_call 23; refine HN.out.mono ?_; rintro e w1 ⟨rfl, q, hq, hs1, hf1⟩; have c2 := hs1.rd.c2; have H1 := hide (And.intro hq (HJ0.out.scan hf1 hs1)))
    refine wp_loop_rounds 1 ?_
    rw [rounds_succ]
    go_wp2
    go_ret
    rw [HM.out]
    obtain ⟨f1, f2, f3⟩ := H1.out.2.badfin
    exact ⟨rfl, q, v, T, cs, by have := H1.out.1; omega, H1.out.2.st, f1, f2, f3, Nat.le_refl _⟩
  | ok c p =>
    have hpl := (aheadM_at hA).2.1
    have HN := hide (okH (next_good HE.out HJ0.out.st.sc (by omega)) hA)
    by_cases hcc : c = 125
    · subst hcc
      have HM : Hid ((eachM B 125 (objK B sub) ([], [], T) from_).andThen (fun s a' => putM from_ { kind := 6, names := s.1, kids := s.2.1 } s.2.2 a') = putM from_ { kind := 6, names := [], kids := [] } T (p + 1)) := by show _ = _; simp [eachM, hA, Res.andThen]
      clear hA
      go_enter Tryd.func28, Tryd.ntmps28
      go_wp2_with (first
        | (go_at_call 23; refine HN.out.mono ?_; rintro e w1 ⟨rfl, hs1, hf1⟩; have c1 := hs1.rd.c1; have f1 := hs1.rd.f 1; have H1 := hide ((HJ0.out.scan hf1 hs1).scan ((Fr.refl R none w1).setR 1 (.int .i64 ((p : Int) + 1))) (hs1.stepZ (a' := p + 1) (by omega) (by omega))); obtain ⟨k0, k1, k2, k3, k4, k5⟩ := H1.out.six; clear hs1 hf1)
        | (go_at_call 25; refine (put_len (v0 := v) (T0 := T) (n := n + 3) (from_ := from_) H1.out (Nat.le_refl _) (by omega) rfl rfl rfl).mono ?_; intro e w2 hD; have HD := hide hD; clear hD; obtain ⟨u, rfl⟩ := DoneRV.ret HD.out))
      go_ret
      rw [HM.out]
      exact HD.out
    · have hcc' : ((c : Int) == 125) = false := by simp; omega
      obtain ⟨M0, hM0⟩ : ∃ M0, eachL B 125 (objK B sub) (B.length + 1) ([], [], T) p = M0 := ⟨_, rfl⟩
      have HM : Hid ((eachM B 125 (objK B sub) ([], [], T) from_).andThen (fun s a' => putM from_ { kind := 6, names := s.1, kids := s.2.1 } s.2.2 a') = M0.andThen (fun s a' => putM from_ { kind := 6, names := s.1, kids := s.2.1 } s.2.2 a')) := by show _ = _; rw [← hM0]; simp [eachM, hA, Res.andThen, hcc]
      have HM0 := hide hM0
      clear hA hM0
      go_enter Tryd.func28, Tryd.ntmps28
      go_wp2_with (go_at_call 23; refine HN.out.mono ?_; rintro e w1 ⟨rfl, hs1, hf1⟩; have H1 := hide (HJ0.out.scan hf1 hs1); clear hs1 hf1)
      clear HN
      go_loopg [] (B.length + 1) (fun k wr => (∃ ns ks T' a' v' cs' na nc ka kc, Hid (RJ B R cap ta w0 w v.ownBlock cs (w.heap.size + 1) w.heap.size 6 ns ks T' wr a' 0 0 v' cs' na nc ka kc ∧ eachL B 125 (objK B sub) k (ns, ks, T') a' = M0 ∧ a' ≤ B.length ∧ B.length + 1 ≤ k + a' ∧ ks.length ≤ T'.length ∧ T.length ≤ T'.length ∧ ns.length = ks.length)) ∨ (∃ x c ns ks T' a' v' cs' na nc ka kc, Hid (RJ B R cap ta w0 w v.ownBlock cs (w.heap.size + 1) w.heap.size 6 ns ks T' wr a' c x v' cs' na nc ka kc ∧ M0 = .bad x c ∧ c ≠ 0 ∧ a' ≤ B.length + n + 3 ∧ T.length ≤ T'.length)))
      case atStart => exact .inl ⟨[], [], T, p, v, cs, none, 0, none, 0, H1.out, HM0.out, by omega, by omega, by simp, Nat.le_refl _, rfl⟩
      case round =>
        clear H1 HM0 HJ0
        rcases hrel with ⟨ns, ks, T', a', v', cs', na, nc, ka, kc, HG⟩ | ⟨x, c', ns, ks, T', a', v', cs', na, nc, ka, kc, HG⟩
        · have h0 := HG.out
          obtain ⟨hj, hL, ha1, hk1, hks, hTT, hnk⟩ := h0
          obtain ⟨gk', rfl⟩ : ∃ k, gk = k + 1 := ⟨gk - 1, by omega⟩
          have HL0 : Hid ((objK B sub (ns, ks, T') a').andThen (fun s' a' => (aheadM B a').andThen fun c p => if c = 125 then .ok s' (p + 1) else (wantM B 44 p).andThen fun _ q => eachL B 125 (objK B sub) gk' s' q) = M0) := hL
          clear hL
          have c2 := hj.st.sc.rd.c2
          have hle8 := hj.st.le
          obtain ⟨i0, hii, hz0, hz1, hz2⟩ := info_parts info3
          have HNG := hide (rname_good HE.out hj ha1 (by omega))
          clear hnk
          cases hC : colonM B ns a' with
          | bad xb cb =>
            have hcb : cb ≠ 0 := by have := colon_fine (B := B) (ns := ns) ha1; rw [hC] at this; exact this.2
            have HB : Hid (M0 = .bad xb cb) := by show _ = _; rw [← HL0.out, objK_colon, hC]; rfl
            rw [hC] at HNG
            clear hC HL0 hj
            go_wp2_with (go_at_call 37; refine HNG.out.mono ?_; rintro e wn ⟨rfl, ns1, na1, nc1, q1, hq1, hj1⟩; have HJ1 := hide hj1; have cK := hj1.cK; have cKd := hj1.drew.cK; have HCal : Hid (Calls Tryd.prog 16 #[.pointer (some ⟨R, 0, none⟩), .int .i64 (IntKind.i64.wrap ((deep : Int) + 1))] wn.drew fun e w' => ∃ u, e = .returned u ∧ ∃ q v2 T2 cs2, u = natv 0 ∧ q ≤ B.length + n ∧ RSt B R cap ta w0 w' q cb xb v2 T2 cs2 ∧ Fr R v'.ownBlock wn.drew w' ∧ Moved wn.drew.heap.size v'.ownBlock v2.ownBlock ∧ New wn.drew.heap.size cs' cs2 ∧ T'.length ≤ T2.length) := (by refine (value_bad HE.out hj1.drew.st.sc hcb (IntKind.i64.wrap ((deep : Int) + 1))).mono ?_; rintro e w' ⟨rfl, hs, hf⟩; exact ⟨_, rfl, skip B q1, v', T', cs', rfl, Nat.le_trans (skip_far hq1) (by omega), hj1.drew.st.scan hf hs, hf.weak, Moved.refl _ _, New.refl _ _, Nat.le_refl _⟩); clear hj1)
            go_region_law (first
              | (refine step_call2 rfl 16 (.tmp 41) (.tmp 43) 43 3 rfl hent16 (.pointer (some ⟨R, 0, none⟩)) (.int .i64 (IntKind.i64.wrap ((deep : Int) + 1))) rfl rfl HCal.out ?_; rintro u w2 ⟨q2, v2, T2, cs2, rfl, hq2, hst2, hf2, hm2, hn2, hT2⟩; have h2 := HJ1.out.drew.keep hf2 hst2 hm2 hn2 hT2; have cK2 := h2.cK; have cK2a := h2.cKa; simp only [natv])
              | (refine step_append rfl (.tmp 40) (.tmp 45) 40 rfl 0 3 i0 (.int .i64 0) 1 8 Tryd.underlying40 hii hz0 hz1 hz2 rfl (by decide) _ ks.length (ks.map natv) rfl (h2.own.kids.alloc _) _ 1 1 [natv 0] rfl rfl (cells_new _ [natv 0] 3 _ (by simp)) (ints_one _) (by have := h2.st.le; unfold maxLen; omega) (by have := h2.st.le; omega) (by simp) ?_; intro v3 w3 hown3 hg3 hm3; obtain ⟨ka3, kc3, rfl⟩ := own_shape hown3; have HP := hide (h2.addKid' (by omega) (by have := h2.nle; omega) hown3 hg3 hm3); have hv3 := h2.v3 hg3 h2.kne; have cV3 := cell_of_row w3 w.heap.size 5 _ _ _ hv3; have fV3 := frozen_of_row w3 w.heap.size 5 _ _ hv3; simp only [List.getElem?_toArray, List.getElem?_cons_succ, List.getElem?_cons_zero] at cV3))
            all_goals
              have hsk := skip_far hq2
              clear h2 hst2 hf2 hm2 hn2 hown3 hg3 hm3 hv3 cK2 cK2a
              have HNB := hide (next_bad HE.out HP.out.st.sc hcb)
              go_wp2_with (go_at_call 23; refine HNB.out.mono ?_; rintro e w5 ⟨rfl, hs5, hf5⟩; have e1 := hs5.rd.c1; have g1 := hs5.rd.f 1; have H5 := hide ((HP.out.scan hf5 hs5).scan ((Fr.refl R none w5).setR 1 (.int .i64 ((skip B q2 : Nat) + 1 : Int))) (hs5.stepZ (a' := skip B q2 + 1) (by omega) (by omega))); clear hs5 hf5)
              go_roundg gk'
              case measure => omega
              case rel => exact .inr ⟨xb, cb, _, _, T2, skip B q2 + 1, v2, cs2, _, _, _, _, H5.out, HB.out, hcb, by omega, by have := HG.out.2.2.2.2.2.1; omega⟩
          | ok nm q1 =>
            have hfc := colon_fine (B := B) (ns := ns) ha1
            rw [hC] at hfc
            have hq1 := hfc.1
            have hq2' := hfc.2
            clear hfc
            have HNM : Hid (Calls Tryd.prog 37 #[.pointer (some ⟨R, 0, none⟩), .pointer (some ⟨w.heap.size, 0, none⟩)] wr fun e w' => e = .returned (.tuple #[]) ∧ ∃ na nc, RJ B R cap ta w0 w v.ownBlock cs (w.heap.size + 1) w.heap.size 6 (ns ++ [nm]) ks T' w' q1 0 0 v' cs' na nc ka kc) := by
              have := HNG.out
              rw [hC] at this
              exact this
            have HL : Hid (((sub T' q1).andThen fun x a' => .ok (ns ++ [nm], ks ++ [x.1], x.2) a').andThen (fun s' a' => (aheadM B a').andThen fun c p => if c = 125 then .ok s' (p + 1) else (wantM B 44 p).andThen fun _ q => eachL B 125 (objK B sub) gk' s' q) = M0) := by show _ = _; rw [← HL0.out, objK_colon, hC]; rfl
            clear hC HL0 hj HNG
            cases hS : sub T' q1 with
            | bad xb cb =>
              have hcb : cb ≠ 0 := by have := HSF.out T' q1 (by omega); rw [hS] at this; exact this.2
              have HB : Hid (M0 = .bad xb cb) := by show _ = _; rw [← HL.out, hS]; rfl
              have HCalF : Hid (∀ wx na1 nc1, RJ B R cap ta w0 w v.ownBlock cs (w.heap.size + 1) w.heap.size 6 (ns ++ [nm]) ks T' wx q1 0 0 v' cs' na1 nc1 ka kc → Hid (Calls Tryd.prog 16 #[.pointer (some ⟨R, 0, none⟩), .int .i64 (IntKind.i64.wrap ((deep : Int) + 1))] wx.drew fun e w' => ∃ u, e = .returned u ∧ ∃ q v2 T2 cs2, u = natv 0 ∧ q ≤ B.length + n ∧ RSt B R cap ta w0 w' q cb xb v2 T2 cs2 ∧ Fr R v'.ownBlock wx.drew w' ∧ Moved wx.drew.heap.size v'.ownBlock v2.ownBlock ∧ New wx.drew.heap.size cs' cs2 ∧ T'.length ≤ T2.length)) := fun wx na1 nc1 hj => by
                refine (badRV (HVC.out wx.drew q1 v' T' cs' (IntKind.i64.wrap ((deep : Int) + 1)) (by rw [IntKind.wrap_i64]; omega) hj.drew.st (by omega)) hS).mono ?_
                rintro e w' ⟨rfl, q, v2, T2, cs2, h2⟩
                exact ⟨_, rfl, q, v2, T2, cs2, rfl, h2⟩
              clear hS HL
              go_wp2_with (go_at_call 37; refine HNM.out.mono ?_; rintro e wn ⟨rfl, na1, nc1, hj1⟩; have HJ1 := hide hj1; have cK := hj1.cK; have cKd := hj1.drew.cK; have HCal := HCalF.out wn _ _ hj1; clear hj1)
              go_region_law (first
                | (refine step_call2 rfl 16 (.tmp 41) (.tmp 43) 43 3 rfl hent16 (.pointer (some ⟨R, 0, none⟩)) (.int .i64 (IntKind.i64.wrap ((deep : Int) + 1))) rfl rfl HCal.out ?_; rintro u w2 ⟨q2, v2, T2, cs2, rfl, hq2, hst2, hf2, hm2, hn2, hT2⟩; have h2 := HJ1.out.drew.keep hf2 hst2 hm2 hn2 hT2; have cK2 := h2.cK; have cK2a := h2.cKa; simp only [natv])
                | (refine step_append rfl (.tmp 40) (.tmp 45) 40 rfl 0 3 i0 (.int .i64 0) 1 8 Tryd.underlying40 hii hz0 hz1 hz2 rfl (by decide) _ ks.length (ks.map natv) rfl (h2.own.kids.alloc _) _ 1 1 [natv 0] rfl rfl (cells_new _ [natv 0] 3 _ (by simp)) (ints_one _) (by have := h2.st.le; unfold maxLen; omega) (by have := h2.st.le; omega) (by simp) ?_; intro v3 w3 hown3 hg3 hm3; obtain ⟨ka3, kc3, rfl⟩ := own_shape hown3; have HP := hide (h2.addKid' (by omega) (by have := h2.nle; omega) hown3 hg3 hm3); have hv3 := h2.v3 hg3 h2.kne; have cV3 := cell_of_row w3 w.heap.size 5 _ _ _ hv3; have fV3 := frozen_of_row w3 w.heap.size 5 _ _ hv3; simp only [List.getElem?_toArray, List.getElem?_cons_succ, List.getElem?_cons_zero] at cV3))
              all_goals
                have hsk := skip_far hq2
                clear h2 hst2 hf2 hm2 hn2 hown3 hg3 hm3 hv3 cK2 cK2a
                have HNB := hide (next_bad HE.out HP.out.st.sc hcb)
                go_wp2_with (go_at_call 23; refine HNB.out.mono ?_; rintro e w5 ⟨rfl, hs5, hf5⟩; have e1 := hs5.rd.c1; have g1 := hs5.rd.f 1; have H5 := hide ((HP.out.scan hf5 hs5).scan ((Fr.refl R none w5).setR 1 (.int .i64 ((skip B q2 : Nat) + 1 : Int))) (hs5.stepZ (a' := skip B q2 + 1) (by omega) (by omega))); clear hs5 hf5)
                go_roundg gk'
                case measure => omega
                case rel => exact .inr ⟨xb, cb, _, _, T2, skip B q2 + 1, v2, cs2, _, _, _, _, H5.out, HB.out, hcb, by omega, by have := HG.out.2.2.2.2.2.1; omega⟩
            | ok y a1 =>
              have hx := HSO.out _ _ _ _ hS
              have hfa := HSF.out T' q1 (by omega)
              rw [hS] at hfa
              have hfa1 := hfa.1
              have hfa2 := hfa.2
              have hx1 := hx.1
              clear hfa hx
              have HCalF : Hid (∀ wx na1 nc1, RJ B R cap ta w0 w v.ownBlock cs (w.heap.size + 1) w.heap.size 6 (ns ++ [nm]) ks T' wx q1 0 0 v' cs' na1 nc1 ka kc → Hid (Calls Tryd.prog 16 #[.pointer (some ⟨R, 0, none⟩), .int .i64 (IntKind.i64.wrap ((deep : Int) + 1))] wx.drew fun e w' => ∃ u, e = .returned u ∧ ∃ v2 cs2, u = natv y.1 ∧ RSt B R cap ta w0 w' a1 0 0 v2 y.2 cs2 ∧ Fr R v'.ownBlock wx.drew w' ∧ Moved wx.drew.heap.size v'.ownBlock v2.ownBlock ∧ New wx.drew.heap.size cs' cs2)) := fun wx na1 nc1 hj => by
                refine (okRV (HVC.out wx.drew q1 v' T' cs' (IntKind.i64.wrap ((deep : Int) + 1)) (by rw [IntKind.wrap_i64]; omega) hj.drew.st (by omega)) hS).mono ?_
                rintro e w' ⟨rfl, v2, cs2, h2⟩
                exact ⟨_, rfl, v2, cs2, rfl, h2⟩
              have HL2 : Hid ((aheadM B a1).andThen (fun c p => if c = 125 then .ok ((ns ++ [nm]), ks ++ [y.1], y.2) (p + 1) else (wantM B 44 p).andThen fun _ q => eachL B 125 (objK B sub) gk' ((ns ++ [nm]), ks ++ [y.1], y.2) q) = M0) := by show _ = _; rw [← HL.out, hS]; rfl
              clear hS HL
              cases hA2 : aheadM B a1 with
              | bad xb cb =>
                have hcb : cb ≠ 0 := by have := ahead_fine (B := B) (a := a1) hfa2; rw [hA2] at this; exact this.2
                have HB : Hid (M0 = .bad xb cb) := by show _ = _; rw [← HL2.out, hA2]; rfl
                have HA2 := hide hA2
                clear hA2 HL2
                go_wp2_with (go_at_call 37; refine HNM.out.mono ?_; rintro e wn ⟨rfl, na1, nc1, hj1⟩; have HJ1 := hide hj1; have cK := hj1.cK; have cKd := hj1.drew.cK; have HCal := HCalF.out wn _ _ hj1; clear hj1)
                go_region_law (first
                  | (refine step_call2 rfl 16 (.tmp 41) (.tmp 43) 43 3 rfl hent16 (.pointer (some ⟨R, 0, none⟩)) (.int .i64 (IntKind.i64.wrap ((deep : Int) + 1))) rfl rfl HCal.out ?_; rintro u w2 ⟨v2, cs2, rfl, hst2, hf2, hm2, hn2⟩; have h2 := HJ1.out.drew.keep hf2 hst2 hm2 hn2 (by omega); have cK2 := h2.cK; have cK2a := h2.cKa; simp only [natv])
                  | (refine step_append rfl (.tmp 40) (.tmp 45) 40 rfl 0 3 i0 (.int .i64 0) 1 8 Tryd.underlying40 hii hz0 hz1 hz2 rfl (by decide) _ ks.length (ks.map natv) rfl (h2.own.kids.alloc _) _ 1 1 [natv y.1] rfl rfl (cells_new _ [natv y.1] 3 _ (by simp)) (ints_one _) (by have := h2.st.le; unfold maxLen; omega) (by have := h2.st.le; omega) (by simp) ?_; intro v3 w3 hown3 hg3 hm3; obtain ⟨ka3, kc3, rfl⟩ := own_shape hown3; have HP := hide (h2.addKid' (by omega) (by have := h2.nle; omega) hown3 hg3 hm3); have hv3 := h2.v3 hg3 h2.kne; have cV3 := cell_of_row w3 w.heap.size 5 _ _ _ hv3; have fV3 := frozen_of_row w3 w.heap.size 5 _ _ hv3; simp only [List.getElem?_toArray, List.getElem?_cons_succ, List.getElem?_cons_zero] at cV3))
                all_goals
                  clear h2 hst2 hf2 hm2 hn2 hown3 hg3 hm3 hv3 cK2 cK2a
                  have HNX := hide (badH (next_good HE.out HP.out.st.sc (by omega)) HA2.out)
                  go_wp2_with (go_at_call 23; refine HNX.out.mono ?_; rintro e w5 ⟨rfl, q5, hq5, hs5, hf5⟩; have e1 := hs5.rd.c1; have g1 := hs5.rd.f 1; have H5 := hide ((HP.out.scan hf5 hs5).scan ((Fr.refl R none w5).setR 1 (.int .i64 ((q5 : Int) + 1))) (hs5.stepZ (a' := q5 + 1) (by omega) (by omega))); clear hs5 hf5)
                  go_roundg gk'
                  case measure => omega
                  case rel => exact .inr ⟨xb, cb, _, _, y.2, q5 + 1, v2, cs2, _, _, _, _, H5.out, HB.out, hcb, by omega, by have := HG.out.2.2.2.2.2.1; omega⟩
              | ok c2 p1 =>
                have hp1 := (aheadM_at hA2).2.1
                have hp2 := (aheadM_at hA2).2.2
                have hw44 := want_at hA2
                have HA2 := hide hA2
                have hge : (0 : Int) ≤ (c2 : Int) := by omega
                by_cases hce : c2 = 125
                · subst hce
                  have HB : Hid (M0 = .ok ((ns ++ [nm]), ks ++ [y.1], y.2) (p1 + 1)) := by show _ = _; rw [← HL2.out, hA2]; rfl
                  clear hA2 HL2 hw44
                  go_wp2_with (go_at_call 37; refine HNM.out.mono ?_; rintro e wn ⟨rfl, na1, nc1, hj1⟩; have HJ1 := hide hj1; have cK := hj1.cK; have cKd := hj1.drew.cK; have HCal := HCalF.out wn _ _ hj1; clear hj1)
                  go_region_law (first
                    | (refine step_call2 rfl 16 (.tmp 41) (.tmp 43) 43 3 rfl hent16 (.pointer (some ⟨R, 0, none⟩)) (.int .i64 (IntKind.i64.wrap ((deep : Int) + 1))) rfl rfl HCal.out ?_; rintro u w2 ⟨v2, cs2, rfl, hst2, hf2, hm2, hn2⟩; have h2 := HJ1.out.drew.keep hf2 hst2 hm2 hn2 (by omega); have cK2 := h2.cK; have cK2a := h2.cKa; simp only [natv])
                    | (refine step_append rfl (.tmp 40) (.tmp 45) 40 rfl 0 3 i0 (.int .i64 0) 1 8 Tryd.underlying40 hii hz0 hz1 hz2 rfl (by decide) _ ks.length (ks.map natv) rfl (h2.own.kids.alloc _) _ 1 1 [natv y.1] rfl rfl (cells_new _ [natv y.1] 3 _ (by simp)) (ints_one _) (by have := h2.st.le; unfold maxLen; omega) (by have := h2.st.le; omega) (by simp) ?_; intro v3 w3 hown3 hg3 hm3; obtain ⟨ka3, kc3, rfl⟩ := own_shape hown3; have HP := hide (h2.addKid' (by omega) (by have := h2.nle; omega) hown3 hg3 hm3); have hv3 := h2.v3 hg3 h2.kne; have cV3 := cell_of_row w3 w.heap.size 5 _ _ _ hv3; have fV3 := frozen_of_row w3 w.heap.size 5 _ _ hv3; simp only [List.getElem?_toArray, List.getElem?_cons_succ, List.getElem?_cons_zero] at cV3))
                  all_goals
                    clear h2 hst2 hf2 hm2 hn2 hown3 hg3 hm3 hv3 cK2 cK2a
                    have HNX := hide (okH (next_good HE.out HP.out.st.sc (by omega)) HA2.out)
                    go_wp2_with (first
                      | (go_at_call 23; refine HNX.out.mono ?_; rintro e w5 ⟨rfl, hs5, hf5⟩; have e1 := hs5.rd.c1; have g1 := hs5.rd.f 1; have H5 := hide ((HP.out.scan hf5 hs5).scan ((Fr.refl R none w5).setR 1 (.int .i64 ((p1 : Int) + 1))) (hs5.stepZ (a' := p1 + 1) (by omega) (by omega))); obtain ⟨k0, k1, k2, k3, k4, k5⟩ := H5.out.six; clear hs5 hf5)
                      | (go_at_call 25; refine (put_len (v0 := v) (T0 := T) (n := n + 3) (from_ := from_) H5.out (by have := HG.out.2.2.2.2.2.1; omega) (by omega) rfl (by simp) (by simp)).mono ?_; intro e w6 hD; have HD := hide hD; clear hD; obtain ⟨u, rfl⟩ := DoneRV.ret HD.out))
                    go_ret
                    rw [HM.out, HB.out]
                    exact HD.out
                · have hce1 : ((c2 : Int) == 125) = false := by simp; omega
                  have hce2 : ((c2 : Int) != 125) = true := by simp; omega
                  by_cases hcm : c2 = 44
                  · subst hcm
                    have HB : Hid (eachL B 125 (objK B sub) gk' ((ns ++ [nm]), ks ++ [y.1], y.2) (p1 + 1) = M0) := by show _ = _; rw [← HL2.out, hA2]; simp [Res.andThen, hw44]
                    clear hA2 HL2 hw44
                    go_wp2_with (go_at_call 37; refine HNM.out.mono ?_; rintro e wn ⟨rfl, na1, nc1, hj1⟩; have HJ1 := hide hj1; have cK := hj1.cK; have cKd := hj1.drew.cK; have HCal := HCalF.out wn _ _ hj1; clear hj1)
                    go_region_law (first
                      | (refine step_call2 rfl 16 (.tmp 41) (.tmp 43) 43 3 rfl hent16 (.pointer (some ⟨R, 0, none⟩)) (.int .i64 (IntKind.i64.wrap ((deep : Int) + 1))) rfl rfl HCal.out ?_; rintro u w2 ⟨v2, cs2, rfl, hst2, hf2, hm2, hn2⟩; have h2 := HJ1.out.drew.keep hf2 hst2 hm2 hn2 (by omega); have cK2 := h2.cK; have cK2a := h2.cKa; simp only [natv])
                      | (refine step_append rfl (.tmp 40) (.tmp 45) 40 rfl 0 3 i0 (.int .i64 0) 1 8 Tryd.underlying40 hii hz0 hz1 hz2 rfl (by decide) _ ks.length (ks.map natv) rfl (h2.own.kids.alloc _) _ 1 1 [natv y.1] rfl rfl (cells_new _ [natv y.1] 3 _ (by simp)) (ints_one _) (by have := h2.st.le; unfold maxLen; omega) (by have := h2.st.le; omega) (by simp) ?_; intro v3 w3 hown3 hg3 hm3; obtain ⟨ka3, kc3, rfl⟩ := own_shape hown3; have HP := hide (h2.addKid' (by omega) (by have := h2.nle; omega) hown3 hg3 hm3); have hv3 := h2.v3 hg3 h2.kne; have cV3 := cell_of_row w3 w.heap.size 5 _ _ _ hv3; have fV3 := frozen_of_row w3 w.heap.size 5 _ _ hv3; simp only [List.getElem?_toArray, List.getElem?_cons_succ, List.getElem?_cons_zero] at cV3))
                    all_goals
                      clear h2 hst2 hf2 hm2 hn2 hown3 hg3 hm3 hv3 cK2 cK2a
                      have HNX := hide (okH (next_good HE.out HP.out.st.sc (by omega)) HA2.out)
                      go_wp2_with (go_at_call 23; refine HNX.out.mono ?_; rintro e w5 ⟨rfl, hs5, hf5⟩; have e1 := hs5.rd.c1; have g1 := hs5.rd.f 1; have H5 := hide ((HP.out.scan hf5 hs5).scan ((Fr.refl R none w5).setR 1 (.int .i64 ((p1 : Int) + 1))) (hs5.stepZ (a' := p1 + 1) (by omega) (by omega))); clear hs5 hf5)
                      go_roundg gk'
                      case measure => omega
                      case rel => exact .inl ⟨ns ++ [nm], ks ++ [y.1], y.2, p1 + 1, v2, cs2, _, _, _, _, H5.out, HB.out, by omega, by omega, by simp; omega, by have := HG.out.2.2.2.2.2.1; omega, by simp; have := HG.out.2.2.2.2.2.2; omega⟩
                  · have hcm2 : ((c2 : Int) != 44) = true := by simp; omega
                    have HB : Hid (M0 = .bad p1 22) := by show _ = _; rw [← HL2.out, hA2]; simp [Res.andThen, hw44, hce, hcm]
                    clear hA2 HL2 hw44
                    go_wp2_with (go_at_call 37; refine HNM.out.mono ?_; rintro e wn ⟨rfl, na1, nc1, hj1⟩; have HJ1 := hide hj1; have cK := hj1.cK; have cKd := hj1.drew.cK; have HCal := HCalF.out wn _ _ hj1; clear hj1)
                    go_region_law (first
                      | (refine step_call2 rfl 16 (.tmp 41) (.tmp 43) 43 3 rfl hent16 (.pointer (some ⟨R, 0, none⟩)) (.int .i64 (IntKind.i64.wrap ((deep : Int) + 1))) rfl rfl HCal.out ?_; rintro u w2 ⟨v2, cs2, rfl, hst2, hf2, hm2, hn2⟩; have h2 := HJ1.out.drew.keep hf2 hst2 hm2 hn2 (by omega); have cK2 := h2.cK; have cK2a := h2.cKa; simp only [natv])
                      | (refine step_append rfl (.tmp 40) (.tmp 45) 40 rfl 0 3 i0 (.int .i64 0) 1 8 Tryd.underlying40 hii hz0 hz1 hz2 rfl (by decide) _ ks.length (ks.map natv) rfl (h2.own.kids.alloc _) _ 1 1 [natv y.1] rfl rfl (cells_new _ [natv y.1] 3 _ (by simp)) (ints_one _) (by have := h2.st.le; unfold maxLen; omega) (by have := h2.st.le; omega) (by simp) ?_; intro v3 w3 hown3 hg3 hm3; obtain ⟨ka3, kc3, rfl⟩ := own_shape hown3; have HP := hide (h2.addKid' (by omega) (by have := h2.nle; omega) hown3 hg3 hm3); have hv3 := h2.v3 hg3 h2.kne; have cV3 := cell_of_row w3 w.heap.size 5 _ _ _ hv3; have fV3 := frozen_of_row w3 w.heap.size 5 _ _ hv3; simp only [List.getElem?_toArray, List.getElem?_cons_succ, List.getElem?_cons_zero] at cV3))
                    all_goals
                      clear h2 hst2 hf2 hm2 hn2 hown3 hg3 hm3 hv3 cK2 cK2a
                      have HNX := hide (okH (next_good HE.out HP.out.st.sc (by omega)) HA2.out)
                      go_wp2_with (first
                        | (go_at_call 23; refine HNX.out.mono ?_; rintro e w5 ⟨rfl, hs5, hf5⟩; have e1 := hs5.rd.c1; have H5 := hide (And.intro (HP.out.scan hf5 hs5) hs5); clear hs5 hf5)
                        | (go_at_call 18; refine (no_good H5.out.2 p1 22).mono ?_; rintro e w6 ⟨rfl, hs6, hf6⟩; have e1 := hs6.rd.c1; have g1 := hs6.rd.f 1; have H6 := hide ((H5.out.1.scan hf6 hs6).scan ((Fr.refl R none w6).setR 1 (.int .i64 ((p1 : Int) + 1))) (hs6.stepZ (a' := p1 + 1) (by omega) (by omega))); clear hs6 hf6))
                      go_roundg gk'
                      case measure => omega
                      case rel => exact .inr ⟨p1, 22, _, _, y.2, p1 + 1, v2, cs2, _, _, _, _, H6.out, HB.out, by decide, by omega, by have := HG.out.2.2.2.2.2.1; omega⟩


        · have c2 := HG.out.1.st.sc.rd.c2
          have hc1 : ((c' : Int) == 0) = false := by have := HG.out.2.2.1; simp; omega
          go_wp2
          go_ret
          rw [HM.out, HG.out.2.1]
          obtain ⟨f1, f2, f3⟩ := HG.out.1.badfin
          exact ⟨rfl, a', v', T', cs', by have := HG.out.2.2.2.1; omega, HG.out.1.st, f1, f2, f3, HG.out.2.2.2.2⟩
end
end Go.Proofs.YtkpfiopgnobcdaaDoor
