/-
  Several texts in one: Cat Pts.
-/
import Derived.Test.YtgjpkpmikbpcnaaQGrwG
namespace Go.Proofs.Ytgjpkpmikbpcnaa
open Go.RowKit
/-- Slices of visits, as a list of them: each one's values, and what is read. -/
structure CatV (w : World) (ad : Addr) (vs : List (Option Addr × Nat × List Vst)) : Prop where
  cell : ∀ (k : Nat) a c V, vs[k]? = some (a, c, V) → w.cell? (ad.add k) = some (.slice a V.length c) ∧ VsV w (.slice a V.length c) V ∧ (a = none → c = 0)
def catL (vs : List (Option Addr × Nat × List Vst)) : List Vst := (vs.map fun z => z.2.2).flatten
theorem catL_step {vs : List (Option Addr × Nat × List Vst)} {q : Nat} {z : Option Addr × Nat × List Vst} (h : vs[q]? = some z) : catL (vs.take (q + 1)) = catL (vs.take q) ++ z.2.2 := by
  obtain ⟨hk, e⟩ := List.getElem?_eq_some_iff.1 h
  unfold catL
  rw [List.take_succ_eq_append_getElem hk, e, List.map_append, List.flatten_append]
  simp
theorem catL_le {vs : List (Option Addr × Nat × List Vst)} (q : Nat) : (catL (vs.take q)).length ≤ (catL vs).length := by
  have : catL vs = catL (vs.take q) ++ catL (vs.drop q) := by
    unfold catL
    rw [← List.flatten_append, ← List.map_append, List.take_append_drop]
  rw [this, List.length_append]
  omega
theorem CatV.on {w w' : World} {b : Nat} {vs : List (Option Addr × Nat × List Vst)} (h : CatV w ⟨b, 0, none⟩ vs) (hb : b < w.heap.size) (f : Below w.heap.size w w') : CatV w' ⟨b, 0, none⟩ vs := ⟨fun k a c V hk => by
  obtain ⟨h1, h2, h3⟩ := h.cell k a c V hk
  rw [add0] at h1 ⊢
  exact ⟨((bcell f).1 _ _ hb).trans h1, PrV.on h2 f, h3⟩⟩
set_option maxRecDepth 100000 in
set_option maxHeartbeats 6400000 in
theorem concat_any {w : World} {b n c : Nat} {vs : List (Option Addr × Nat × List Vst)} (h : CatV w ⟨b, 0, none⟩ vs) (hb : b < w.heap.size) (hn : vs.length = n) (h0 : 0 < (catL vs).length) (h1 : (catL vs).length ≤ 1000) (hn2 : n ≤ 1000) : Calls Try.prog 126 #[.slice (some ⟨b, 0, none⟩) n c] w fun e w' => ∃ v, e = .returned v ∧ VRow w' w.heap.size v (catL vs) ∧ Below w.heap.size w w' := by
  have H := hide h
  have HN := hide hn
  clear h hn
  obtain ⟨tot, htot⟩ : ∃ q, (catL vs).length = q := ⟨_, rfl⟩
  rw [htot] at h0 h1
  have HTOT := hide htot
  clear htot
  go_enter Try.func126, Try.ntmps126
  go_wp2_with fail
  go_loopw [11, 3] (fun vi v3 wr => ∃ q s : Nat, vi = .int .i64 q ∧ v3 = .int .i64 s ∧ q ≤ n ∧ s ≤ tot ∧ Hid ((catL (vs.take q)).length = s) ∧ Hid (Below w.heap.size w wr)) (fun vi _ _ => n - (intOf vi).toNat)
  case atStart => exact ⟨0, 0, rfl, rfl, Nat.zero_le _, Nat.zero_le _, rfl, Below.refl _ _⟩
  case round =>
    obtain ⟨q, s, rfl, rfl, hq, hst, HS, HB⟩ := hrel
    by_cases hqn : q < n
    · have i1 : (q : Int) < (n : Int) := by omega
      have i2 : (0 : Int) ≤ (q : Int) := by omega
      have i3 : ¬ (n : Int) ≤ (q : Int) := by omega
      obtain ⟨⟨a, c', V⟩, hu⟩ : ∃ u, vs[q]? = some u := ⟨_, List.getElem?_eq_getElem (by rw [HN.out]; exact hqn)⟩
      have c1 := ((H.out.on hb HB.out).cell q a c' V hu).1
      rw [add0] at c1
      obtain ⟨l, hl⟩ : ∃ z, V.length = z := ⟨_, rfl⟩
      rw [hl] at c1
      have hs2 : (catL (vs.take (q + 1))).length = s + l := by rw [catL_step hu, List.length_append, HS.out, hl]
      have hle : s + l ≤ tot := by rw [← hs2, ← HTOT.out]; exact catL_le _
      have hw : IntKind.i64.wrap ((s : Int) + (l : Int)) = ((s + l : Nat) : Int) := by rw [IntKind.wrap_i64]; omega
      have i4 : ¬ ((s + l : Nat) : Int) < 0 := by omega
      have i5 : ¬ (s : Int) + (l : Int) < 0 := by omega
      have HS2 := hide hs2
      clear hu hl hs2
      go_wp2_with fail
      go_roundw
      case rel => exact ⟨q + 1, s + l, by go_num, by first | rfl | (simp; omega), by omega, hle, HS2.out, HB.out⟩
      case measure => simp [intOf]; omega
    · have i1 : ¬ (q : Int) < (n : Int) := by omega
      have hse : s = tot := by rw [← HS.out, List.take_of_length_le (by rw [HN.out]; omega)]; exact HTOT.out
      subst hse
      clear HS
      go_wp2_with (first | (go_at_call 134; refine (grow_nil _ s h0 h1).mono ?_; rintro e w1 ⟨cap, rfl, r1, k1⟩; have HV1 : Hid (VRow w1 w.heap.size _ (catL (vs.take 0))) := own_mono r1 HB.out.size; have E1 := hide (below_on HB.out k1); clear r1 k1) | fail)
      go_loopw [27, 6] (fun vi v6 wr => ∃ (q s : Nat) (va : Option Addr) (vc : Nat), vi = .int .i64 q ∧ v6 = .slice va s vc ∧ q ≤ n ∧ Hid ((catL (vs.take q)).length = s) ∧ Hid (VRow wr w.heap.size (.slice va s vc) (catL (vs.take q))) ∧ Hid (Below w.heap.size w wr)) (fun vi _ _ => n - (intOf vi).toNat)
      case atStart => exact ⟨0, 0, _, _, rfl, rfl, Nat.zero_le _, rfl, HV1.out, E1.out⟩
      case round =>
        clear HV1 E1 HB
        obtain ⟨q, s2, va, vc, rfl, rfl, hq, HS, HR, HB⟩ := hrel
        by_cases hqn : q < n
        · have i1 : (q : Int) < (n : Int) := by omega
          have i2 : (0 : Int) ≤ (q : Int) := by omega
          have i3 : ¬ (n : Int) ≤ (q : Int) := by omega
          obtain ⟨⟨a, c', V⟩, hu⟩ : ∃ u, vs[q]? = some u := ⟨_, List.getElem?_eq_getElem (by rw [HN.out]; exact hqn)⟩
          obtain ⟨c1, hv, hz⟩ := (H.out.on hb HB.out).cell q a c' V hu
          rw [add0] at c1
          obtain ⟨l, hl⟩ : ∃ z, V.length = z := ⟨_, rfl⟩
          rw [hl] at c1 hv
          have hs2 : (catL (vs.take (q + 1))).length = s2 + l := by rw [catL_step hu, List.length_append, HS.out, hl]
          have hle : s2 + l ≤ 1000 := by rw [← hs2]; have h8 := catL_le (vs := vs) (q + 1); have h9 := HTOT.out; omega
          have HS2 := hide hs2
          have HST := hide (catL_step hu)
          have HVV := hide hv
          have HZ := hide hz
          have HLV := hide hl
          clear hl hs2 hv hz
          go_wp2_with (first | (at_builtin; refine app_vis (.tmp 31) (.tmp 32) rfl rfl rfl rfl HR.out HS.out HVV.out HLV.out HZ.out hle HB.out.size ?_; intro va2 c2 w2 r1 r2 _; have HR2 := hide r1; have B2 : Hid (Below w.heap.size w w2) := HB.out.trans r2; clear r1 r2) | fail)
          go_roundw
          case rel => exact ⟨q + 1, s2 + l, va2, c2, by go_num, rfl, by omega, HS2.out, by rw [HST.out]; exact HR2.out, B2.out⟩
          case measure => simp [intOf]; omega
        · have i1 : ¬ (q : Int) < (n : Int) := by omega
          have HT : Hid (catL (vs.take q) = catL vs) := by show _ = _; rw [List.take_of_length_le (by rw [HN.out]; omega)]
          go_wp2
          go_ret
          exact ⟨_, rfl, by have h9 := HR.out; rw [HT.out] at h9; exact h9, HB.out⟩
end Go.Proofs.Ytgjpkpmikbpcnaa
namespace Go.Proofs.Ytgjpkpmikbpcnaa
open Go.RowKit
theorem one_vs {w : World} {B : Nat} {k i : Int} (h : w.heap[B]? = some (.cells #[.int .i64 k, .int .i64 i] 34)) : VsV w (.slice (some ⟨B, 0, none⟩) 1 1) [(k, i)] := by
  refine ⟨some ⟨B, 0, none⟩, 1, rfl, by simp, fun q hq => ?_⟩
  have hq0 : q = 0 := by simp at hq; omega
  subst hq0
  exact ⟨B, 0, rfl, cell_of_row _ _ _ _ _ _ h, cell_of_row _ _ _ _ _ _ h⟩
set_option maxRecDepth 100000 in
set_option maxHeartbeats 6400000 in
theorem points_any {w : World} {x : PrbS} {p : Prb} {k m vc : Nat} {va : Option Addr} {V : List Vst} (h : PrbV w x p) (hV : VsV w (.slice va m vc) V) (hm : V.length = m) (hm2 : m ≤ 110) (hz : va = none → vc = 0) : Calls Try.prog 105 #[.agg (tourE p x k (.slice va m vc))] w fun e w' => ∃ v, e = .returned v ∧ VsV w' v (pointsM V) ∧ Below w.heap.size w w' := by
  have HZ := hide hz
  clear hz
  have HB0 : Hid (∀ A, Below w.heap.size w (w.alloc A)) := fun A => (Below.refl _ _).alloc (Nat.le_refl _) A
  have HP := hide h
  have HV := hide hV
  have HM := hide hm
  have hmb : m * 16 ≤ 140737488351232 := by obtain ⟨_, _, e, hb, _⟩ := hV; rw [← hm]; exact hb
  clear hV hm
  obtain ⟨ta, tc, da, dc, va', vc', ja, jc, sa, sc, rfl⟩ := h.open
  clear h
  have HTE : Hid (tourE p ⟨.slice ta p.time.cells.length tc, .slice da p.dist.cells.length dc, .slice va' p.vs.length vc', .slice ja p.js.length jc, .slice sa p.ss.length sc⟩ k (.slice va m vc) = #[.int .i64 p.dims, .int .i64 p.time.n, .slice ta p.time.cells.length tc, .int .i64 p.dist.n, .slice da p.dist.cells.length dc, .slice va' p.vs.length vc', .slice ja p.js.length jc, .slice sa p.ss.length sc, .int .i64 k, .slice va m vc]) := rfl
  rw [HTE.out]
  obtain ⟨W, hW⟩ : ∃ W, W = w.alloc (.cells #[.int .i64 p.dims, .int .i64 p.time.n, .slice ta p.time.cells.length tc, .int .i64 p.dist.n, .slice da p.dist.cells.length dc, .slice va' p.vs.length vc', .slice ja p.js.length jc, .slice sa p.ss.length sc, .int .i64 k, .slice va m vc] 121) := ⟨_, rfl⟩
  have HBW : Hid (Below w.heap.size w W) := by rw [hW]; exact HB0.out _
  have HLW : Hid (w.heap.size < W.heap.size) := by show _ < _; rw [hW]; simp
  have HC : Hid (∀ j, W.cell? ⟨w.heap.size, j, none⟩ = (#[.int .i64 p.dims, .int .i64 p.time.n, .slice ta p.time.cells.length tc, .int .i64 p.dist.n, .slice da p.dist.cells.length dc, .slice va' p.vs.length vc', .slice ja p.js.length jc, .slice sa p.ss.length sc, .int .i64 k, .slice va m vc] : Array Value)[j]?) := fun j => by rw [hW]; exact cell_of_row _ _ _ _ _ _ (heap_alloc_new w _)
  have HX : Hid (Calls Try.prog 126 #[.slice (some ⟨W.heap.size + 1 + 1, 0, none⟩) 3 3] (((W.alloc (.cells #[.int .i64 5, .int .i64 0] 34)).alloc (.cells #[.int .i64 6, .int .i64 0] 34)).alloc (.cells #[.slice (some ⟨W.heap.size, 0, none⟩) 1 1, .slice va m vc, .slice (some ⟨W.heap.size + 1, 0, none⟩) 1 1] 55)) fun e w' => ∃ v, e = .returned v ∧ VsV w' v (pointsM V) ∧ Below W.heap.size W w') := by
    have f1 : Below W.heap.size W (W.alloc (.cells #[.int .i64 5, .int .i64 0] 34)) := (Below.refl _ _).alloc (Nat.le_refl _) _
    have e1 : (W.alloc (.cells #[.int .i64 5, .int .i64 0] 34)).heap.size = W.heap.size + 1 := by simp
    have b1 := new_block W (.cells #[.int .i64 5, .int .i64 0] 34)
    obtain ⟨X1, hX1⟩ : ∃ X1, W.alloc (.cells #[.int .i64 5, .int .i64 0] 34) = X1 := ⟨_, rfl⟩
    rw [hX1] at f1 e1 b1 ⊢
    have f2 : Below X1.heap.size X1 (X1.alloc (.cells #[.int .i64 6, .int .i64 0] 34)) := (Below.refl _ _).alloc (Nat.le_refl _) _
    have e2 : (X1.alloc (.cells #[.int .i64 6, .int .i64 0] 34)).heap.size = W.heap.size + 1 + 1 := by simp; exact e1
    have b2 := new_block X1 (.cells #[.int .i64 6, .int .i64 0] 34)
    rw [e1] at b2
    have b1' := (f2.block W.heap.size (by omega)).trans b1
    obtain ⟨X2, hX2⟩ : ∃ X2, X1.alloc (.cells #[.int .i64 6, .int .i64 0] 34) = X2 := ⟨_, rfl⟩
    rw [hX2] at f2 e2 b2 b1' ⊢
    have f3 : Below X2.heap.size X2 (X2.alloc (.cells #[.slice (some ⟨W.heap.size, 0, none⟩) 1 1, .slice va m vc, .slice (some ⟨W.heap.size + 1, 0, none⟩) 1 1] 55)) := (Below.refl _ _).alloc (Nat.le_refl _) _
    have e3 : (X2.alloc (.cells #[.slice (some ⟨W.heap.size, 0, none⟩) 1 1, .slice va m vc, .slice (some ⟨W.heap.size + 1, 0, none⟩) 1 1] 55)).heap.size = W.heap.size + 1 + 1 + 1 := by simp; exact e2
    have b3 := new_block X2 (.cells #[.slice (some ⟨W.heap.size, 0, none⟩) 1 1, .slice va m vc, .slice (some ⟨W.heap.size + 1, 0, none⟩) 1 1] 55)
    rw [e2] at b3
    have b2' := (f3.block (W.heap.size + 1) (by omega)).trans b2
    have b1'' := (f3.block W.heap.size (by omega)).trans b1'
    obtain ⟨X, hX⟩ : ∃ X, X2.alloc (.cells #[.slice (some ⟨W.heap.size, 0, none⟩) 1 1, .slice va m vc, .slice (some ⟨W.heap.size + 1, 0, none⟩) 1 1] 55) = X := ⟨_, rfl⟩
    rw [hX] at f3 e3 b3 b2' b1'' ⊢
    have fX : Below W.heap.size W X := below_on f1 (below_on f2 f3)
    have hc : CatV X ⟨W.heap.size + 1 + 1, 0, none⟩ [(some ⟨W.heap.size, 0, none⟩, 1, [(5, 0)]), (va, vc, V), (some ⟨W.heap.size + 1, 0, none⟩, 1, [(6, 0)])] := ⟨fun q a c V' hq => by
      rw [add0, cell_of_row _ _ _ _ _ _ b3]
      rcases q with _ | _ | _ | q
      · simp at hq; obtain ⟨rfl, rfl, rfl⟩ := hq; exact ⟨rfl, one_vs b1'', fun e => by cases e⟩
      · simp at hq; obtain ⟨rfl, rfl, rfl⟩ := hq; rw [HM.out]; exact ⟨rfl, PrV.on HV.out (below_on HBW.out fX), HZ.out⟩
      · simp at hq; obtain ⟨rfl, rfl, rfl⟩ := hq; exact ⟨rfl, one_vs b2', fun e => by cases e⟩
      · simp at hq⟩
    have hcl : catL [(some ⟨W.heap.size, 0, none⟩, 1, [(5, 0)]), (va, vc, V), (some ⟨W.heap.size + 1, 0, none⟩, 1, [(6, 0)])] = pointsM V := by simp [catL, pointsM]
    refine (concat_any (n := 3) (c := 3) hc (by omega) rfl (by rw [hcl, pointsM_len]; omega) (by rw [hcl, pointsM_len, HM.out]; omega) (by omega)).mono ?_
    rintro e w' ⟨v, rfl, r1, r2⟩
    rw [hcl] at r1
    exact ⟨v, rfl, r1.vs (by rw [pointsM_len, HM.out]; omega), below_on fX r2⟩
  have HWS : Hid (W.heap.size = w.heap.size + 1) := by show _ = _; rw [hW]; simp
  rw [HWS.out] at HX
  go_enter Try.func105, Try.ntmps105
  go_wp2_with fail
  rw [← hW]
  clear hW
  have b0 : W.cell? ⟨w.heap.size, 0, none⟩ = some (.int .i64 p.dims) := ((bcell (Below.refl _ _)).1 _ 0 HLW.out).trans (HC.out 0)
  have b1 : W.cell? ⟨w.heap.size, 1, none⟩ = some (.int .i64 p.time.n) := ((bcell (Below.refl _ _)).1 _ 1 HLW.out).trans (HC.out 1)
  have b2 : W.cell? ⟨w.heap.size, 2, none⟩ = some (.slice ta p.time.cells.length tc) := ((bcell (Below.refl _ _)).1 _ 2 HLW.out).trans (HC.out 2)
  have b3 : W.cell? ⟨w.heap.size, 3, none⟩ = some (.int .i64 p.dist.n) := ((bcell (Below.refl _ _)).1 _ 3 HLW.out).trans (HC.out 3)
  have b4 : W.cell? ⟨w.heap.size, 4, none⟩ = some (.slice da p.dist.cells.length dc) := ((bcell (Below.refl _ _)).1 _ 4 HLW.out).trans (HC.out 4)
  have b5 : W.cell? ⟨w.heap.size, 5, none⟩ = some (.slice va' p.vs.length vc') := ((bcell (Below.refl _ _)).1 _ 5 HLW.out).trans (HC.out 5)
  have b6 : W.cell? ⟨w.heap.size, 6, none⟩ = some (.slice ja p.js.length jc) := ((bcell (Below.refl _ _)).1 _ 6 HLW.out).trans (HC.out 6)
  have b7 : W.cell? ⟨w.heap.size, 7, none⟩ = some (.slice sa p.ss.length sc) := ((bcell (Below.refl _ _)).1 _ 7 HLW.out).trans (HC.out 7)
  have b8 : W.cell? ⟨w.heap.size, 8, none⟩ = some (.int .i64 k) := ((bcell (Below.refl _ _)).1 _ 8 HLW.out).trans (HC.out 8)
  have b9 : W.cell? ⟨w.heap.size, 9, none⟩ = some (.slice va m vc) := ((bcell (Below.refl _ _)).1 _ 9 HLW.out).trans (HC.out 9)
  go_wp2_with (first | (go_at_call 126; refine HX.out.mono ?_; rintro e w1 ⟨v, rfl, r1, r2⟩; have HR := hide r1; have E1 := hide r2; clear r1 r2) | fail)
  go_ret
  exact ⟨_, rfl, HR.out, below_on HBW.out (by rw [HWS.out]; exact E1.out)⟩
end Go.Proofs.Ytgjpkpmikbpcnaa
