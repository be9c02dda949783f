/-
  What the law PlanLoads does.
-/
import Derived.Deep.RegionHeld3
import Derived.Test.YtgjpkpmikbpcnaaQAwkPG
import Derived.Test.YtgjpkpmikbpcnaaQRLdW
import Derived.Test.YtgjpkpmikbpcnaaQCpVG
import Derived.Test.YtgjpkpmikbpcnaaQCpX
import Derived.Test.YtgjpkpmikbpcnaaQRChk
import Derived.Test.YtgjpkpmikbpcnaaQTskG
import Derived.Test.YtgjpkpmikbpcnaaQLods
namespace Go.Proofs.Ytgjpkpmikbpcnaa
open Go.RowKit
theorem umod_nat (i : Int) (m : Nat) (hm : m ≤ 1000) : ∃ r : Nat, Int.tmod (IntKind.u64.wrap i) ((m : Int) + 1) = r ∧ r ≤ m := by
  have h0 : 0 ≤ IntKind.u64.wrap i := by rw [IntKind.wrap_u64]; omega
  have h1 := Int.tmod_nonneg ((m : Int) + 1) h0
  have h2 := Int.tmod_lt_of_pos (IntKind.u64.wrap i) (show (0 : Int) < (m : Int) + 1 by omega)
  exact ⟨(Int.tmod (IntKind.u64.wrap i) ((m : Int) + 1)).toNat, by omega, by omega⟩
theorem ld_get {w : World} {base n c k : Nat} {a : Option Addr} {LL : List (List Int)} {ys : List Value} {xs : List Int} (h : LdS w base (.slice a n c) LL ys) (hx : LL[k]? = some xs) : ∃ g y1 yc, a = some ⟨g, 0, none⟩ ∧ g < w.heap.size ∧ w.cell? ⟨g, k, none⟩ = some (.slice y1 xs.length yc) ∧ IntsAt w y1 xs := by
  obtain ⟨y, g, cap, hy, hg, _, hlt⟩ := RowS.some h hx
  injection hg with hg1 hg2 hg3
  subst hg1 hg3
  have hc := RowS.cells (z := 1) (fun _ _ => rfl) h hx hy 0 (by decide)
  obtain ⟨hs, _, _⟩ := h.sat k xs y hx hy
  obtain ⟨y1, yc, rfl⟩ := IRow.shape hs
  exact ⟨g, y1, yc, rfl, hlt, by rw [Nat.mul_one] at hc; exact hc, IRow.ints hs⟩
theorem same_self (xs : List Int) : Ld.sameB xs xs = true := by
  unfold Ld.sameB
  simp
theorem two_ints {w : World} {a b : Int} : IntsAt (w.alloc (.cells #[.int .i64 a, .int .i64 b] 3)) (some ⟨w.heap.size, 0, none⟩) [a, b] := fun k hk => by
  have e := heap_alloc_new w (.cells #[.int .i64 a, .int .i64 b] 3)
  refine ⟨w.heap.size, 0, rfl, ?_⟩
  rw [cell_of_row _ _ _ _ _ _ e]
  have : k = 0 ∨ k = 1 := by simp at hk; omega
  rcases this with rfl | rfl <;> rfl
set_option maxRecDepth 100000 in
set_option maxHeartbeats 12800000 in
theorem loaL_any {w : World} {x : PrbS} {p : Prb} {m vc : Nat} {va : Option Addr} {V : List Vst} (h : PrbV w x p) (hV : VsV w (.slice va m vc) V) (hm : V.length = m) (hz : va = none → vc = 0) (xi xk : Int) : Calls Try.prog 9 #[.agg (prbE p x), .slice va m vc, .int .i64 xi, .int .i64 xk] w fun e w' => e = .returned (.bool true) ∧ Below w.heap.size w w' := by
  have HP := hide h
  have HV := hide hV
  have HM := hide hm
  have HZ := hide hz
  have hmb : m * 16 ≤ 140737488351232 := by obtain ⟨_, _, e, hb, _⟩ := hV; rw [← hm]; exact hb
  clear hV hm hz
  obtain ⟨ta, tc, da, dc, va', vc', ja, jc, sa, sc, rfl⟩ := h.open
  clear h
  obtain ⟨bb, hbb⟩ : ∃ b, lawM p = b := ⟨_, rfl⟩
  have HL := hide hbb
  clear hbb
  have HTE : Hid (prbE p ⟨.slice ta p.time.cells.length tc, .slice da p.dist.cells.length dc, .slice va' p.vs.length vc', .slice ja p.js.length jc, .slice sa p.ss.length sc⟩ = #[.int .i64 p.dims, .int .i64 p.time.n, .slice ta p.time.cells.length tc, .int .i64 p.dist.n, .slice da p.dist.cells.length dc, .slice va' p.vs.length vc', .slice ja p.js.length jc, .slice sa p.ss.length sc]) := rfl
  rw [HTE.out]
  have H16 : Hid (∀ W2, Below w.heap.size w W2 → Calls Try.prog 16 #[.agg #[.int .i64 p.dims, .int .i64 p.time.n, .slice ta p.time.cells.length tc, .int .i64 p.dist.n, .slice da p.dist.cells.length dc, .slice va' p.vs.length vc', .slice ja p.js.length jc, .slice sa p.ss.length sc]] W2 fun e w' => e = .returned (.bool bb) ∧ Below W2.heap.size W2 w') := fun W2 hf => by have h9 := lawful12_any (HP.out.on hf); rw [HL.out] at h9; exact h9
  have H17 : Hid (∀ W2, Below w.heap.size w W2 → Calls Try.prog 17 #[.agg #[.int .i64 p.dims, .int .i64 p.time.n, .slice ta p.time.cells.length tc, .int .i64 p.dist.n, .slice da p.dist.cells.length dc, .slice va' p.vs.length vc', .slice ja p.js.length jc, .slice sa p.ss.length sc]] W2 fun e w' => ∃ x', e = .returned (.agg (prbE p x')) ∧ CpQ w' (W2.heap.size + 2) p x' ∧ Below W2.heap.size W2 w') := fun W2 hf => by have h9 := copied_any (HP.out.on hf); exact h9
  obtain ⟨W, hW⟩ : ∃ W, W = w.alloc (.cells #[.int .i64 p.dims, .int .i64 p.time.n, .slice ta p.time.cells.length tc, .int .i64 p.dist.n, .slice da p.dist.cells.length dc, .slice va' p.vs.length vc', .slice ja p.js.length jc, .slice sa p.ss.length sc] 29) := ⟨_, rfl⟩
  have HBW : Hid (Below w.heap.size w W) := by rw [hW]; exact (Below.refl _ _).alloc (Nat.le_refl _) _
  have HLW : Hid (w.heap.size < W.heap.size) := by show _ < _; rw [hW]; simp
  have HC : Hid (∀ j, W.cell? ⟨w.heap.size, j, none⟩ = (#[.int .i64 p.dims, .int .i64 p.time.n, .slice ta p.time.cells.length tc, .int .i64 p.dist.n, .slice da p.dist.cells.length dc, .slice va' p.vs.length vc', .slice ja p.js.length jc, .slice sa p.ss.length sc] : Array Value)[j]?) := fun j => by rw [hW]; exact cell_of_row _ _ _ _ _ _ (heap_alloc_new w _)
  cases bb with
  | false =>
    go_enter Try.func9, Try.ntmps9
    go_wp2_with (first | (go_at_call 16; refine (H16.out _ (below_on HBW.out E1.out)).mono ?_; rintro e w2 ⟨rfl, k2⟩; have E2 := hide (below_on E1.out k2); have pb0 : w2.cell? ⟨w.heap.size, 0, none⟩ = some (.int .i64 p.dims) := ((bcell E2.out).1 _ 0 HLW.out).trans (HC.out 0); have pb1 : w2.cell? ⟨w.heap.size, 1, none⟩ = some (.int .i64 p.time.n) := ((bcell E2.out).1 _ 1 HLW.out).trans (HC.out 1); have pb2 : w2.cell? ⟨w.heap.size, 2, none⟩ = some (.slice ta p.time.cells.length tc) := ((bcell E2.out).1 _ 2 HLW.out).trans (HC.out 2); have pb3 : w2.cell? ⟨w.heap.size, 3, none⟩ = some (.int .i64 p.dist.n) := ((bcell E2.out).1 _ 3 HLW.out).trans (HC.out 3); have pb4 : w2.cell? ⟨w.heap.size, 4, none⟩ = some (.slice da p.dist.cells.length dc) := ((bcell E2.out).1 _ 4 HLW.out).trans (HC.out 4); have pb5 : w2.cell? ⟨w.heap.size, 5, none⟩ = some (.slice va' p.vs.length vc') := ((bcell E2.out).1 _ 5 HLW.out).trans (HC.out 5); have pb6 : w2.cell? ⟨w.heap.size, 6, none⟩ = some (.slice ja p.js.length jc) := ((bcell E2.out).1 _ 6 HLW.out).trans (HC.out 6); have pb7 : w2.cell? ⟨w.heap.size, 7, none⟩ = some (.slice sa p.ss.length sc) := ((bcell E2.out).1 _ 7 HLW.out).trans (HC.out 7); clear k2 pa0 pa1 pa2 pa3 pa4 pa5 pa6 pa7) | (go_at_call 35; rw [← hW]; refine (awake13_any _).mono ?_; rintro e w1 ⟨rfl, k1⟩; have E1 := hide k1; have pa0 : w1.cell? ⟨w.heap.size, 0, none⟩ = some (.int .i64 p.dims) := ((bcell k1).1 _ 0 HLW.out).trans (HC.out 0); have pa1 : w1.cell? ⟨w.heap.size, 1, none⟩ = some (.int .i64 p.time.n) := ((bcell k1).1 _ 1 HLW.out).trans (HC.out 1); have pa2 : w1.cell? ⟨w.heap.size, 2, none⟩ = some (.slice ta p.time.cells.length tc) := ((bcell k1).1 _ 2 HLW.out).trans (HC.out 2); have pa3 : w1.cell? ⟨w.heap.size, 3, none⟩ = some (.int .i64 p.dist.n) := ((bcell k1).1 _ 3 HLW.out).trans (HC.out 3); have pa4 : w1.cell? ⟨w.heap.size, 4, none⟩ = some (.slice da p.dist.cells.length dc) := ((bcell k1).1 _ 4 HLW.out).trans (HC.out 4); have pa5 : w1.cell? ⟨w.heap.size, 5, none⟩ = some (.slice va' p.vs.length vc') := ((bcell k1).1 _ 5 HLW.out).trans (HC.out 5); have pa6 : w1.cell? ⟨w.heap.size, 6, none⟩ = some (.slice ja p.js.length jc) := ((bcell k1).1 _ 6 HLW.out).trans (HC.out 6); have pa7 : w1.cell? ⟨w.heap.size, 7, none⟩ = some (.slice sa p.ss.length sc) := ((bcell k1).1 _ 7 HLW.out).trans (HC.out 7); clear k1) | fail)
    go_ret
    exact ⟨rfl, below_on HBW.out E2.out⟩
  | true =>
  by_cases hm1 : 100 < m
  · have y1 : (m : Int) > 100 := by omega
    have y2 : (100 : Int) < (m : Int) := by omega
    go_enter Try.func9, Try.ntmps9
    go_wp2_with (first | (go_at_call 16; refine (H16.out _ (below_on HBW.out E1.out)).mono ?_; rintro e w2 ⟨rfl, k2⟩; have E2 := hide (below_on E1.out k2); have pb0 : w2.cell? ⟨w.heap.size, 0, none⟩ = some (.int .i64 p.dims) := ((bcell E2.out).1 _ 0 HLW.out).trans (HC.out 0); have pb1 : w2.cell? ⟨w.heap.size, 1, none⟩ = some (.int .i64 p.time.n) := ((bcell E2.out).1 _ 1 HLW.out).trans (HC.out 1); have pb2 : w2.cell? ⟨w.heap.size, 2, none⟩ = some (.slice ta p.time.cells.length tc) := ((bcell E2.out).1 _ 2 HLW.out).trans (HC.out 2); have pb3 : w2.cell? ⟨w.heap.size, 3, none⟩ = some (.int .i64 p.dist.n) := ((bcell E2.out).1 _ 3 HLW.out).trans (HC.out 3); have pb4 : w2.cell? ⟨w.heap.size, 4, none⟩ = some (.slice da p.dist.cells.length dc) := ((bcell E2.out).1 _ 4 HLW.out).trans (HC.out 4); have pb5 : w2.cell? ⟨w.heap.size, 5, none⟩ = some (.slice va' p.vs.length vc') := ((bcell E2.out).1 _ 5 HLW.out).trans (HC.out 5); have pb6 : w2.cell? ⟨w.heap.size, 6, none⟩ = some (.slice ja p.js.length jc) := ((bcell E2.out).1 _ 6 HLW.out).trans (HC.out 6); have pb7 : w2.cell? ⟨w.heap.size, 7, none⟩ = some (.slice sa p.ss.length sc) := ((bcell E2.out).1 _ 7 HLW.out).trans (HC.out 7); clear k2 pa0 pa1 pa2 pa3 pa4 pa5 pa6 pa7) | (go_at_call 35; rw [← hW]; refine (awake13_any _).mono ?_; rintro e w1 ⟨rfl, k1⟩; have E1 := hide k1; have pa0 : w1.cell? ⟨w.heap.size, 0, none⟩ = some (.int .i64 p.dims) := ((bcell k1).1 _ 0 HLW.out).trans (HC.out 0); have pa1 : w1.cell? ⟨w.heap.size, 1, none⟩ = some (.int .i64 p.time.n) := ((bcell k1).1 _ 1 HLW.out).trans (HC.out 1); have pa2 : w1.cell? ⟨w.heap.size, 2, none⟩ = some (.slice ta p.time.cells.length tc) := ((bcell k1).1 _ 2 HLW.out).trans (HC.out 2); have pa3 : w1.cell? ⟨w.heap.size, 3, none⟩ = some (.int .i64 p.dist.n) := ((bcell k1).1 _ 3 HLW.out).trans (HC.out 3); have pa4 : w1.cell? ⟨w.heap.size, 4, none⟩ = some (.slice da p.dist.cells.length dc) := ((bcell k1).1 _ 4 HLW.out).trans (HC.out 4); have pa5 : w1.cell? ⟨w.heap.size, 5, none⟩ = some (.slice va' p.vs.length vc') := ((bcell k1).1 _ 5 HLW.out).trans (HC.out 5); have pa6 : w1.cell? ⟨w.heap.size, 6, none⟩ = some (.slice ja p.js.length jc) := ((bcell k1).1 _ 6 HLW.out).trans (HC.out 6); have pa7 : w1.cell? ⟨w.heap.size, 7, none⟩ = some (.slice sa p.ss.length sc) := ((bcell k1).1 _ 7 HLW.out).trans (HC.out 7); clear k1) | fail)
    go_ret
    exact ⟨rfl, below_on HBW.out E2.out⟩
  · have y1 : ¬ (m : Int) > 100 := by omega
    have y2 : ¬ (100 : Int) < (m : Int) := by omega
    have hm3 : m ≤ 100 := by omega
    clear hm1
    obtain ⟨dd, hdd⟩ : ∃ dd : Nat, p.dims = dd := ⟨p.dims.toNat, by have := (ways_ok HL.out).dim; omega⟩
    have HDD := hide hdd
    have HDT : Hid (p.dims.toNat = dd) := by show _ = _; rw [hdd]; simp
    clear hdd
    have H37 : Hid (∀ W2, Below w.heap.size w W2 → Calls Try.prog 37 #[.slice va m vc] W2 fun e w' => ∃ g c, e = .returned (.slice (some ⟨g, 0, none⟩) m c) ∧ (VRow w' W2.heap.size (.slice (some ⟨g, 0, none⟩) m c) V ∧ m ≤ c) ∧ Below W2.heap.size W2 w') := fun W2 hf => by have h9 := copiedV_any (PrV.on HV.out hf) HM.out (by omega) HZ.out; exact h9
    have H42 : Hid (∀ W2 x' g c, PrbV W2 x' p → VsV W2 (.slice (some ⟨g, 0, none⟩) m c) V → Calls Try.prog 42 #[.agg (prbE p x'), .slice (some ⟨g, 0, none⟩) m c] W2 fun e w' => ∃ aa ac ys, e = .returned (.slice aa (m + 1) ac) ∧ LdS w' W2.heap.size (.slice aa (m + 1) ac) (loadsM p dd V) ys ∧ Below W2.heap.size W2 w') := fun W2 x' g c hp hv => by
      have h9 := loads_any hp HL.out hv HM.out (by omega)
      rw [HDT.out] at h9
      refine h9.mono ?_
      rintro e w' ⟨v, ys, rfl, hr, _, k9⟩
      obtain ⟨a, c, rfl⟩ := RowS.shape hr
      rw [loadsM_len, HM.out] at hr ⊢
      exact ⟨a, c, ys, rfl, hr, k9⟩
    have H43 : Hid (∀ W2, Below w.heap.size w W2 → Calls Try.prog 43 #[.agg #[.int .i64 p.dims, .int .i64 p.time.n, .slice ta p.time.cells.length tc, .int .i64 p.dist.n, .slice da p.dist.cells.length dc, .slice va' p.vs.length vc', .slice ja p.js.length jc, .slice sa p.ss.length sc], .slice va m vc] W2 fun e w' => ∃ aa ac ys, e = .returned (.slice aa (m + 1) ac) ∧ LdS w' W2.heap.size (.slice aa (m + 1) ac) ((List.range (m + 1)).map (rldM p dd V)) ys ∧ Below W2.heap.size W2 w') := fun W2 hf => by
      have h9 := rloads_any (HP.out.on hf) HL.out (PrV.on HV.out hf) HM.out (by omega)
      rw [HDT.out] at h9
      refine h9.mono ?_
      rintro e w' ⟨v, ys, rfl, hr, k9⟩
      obtain ⟨a, c, rfl⟩ := RowS.shape hr
      have hln : ((List.range (m + 1)).map (rldM p dd V)).length = m + 1 := by simp
      rw [hln] at hr ⊢
      exact ⟨a, c, ys, rfl, hr, k9⟩
    go_enter Try.func9, Try.ntmps9
    go_wp2_with (first | (go_at_call 16; refine (H16.out _ (below_on HBW.out E1.out)).mono ?_; rintro e w2 ⟨rfl, k2⟩; have E2 := hide (below_on E1.out k2); have pb0 : w2.cell? ⟨w.heap.size, 0, none⟩ = some (.int .i64 p.dims) := ((bcell E2.out).1 _ 0 HLW.out).trans (HC.out 0); have pb1 : w2.cell? ⟨w.heap.size, 1, none⟩ = some (.int .i64 p.time.n) := ((bcell E2.out).1 _ 1 HLW.out).trans (HC.out 1); have pb2 : w2.cell? ⟨w.heap.size, 2, none⟩ = some (.slice ta p.time.cells.length tc) := ((bcell E2.out).1 _ 2 HLW.out).trans (HC.out 2); have pb3 : w2.cell? ⟨w.heap.size, 3, none⟩ = some (.int .i64 p.dist.n) := ((bcell E2.out).1 _ 3 HLW.out).trans (HC.out 3); have pb4 : w2.cell? ⟨w.heap.size, 4, none⟩ = some (.slice da p.dist.cells.length dc) := ((bcell E2.out).1 _ 4 HLW.out).trans (HC.out 4); have pb5 : w2.cell? ⟨w.heap.size, 5, none⟩ = some (.slice va' p.vs.length vc') := ((bcell E2.out).1 _ 5 HLW.out).trans (HC.out 5); have pb6 : w2.cell? ⟨w.heap.size, 6, none⟩ = some (.slice ja p.js.length jc) := ((bcell E2.out).1 _ 6 HLW.out).trans (HC.out 6); have pb7 : w2.cell? ⟨w.heap.size, 7, none⟩ = some (.slice sa p.ss.length sc) := ((bcell E2.out).1 _ 7 HLW.out).trans (HC.out 7); clear k2 pa0 pa1 pa2 pa3 pa4 pa5 pa6 pa7) | (go_at_call 35; rw [← hW]; refine (awake13_any _).mono ?_; rintro e w1 ⟨rfl, k1⟩; have E1 := hide k1; have pa0 : w1.cell? ⟨w.heap.size, 0, none⟩ = some (.int .i64 p.dims) := ((bcell k1).1 _ 0 HLW.out).trans (HC.out 0); have pa1 : w1.cell? ⟨w.heap.size, 1, none⟩ = some (.int .i64 p.time.n) := ((bcell k1).1 _ 1 HLW.out).trans (HC.out 1); have pa2 : w1.cell? ⟨w.heap.size, 2, none⟩ = some (.slice ta p.time.cells.length tc) := ((bcell k1).1 _ 2 HLW.out).trans (HC.out 2); have pa3 : w1.cell? ⟨w.heap.size, 3, none⟩ = some (.int .i64 p.dist.n) := ((bcell k1).1 _ 3 HLW.out).trans (HC.out 3); have pa4 : w1.cell? ⟨w.heap.size, 4, none⟩ = some (.slice da p.dist.cells.length dc) := ((bcell k1).1 _ 4 HLW.out).trans (HC.out 4); have pa5 : w1.cell? ⟨w.heap.size, 5, none⟩ = some (.slice va' p.vs.length vc') := ((bcell k1).1 _ 5 HLW.out).trans (HC.out 5); have pa6 : w1.cell? ⟨w.heap.size, 6, none⟩ = some (.slice ja p.js.length jc) := ((bcell k1).1 _ 6 HLW.out).trans (HC.out 6); have pa7 : w1.cell? ⟨w.heap.size, 7, none⟩ = some (.slice sa p.ss.length sc) := ((bcell k1).1 _ 7 HLW.out).trans (HC.out 7); clear k1) | fail)
    first | (go_region_held3 (fun w' => w'.cell? ⟨w.heap.size, 0, none⟩ = some (.int .i64 p.dims) ∧ w'.cell? ⟨w.heap.size, 1, none⟩ = some (.int .i64 p.time.n) ∧ w'.cell? ⟨w.heap.size, 2, none⟩ = some (.slice ta p.time.cells.length tc) ∧ w'.cell? ⟨w.heap.size, 3, none⟩ = some (.int .i64 p.dist.n) ∧ w'.cell? ⟨w.heap.size, 4, none⟩ = some (.slice da p.dist.cells.length dc) ∧ w'.cell? ⟨w.heap.size, 5, none⟩ = some (.slice va' p.vs.length vc') ∧ w'.cell? ⟨w.heap.size, 6, none⟩ = some (.slice ja p.js.length jc) ∧ w'.cell? ⟨w.heap.size, 7, none⟩ = some (.slice sa p.ss.length sc)) (go_keep) (first | (go_at_call 43; refine (H43.out _ (below_on HBW.out E5.out)).mono ?_; rintro e w6 ⟨a6, c6, ys6, rfl, R6, k6⟩; have HR6 := hide R6; have HR56 := hide (LdS.on HR5.out k6); have E6 := hide (below_on E5.out k6); have pf0 : w6.cell? ⟨w.heap.size, 0, none⟩ = some (.int .i64 p.dims) := ((bcell E6.out).1 _ 0 HLW.out).trans (HC.out 0); have pf1 : w6.cell? ⟨w.heap.size, 1, none⟩ = some (.int .i64 p.time.n) := ((bcell E6.out).1 _ 1 HLW.out).trans (HC.out 1); have pf2 : w6.cell? ⟨w.heap.size, 2, none⟩ = some (.slice ta p.time.cells.length tc) := ((bcell E6.out).1 _ 2 HLW.out).trans (HC.out 2); have pf3 : w6.cell? ⟨w.heap.size, 3, none⟩ = some (.int .i64 p.dist.n) := ((bcell E6.out).1 _ 3 HLW.out).trans (HC.out 3); have pf4 : w6.cell? ⟨w.heap.size, 4, none⟩ = some (.slice da p.dist.cells.length dc) := ((bcell E6.out).1 _ 4 HLW.out).trans (HC.out 4); have pf5 : w6.cell? ⟨w.heap.size, 5, none⟩ = some (.slice va' p.vs.length vc') := ((bcell E6.out).1 _ 5 HLW.out).trans (HC.out 5); have pf6 : w6.cell? ⟨w.heap.size, 6, none⟩ = some (.slice ja p.js.length jc) := ((bcell E6.out).1 _ 6 HLW.out).trans (HC.out 6); have pf7 : w6.cell? ⟨w.heap.size, 7, none⟩ = some (.slice sa p.ss.length sc) := ((bcell E6.out).1 _ 7 HLW.out).trans (HC.out 7); clear k6 R6) | (go_at_call 42; refine (H42.out _ _ _ _ HP4.out HV4.out).mono ?_; rintro e w5 ⟨a5, c5, ys5, rfl, R5, k5⟩; have HR5 := hide R5; have E5 := hide (below_on E4.out k5); have pe0 : w5.cell? ⟨w.heap.size, 0, none⟩ = some (.int .i64 p.dims) := ((bcell E5.out).1 _ 0 HLW.out).trans (HC.out 0); have pe1 : w5.cell? ⟨w.heap.size, 1, none⟩ = some (.int .i64 p.time.n) := ((bcell E5.out).1 _ 1 HLW.out).trans (HC.out 1); have pe2 : w5.cell? ⟨w.heap.size, 2, none⟩ = some (.slice ta p.time.cells.length tc) := ((bcell E5.out).1 _ 2 HLW.out).trans (HC.out 2); have pe3 : w5.cell? ⟨w.heap.size, 3, none⟩ = some (.int .i64 p.dist.n) := ((bcell E5.out).1 _ 3 HLW.out).trans (HC.out 3); have pe4 : w5.cell? ⟨w.heap.size, 4, none⟩ = some (.slice da p.dist.cells.length dc) := ((bcell E5.out).1 _ 4 HLW.out).trans (HC.out 4); have pe5 : w5.cell? ⟨w.heap.size, 5, none⟩ = some (.slice va' p.vs.length vc') := ((bcell E5.out).1 _ 5 HLW.out).trans (HC.out 5); have pe6 : w5.cell? ⟨w.heap.size, 6, none⟩ = some (.slice ja p.js.length jc) := ((bcell E5.out).1 _ 6 HLW.out).trans (HC.out 6); have pe7 : w5.cell? ⟨w.heap.size, 7, none⟩ = some (.slice sa p.ss.length sc) := ((bcell E5.out).1 _ 7 HLW.out).trans (HC.out 7); clear k5 R5) | (go_at_call 37; refine (H37.out _ (below_on HBW.out E3.out)).mono ?_; rintro e w4 ⟨g4, c4, rfl, ⟨R4, hc4⟩, k4⟩; have HV4 := hide (R4.vs (by rw [HM.out]; omega)); have HP4 := hide (HQ3.out.on k4); have E4 := hide (below_on E3.out k4); have pd0 : w4.cell? ⟨w.heap.size, 0, none⟩ = some (.int .i64 p.dims) := ((bcell E4.out).1 _ 0 HLW.out).trans (HC.out 0); have pd1 : w4.cell? ⟨w.heap.size, 1, none⟩ = some (.int .i64 p.time.n) := ((bcell E4.out).1 _ 1 HLW.out).trans (HC.out 1); have pd2 : w4.cell? ⟨w.heap.size, 2, none⟩ = some (.slice ta p.time.cells.length tc) := ((bcell E4.out).1 _ 2 HLW.out).trans (HC.out 2); have pd3 : w4.cell? ⟨w.heap.size, 3, none⟩ = some (.int .i64 p.dist.n) := ((bcell E4.out).1 _ 3 HLW.out).trans (HC.out 3); have pd4 : w4.cell? ⟨w.heap.size, 4, none⟩ = some (.slice da p.dist.cells.length dc) := ((bcell E4.out).1 _ 4 HLW.out).trans (HC.out 4); have pd5 : w4.cell? ⟨w.heap.size, 5, none⟩ = some (.slice va' p.vs.length vc') := ((bcell E4.out).1 _ 5 HLW.out).trans (HC.out 5); have pd6 : w4.cell? ⟨w.heap.size, 6, none⟩ = some (.slice ja p.js.length jc) := ((bcell E4.out).1 _ 6 HLW.out).trans (HC.out 6); have pd7 : w4.cell? ⟨w.heap.size, 7, none⟩ = some (.slice sa p.ss.length sc) := ((bcell E4.out).1 _ 7 HLW.out).trans (HC.out 7); clear k4 R4 hc4) | (go_at_call 17; refine (H17.out _ (below_on HBW.out (below_on E2.out ((Below.refl _ _).drew)))).mono ?_; rintro e w3 ⟨x3, rfl, P3, k3⟩; have HQ3 := hide P3.prb; have E3 := hide (below_on (below_on E2.out ((Below.refl _ _).drew)) k3); have pc0 : w3.cell? ⟨w.heap.size, 0, none⟩ = some (.int .i64 p.dims) := ((bcell E3.out).1 _ 0 HLW.out).trans (HC.out 0); have pc1 : w3.cell? ⟨w.heap.size, 1, none⟩ = some (.int .i64 p.time.n) := ((bcell E3.out).1 _ 1 HLW.out).trans (HC.out 1); have pc2 : w3.cell? ⟨w.heap.size, 2, none⟩ = some (.slice ta p.time.cells.length tc) := ((bcell E3.out).1 _ 2 HLW.out).trans (HC.out 2); have pc3 : w3.cell? ⟨w.heap.size, 3, none⟩ = some (.int .i64 p.dist.n) := ((bcell E3.out).1 _ 3 HLW.out).trans (HC.out 3); have pc4 : w3.cell? ⟨w.heap.size, 4, none⟩ = some (.slice da p.dist.cells.length dc) := ((bcell E3.out).1 _ 4 HLW.out).trans (HC.out 4); have pc5 : w3.cell? ⟨w.heap.size, 5, none⟩ = some (.slice va' p.vs.length vc') := ((bcell E3.out).1 _ 5 HLW.out).trans (HC.out 5); have pc6 : w3.cell? ⟨w.heap.size, 6, none⟩ = some (.slice ja p.js.length jc) := ((bcell E3.out).1 _ 6 HLW.out).trans (HC.out 6); have pc7 : w3.cell? ⟨w.heap.size, 7, none⟩ = some (.slice sa p.ss.length sc) := ((bcell E3.out).1 _ 7 HLW.out).trans (HC.out 7); clear k3 P3) | fail)) | fail
    rename_i hHeld
    clear hHeld pb0 pb1 pb2 pb3 pb4 pb5 pb6 pb7 pc0 pc1 pc2 pc3 pc4 pc5 pc6 pc7 pd0 pd1 pd2 pd3 pd4 pd5 pd6 pd7 pe0 pe1 pe2 pe3 pe4 pe5 pe6 pe7 pf0 pf1 pf2 pf3 pf4 pf5 pf6 pf7
    have y3 : (((m + 1 : Nat) : Int) != ((m + 1 : Nat) : Int)) = false := by simp
    have HB6 := hide (below_on HBW.out E6.out)
    obtain ⟨M, hM⟩ : ∃ M, m + 1 = M := ⟨_, rfl⟩
    have HMM := hide hM
    have hMb : M ≤ 101 := by omega
    rw [hM] at HR56 HR6 ⊢
    clear hM y3
    have y3 : ((M : Int) != (M : Int)) = false := by simp
    go_wp2_with fail
    go_loopw [37] (fun vn wr => ∃ n : Nat, vn = .int .i64 n ∧ n ≤ M ∧ Hid (Below w6.heap.size w6 wr)) (fun vn _ => M - (intOf vn).toNat)
    case atStart => exact ⟨0, rfl, Nat.zero_le _, Below.refl _ _⟩
    case round =>
      obtain ⟨n, rfl, hn, HBR⟩ := hrel
      by_cases hnM : n < M
      · have i1 : (n : Int) < (M : Int) := by omega
        have i2 : (0 : Int) ≤ (n : Int) := by omega
        have i3 : ¬ (M : Int) ≤ (n : Int) := by omega
        have hx1 := loads_rld HL.out HDD.out V n (by have := HMM.out; have := HM.out; omega)
        have hx2 : ((List.range M).map (rldM p dd V))[n]? = some (rldM p dd V n) := by simp [hnM]
        obtain ⟨ga, u1, uc, rfl, hga, ca, hia⟩ := ld_get HR56.out hx1
        obtain ⟨gb, v1, wc, rfl, hgb, cb, hib⟩ := ld_get HR6.out hx2
        obtain ⟨dl, hdl⟩ : ∃ dl, (rldM p dd V n).length = dl := ⟨_, rfl⟩
        have hdl3 : dl ≤ 3 := by rw [← hdl]; unfold rldM; have := (ways_ok HL.out).dim; have := HDD.out; simp; omega
        have HIA := hide hia
        have HIB := hide hib
        have HDL := hide hdl
        rw [hdl] at ca cb
        have da : wr.cell? ⟨ga, n, none⟩ = some (.slice u1 dl uc) := ((bcell HBR.out).1 _ _ hga).trans ca
        have db : wr.cell? ⟨gb, n, none⟩ = some (.slice v1 dl wc) := ((bcell HBR.out).1 _ _ hgb).trans cb
        have H44 : Hid (∀ W2, Below w6.heap.size w6 W2 → Calls Try.prog 44 #[.slice u1 dl uc, .slice v1 dl wc] W2 fun e w' => e = .returned (.bool true) ∧ Below W2.heap.size W2 w') := fun W2 hf => by
          have h9 := Ld.sameInts_any (ca := uc) (cb := wc) (IntsAt.later HIA.out hf) (IntsAt.later HIB.out hf) HDL.out HDL.out (by omega) (by omega)
          rw [same_self] at h9
          exact h9
        clear hx1 hx2 ca cb hia hib hdl
        go_wp2_with fail
        first | (go_region_held3 (fun w' => w'.cell? ⟨ga, n, none⟩ = some (.slice u1 dl uc) ∧ w'.cell? ⟨gb, n, none⟩ = some (.slice v1 dl wc)) (go_keep) (first | (go_at_call 44; refine (H44.out _ (below_on HBR.out ((Below.refl _ _).drew))).mono ?_; rintro e w7 ⟨rfl, k7⟩; have E7 := hide (below_on (below_on HBR.out ((Below.refl _ _).drew)) k7); have ea : w7.cell? ⟨ga, n, none⟩ = some (.slice u1 dl uc) := ((bcell (below_on ((Below.refl _ _).drew) k7)).1 _ _ (Nat.lt_of_lt_of_le hga HBR.out.size)).trans da; have eb : w7.cell? ⟨gb, n, none⟩ = some (.slice v1 dl wc) := ((bcell (below_on ((Below.refl _ _).drew) k7)).1 _ _ (Nat.lt_of_lt_of_le hgb HBR.out.size)).trans db; clear k7) | fail)) | fail
        rename_i hHeld
        clear hHeld
        go_wp2_with fail
        go_roundw
        case rel => exact ⟨n + 1, by go_num, by omega, E7.out⟩
        case measure => simp [intOf]; omega
      · have i1 : ¬ (n : Int) < (M : Int) := by omega
        obtain ⟨r1, hr1, hl1⟩ := umod_nat xi m (by omega)
        obtain ⟨r2, hr2, hl2⟩ := umod_nat xk m (by omega)
        have wa : IntKind.i64.wrap ((m : Int) + 1) = (m : Int) + 1 := by rw [IntKind.wrap_i64]; omega
        have wb : IntKind.u64.wrap ((m : Int) + 1) = (m : Int) + 1 := by rw [IntKind.wrap_u64]; omega
        have wc1 : IntKind.u64.wrap (r1 : Int) = r1 := by rw [IntKind.wrap_u64]; omega
        have wc2 : IntKind.u64.wrap (r2 : Int) = r2 := by rw [IntKind.wrap_u64]; omega
        have wd1 : IntKind.i64.wrap (r1 : Int) = r1 := by rw [IntKind.wrap_i64]; omega
        have wd2 : IntKind.i64.wrap (r2 : Int) = r2 := by rw [IntKind.wrap_i64]; omega
        have nz : ¬ (m : Int) + 1 = 0 := by omega
        have nz2 : ((m : Int) + 1 == 0) = false := by simpa using nz
        go_wp2_with fail
        first | (go_quiet (fail)) | fail
        clear hr1 hr2 wa wb wc1 wc2 wd1 wd2 nz nz2
        obtain ⟨wx, hwx⟩ : ∃ wx, wx = wr.drewN nq := ⟨_, rfl⟩
        rw [← hwx]
        have HBX : Hid (Below w.heap.size w wx) := by show Below _ _ _; rw [hwx]; exact below_drewN (below_on HB6.out HBR.out) _
        clear hwx
        have H45b : Hid (∀ W2 g c, VsV W2 (.slice (some ⟨g, 0, none⟩) m c) V → m ≤ c → Calls Try.prog 45 #[.slice (some ⟨g, 0, none⟩) m c, .slice none 0 0] W2 fun e w' => ∃ a c', e = .returned (.slice a m c') ∧ VsV w' (.slice a m c') V ∧ Below W2.heap.size W2 w') := fun W2 g c hv hc => by
          have h9 := set_any (n := 0) (ac := 0) (aa := none) (A := []) hv HM.out (by omega) hc (fun k hk => by simp at hk) rfl (by omega)
          refine h9.mono ?_
          rintro e w' ⟨v, rfl, hr, k9⟩
          have hr : VRow w' W2.heap.size v V := hr
          obtain ⟨a, c, rfl, _⟩ := hr.shape
          rw [HM.out] at hr ⊢
          exact ⟨a, c, rfl, hr.vs (by rw [HM.out]; omega), k9⟩
        have H30 : Hid (∀ W2 a c a' c' (q : Nat) (L : List Vst), L.length = q → VsV W2 (.slice a q c) L → VsV W2 (.slice a' q c') L → Calls Try.prog 30 #[.slice a q c, .slice a' q c'] W2 fun e w' => e = .returned (.bool true) ∧ Below W2.heap.size W2 w') := fun W2 a c a' c' q L hq hv hv' => by
          have h9 := sameVisits_any hv hv'
          exact h9
        by_cases hrr : r2 < r1
        · have y5 : (r1 : Int) > (r2 : Int) := by omega
          have y6 : (r2 : Int) < (r1 : Int) := by omega
          have H45 : Hid (∀ W2 g c ax, VsV W2 (.slice (some ⟨g, 0, none⟩) m c) V → m ≤ c → IntsAt W2 ax [(r2 : Int), (r1 : Int)] → Calls Try.prog 45 #[.slice (some ⟨g, 0, none⟩) m c, .slice ax 2 2] W2 fun e w' => ∃ a c', e = .returned (.slice a (m + 2) c') ∧ VsV w' (.slice a (m + 2) c') (setM V [(r2 : Int), (r1 : Int)]) ∧ Below W2.heap.size W2 w') := fun W2 g c ax hv hc hx => by
            have h9 := set_any (n := 2) (ac := 2) hv HM.out (by omega) hc hx rfl (by omega)
            refine h9.mono ?_
            rintro e w' ⟨v, rfl, hr, k9⟩
            obtain ⟨a, c, rfl, _⟩ := hr.shape
            have hln : (setM V [(r2 : Int), (r1 : Int)]).length = m + 2 := by rw [setM_len, HM.out]; rfl
            have hvs := hr.vs (by rw [hln]; omega)
            rw [hln] at hvs ⊢
            exact ⟨a, c, rfl, hvs, k9⟩
          have H46 : Hid (∀ W2 ax, Below w.heap.size w W2 → IntsAt W2 ax [(r2 : Int), (r1 : Int)] → Calls Try.prog 46 #[.slice va m vc, .slice ax 2 2] W2 fun e w' => ∃ a c', e = .returned (.slice a (m + 2) c') ∧ VsV w' (.slice a (m + 2) c') (setM V [(r2 : Int), (r1 : Int)]) ∧ Below W2.heap.size W2 w') := fun W2 ax hf hx => by
            have h9 := rset_any (n := 2) (ac := 2) (PrV.on HV.out hf) HM.out (by omega) hx rfl (by omega)
            rw [← set_two V r2 r1 (by omega) (by rw [HM.out]; omega)] at h9
            refine h9.mono ?_
            rintro e w' ⟨v, rfl, hr, k9⟩
            obtain ⟨a, c, rfl, _⟩ := hr.shape
            have hln : (setM V [(r2 : Int), (r1 : Int)]).length = m + 2 := by rw [setM_len, HM.out]; rfl
            have hvs := hr.vs (by rw [hln]; omega)
            rw [hln] at hvs ⊢
            exact ⟨a, c, rfl, hvs, k9⟩
          have HLN : Hid ((setM V [(r2 : Int), (r1 : Int)]).length = m + 2) := by show _ = _; rw [setM_len, HM.out]; rfl
          go_wp2_with (first | (go_at_call 30; refine (H30.out _ _ _ _ _ _ _ HM.out HVf.out (PrV.on HV.out Ef.out)).mono ?_; rintro e zg ⟨rfl, kg⟩; have Eg := hide (below_on Ef.out kg); clear kg) | (go_at_call 45; refine (H45b.out _ _ _ HVe.out HCe.out).mono ?_; rintro e zf ⟨af, cf, rfl, Rf, kf⟩; have HVf := hide Rf; have Ef := hide (below_on Ee.out kf); clear kf Rf) | (go_at_call 37; refine (H37.out _ Ed.out).mono ?_; rintro e ze ⟨ge, ce, rfl, ⟨Re, hce⟩, ke⟩; have HVe := hide (Re.vs (by rw [HM.out]; omega)); have HCe := hide hce; have Ee := hide (below_on Ed.out ke); clear ke Re hce) | (go_at_call 30; refine (H30.out _ _ _ _ _ _ _ HLN.out HVbc.out HVc.out).mono ?_; rintro e zd ⟨rfl, kd⟩; have Ed := hide (below_on Ec.out kd); clear kd) | (go_at_call 46; refine (H46.out _ _ (below_on Eb.out ((Below.refl _ _).alloc (Nat.le_refl _) _)) two_ints).mono ?_; rintro e zc ⟨ac2, cc, rfl, Rc, kc⟩; have HVc := hide Rc; have HVbc := hide (PrV.on HVb.out (below_on ((Below.refl _ _).alloc (Nat.le_refl _) _) kc)); have Ec := hide (below_on (below_on Eb.out ((Below.refl _ _).alloc (Nat.le_refl _) _)) kc); clear kc Rc) | (go_at_call 45; refine (H45.out _ _ _ _ (PrV.on HVa.out ((Below.refl _ _).alloc (Nat.le_refl _) _)) HCa.out two_ints).mono ?_; rintro e zb ⟨ab, cb, rfl, Rb, kb⟩; have HVb := hide Rb; have Eb := hide (below_on (below_on Ea.out ((Below.refl _ _).alloc (Nat.le_refl _) _)) kb); clear kb Rb) | (go_at_call 37; refine (H37.out _ HBX.out).mono ?_; rintro e za ⟨ga, ca, rfl, ⟨Ra, hca⟩, ka⟩; have HVa := hide (Ra.vs (by rw [HM.out]; omega)); have HCa := hide hca; have Ea := hide (below_on HBX.out ka); clear ka Ra hca) | fail)
          go_ret
          exact ⟨rfl, Eg.out⟩
        · have y5 : ¬ (r1 : Int) > (r2 : Int) := by omega
          have y6 : ¬ (r2 : Int) < (r1 : Int) := by omega
          have H45 : Hid (∀ W2 g c ax, VsV W2 (.slice (some ⟨g, 0, none⟩) m c) V → m ≤ c → IntsAt W2 ax [(r1 : Int), (r2 : Int)] → Calls Try.prog 45 #[.slice (some ⟨g, 0, none⟩) m c, .slice ax 2 2] W2 fun e w' => ∃ a c', e = .returned (.slice a (m + 2) c') ∧ VsV w' (.slice a (m + 2) c') (setM V [(r1 : Int), (r2 : Int)]) ∧ Below W2.heap.size W2 w') := fun W2 g c ax hv hc hx => by
            have h9 := set_any (n := 2) (ac := 2) hv HM.out (by omega) hc hx rfl (by omega)
            refine h9.mono ?_
            rintro e w' ⟨v, rfl, hr, k9⟩
            obtain ⟨a, c, rfl, _⟩ := hr.shape
            have hln : (setM V [(r1 : Int), (r2 : Int)]).length = m + 2 := by rw [setM_len, HM.out]; rfl
            have hvs := hr.vs (by rw [hln]; omega)
            rw [hln] at hvs ⊢
            exact ⟨a, c, rfl, hvs, k9⟩
          have H46 : Hid (∀ W2 ax, Below w.heap.size w W2 → IntsAt W2 ax [(r1 : Int), (r2 : Int)] → Calls Try.prog 46 #[.slice va m vc, .slice ax 2 2] W2 fun e w' => ∃ a c', e = .returned (.slice a (m + 2) c') ∧ VsV w' (.slice a (m + 2) c') (setM V [(r1 : Int), (r2 : Int)]) ∧ Below W2.heap.size W2 w') := fun W2 ax hf hx => by
            have h9 := rset_any (n := 2) (ac := 2) (PrV.on HV.out hf) HM.out (by omega) hx rfl (by omega)
            rw [← set_two V r1 r2 (by omega) (by rw [HM.out]; omega)] at h9
            refine h9.mono ?_
            rintro e w' ⟨v, rfl, hr, k9⟩
            obtain ⟨a, c, rfl, _⟩ := hr.shape
            have hln : (setM V [(r1 : Int), (r2 : Int)]).length = m + 2 := by rw [setM_len, HM.out]; rfl
            have hvs := hr.vs (by rw [hln]; omega)
            rw [hln] at hvs ⊢
            exact ⟨a, c, rfl, hvs, k9⟩
          have HLN : Hid ((setM V [(r1 : Int), (r2 : Int)]).length = m + 2) := by show _ = _; rw [setM_len, HM.out]; rfl
          go_wp2_with (first | (go_at_call 30; refine (H30.out _ _ _ _ _ _ _ HM.out HVf.out (PrV.on HV.out Ef.out)).mono ?_; rintro e zg ⟨rfl, kg⟩; have Eg := hide (below_on Ef.out kg); clear kg) | (go_at_call 45; refine (H45b.out _ _ _ HVe.out HCe.out).mono ?_; rintro e zf ⟨af, cf, rfl, Rf, kf⟩; have HVf := hide Rf; have Ef := hide (below_on Ee.out kf); clear kf Rf) | (go_at_call 37; refine (H37.out _ Ed.out).mono ?_; rintro e ze ⟨ge, ce, rfl, ⟨Re, hce⟩, ke⟩; have HVe := hide (Re.vs (by rw [HM.out]; omega)); have HCe := hide hce; have Ee := hide (below_on Ed.out ke); clear ke Re hce) | (go_at_call 30; refine (H30.out _ _ _ _ _ _ _ HLN.out HVbc.out HVc.out).mono ?_; rintro e zd ⟨rfl, kd⟩; have Ed := hide (below_on Ec.out kd); clear kd) | (go_at_call 46; refine (H46.out _ _ (below_on Eb.out ((Below.refl _ _).alloc (Nat.le_refl _) _)) two_ints).mono ?_; rintro e zc ⟨ac2, cc, rfl, Rc, kc⟩; have HVc := hide Rc; have HVbc := hide (PrV.on HVb.out (below_on ((Below.refl _ _).alloc (Nat.le_refl _) _) kc)); have Ec := hide (below_on (below_on Eb.out ((Below.refl _ _).alloc (Nat.le_refl _) _)) kc); clear kc Rc) | (go_at_call 45; refine (H45.out _ _ _ _ (PrV.on HVa.out ((Below.refl _ _).alloc (Nat.le_refl _) _)) HCa.out two_ints).mono ?_; rintro e zb ⟨ab, cb, rfl, Rb, kb⟩; have HVb := hide Rb; have Eb := hide (below_on (below_on Ea.out ((Below.refl _ _).alloc (Nat.le_refl _) _)) kb); clear kb Rb) | (go_at_call 37; refine (H37.out _ HBX.out).mono ?_; rintro e za ⟨ga, ca, rfl, ⟨Ra, hca⟩, ka⟩; have HVa := hide (Ra.vs (by rw [HM.out]; omega)); have HCa := hide hca; have Ea := hide (below_on HBX.out ka); clear ka Ra hca) | fail)
          go_ret
          exact ⟨rfl, Eg.out⟩
end Go.Proofs.Ytgjpkpmikbpcnaa
