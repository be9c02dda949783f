/-
  What the call of Fit of plan does, where the breaks at the first places are not too late.
-/
import Derived.Deep.RegionHeld3
import Derived.Test.YtgjpkpmikbpcnaaQOfW
import Derived.Test.YtgjpkpmikbpcnaaQSetW
import Derived.Test.YtgjpkpmikbpcnaaQTldG
import Derived.Test.YtgjpkpmikbpcnaaQCarG
import Derived.Test.YtgjpkpmikbpcnaaQLdsG
namespace Go.Proofs.Ytgjpkpmikbpcnaa
open Go.RowKit
def manB (p : Prb) (vi : Int) : Bool := decide (0 ≤ vi) && decide (vi < (p.vs.length : Int))
def hasB (V : List Vst) : Bool := V.any fun v => v.1 == 4
/-- The visits with all breaks ahead of them. -/
def headV (p : Prb) (vi : Int) (V : List Vst) : List Vst := setM V (List.replicate (p.vs.getD vi.toNat vz).brks.length 0)
def easyE (p : Prb) (vi : Int) (V : List Vst) : Int := bif !manB p vi then 160 else bif hasB V then 162 else ofE p vi (headV p vi V)
def easyP (p : Prb) (vi : Int) (V : List Vst) : PlanT := bif !manB p vi then planZ else bif hasB V then planZ else ofP p vi (headV p vi V)
theorem frz7 {w w' : World} {b : Nat} (h : w.heap[b]? = some (.cells #[.int .i64 0, .slice none 0 0, .int .i64 0, .int .i64 0, .int .i64 0, .int .i64 0, .int .i64 0] 71)) (f : Below w.heap.size w w') (hb : b < w.heap.size) : (∀ j, w'.cell? ⟨b, j, none⟩ = (#[.int .i64 0, .slice none 0 0, .int .i64 0, .int .i64 0, .int .i64 0, .int .i64 0, .int .i64 0] : Array Value)[j]?) ∧ ∀ j, w'.frozen? ⟨b, j, none⟩ = false :=
  have e := (f.block b hb).trans h
  ⟨fun _ => cell_of_row _ _ _ _ _ _ e, fun _ => frz_row e⟩
theorem put7 {W : World} {b : Nat} {c0 c1 c2 c3 c4 c5 c6 : Value} (v0 v1 v2 v3 v4 v5 v6 : Value) (h : W.heap[b]? = some (.cells #[c0, c1, c2, c3, c4, c5, c6] 71 (0, 0))) :
    ∃ Z, Z = (((((((W.setCell ⟨b, 0, none⟩ v0).setCell ⟨b, 1, none⟩ v1).setCell ⟨b, 2, none⟩ v2).setCell ⟨b, 3, none⟩ v3).setCell ⟨b, 4, none⟩ v4).setCell ⟨b, 5, none⟩ v5).setCell ⟨b, 6, none⟩ v6) ∧ Z.heap[b]? = some (.cells #[v0, v1, v2, v3, v4, v5, v6] 71 (0, 0)) ∧ W.grownBy Z (some b) := by
  refine ⟨_, rfl, ?_, ?_⟩
  · have h0 : (W.setCell ⟨b, 0, none⟩ v0).heap[b]? = some (.cells #[v0, c1, c2, c3, c4, c5, c6] 71 (0, 0)) := by have := heap_setCell_same W b 0 _ _ v0 h; simpa using this
    have h1 : ((W.setCell ⟨b, 0, none⟩ v0).setCell ⟨b, 1, none⟩ v1).heap[b]? = some (.cells #[v0, v1, c2, c3, c4, c5, c6] 71 (0, 0)) := by have := heap_setCell_same _ b 1 _ _ v1 h0; simpa using this
    have h2 : (((W.setCell ⟨b, 0, none⟩ v0).setCell ⟨b, 1, none⟩ v1).setCell ⟨b, 2, none⟩ v2).heap[b]? = some (.cells #[v0, v1, v2, c3, c4, c5, c6] 71 (0, 0)) := by have := heap_setCell_same _ b 2 _ _ v2 h1; simpa using this
    have h3 : ((((W.setCell ⟨b, 0, none⟩ v0).setCell ⟨b, 1, none⟩ v1).setCell ⟨b, 2, none⟩ v2).setCell ⟨b, 3, none⟩ v3).heap[b]? = some (.cells #[v0, v1, v2, v3, c4, c5, c6] 71 (0, 0)) := by have := heap_setCell_same _ b 3 _ _ v3 h2; simpa using this
    have h4 : (((((W.setCell ⟨b, 0, none⟩ v0).setCell ⟨b, 1, none⟩ v1).setCell ⟨b, 2, none⟩ v2).setCell ⟨b, 3, none⟩ v3).setCell ⟨b, 4, none⟩ v4).heap[b]? = some (.cells #[v0, v1, v2, v3, v4, c5, c6] 71 (0, 0)) := by have := heap_setCell_same _ b 4 _ _ v4 h3; simpa using this
    have h5 : ((((((W.setCell ⟨b, 0, none⟩ v0).setCell ⟨b, 1, none⟩ v1).setCell ⟨b, 2, none⟩ v2).setCell ⟨b, 3, none⟩ v3).setCell ⟨b, 4, none⟩ v4).setCell ⟨b, 5, none⟩ v5).heap[b]? = some (.cells #[v0, v1, v2, v3, v4, v5, c6] 71 (0, 0)) := by have := heap_setCell_same _ b 5 _ _ v5 h4; simpa using this
    have h6 : (((((((W.setCell ⟨b, 0, none⟩ v0).setCell ⟨b, 1, none⟩ v1).setCell ⟨b, 2, none⟩ v2).setCell ⟨b, 3, none⟩ v3).setCell ⟨b, 4, none⟩ v4).setCell ⟨b, 5, none⟩ v5).setCell ⟨b, 6, none⟩ v6).heap[b]? = some (.cells #[v0, v1, v2, v3, v4, v5, v6] 71 (0, 0)) := by have := heap_setCell_same _ b 6 _ _ v6 h5; simpa using this
    exact h6
  · repeat (first | (with_reducible exact grw_refl _ _) | (with_reducible refine grw_set ?_ _ _))
theorem grw_block {w w' : World} {r q : Nat} (h : w.grownBy w' (some r)) (hq : q < w.heap.size) (hr : q ≠ r) : w'.heap[q]? = w.heap[q]? := h.block q hq fun e => hr (by injection e)
theorem frz7' {w w' : World} {b : Nat} {A : Array Value} (h : w.heap[b]? = some (.cells A 71)) (e : w'.heap[b]? = w.heap[b]?) : (∀ j, w'.cell? ⟨b, j, none⟩ = A[j]?) ∧ ∀ j, w'.frozen? ⟨b, j, none⟩ = false := ⟨fun _ => cell_of_row _ _ _ _ _ _ (e.trans h), fun _ => frz_row (e.trans h)⟩
theorem hent45 (args : Array Value) (w : World) : (callFunc 45 args).run Try.prog w = .ok (.enter 45 args) w := Go.Proofs.enters_of Try.func45 (by kernel_rfl) rfl args w
theorem hent36 (args : Array Value) (w : World) : (callFunc 36 args).run Try.prog w = .ok (.enter 36 args) w := Go.Proofs.enters_of Try.func36 (by kernel_rfl) rfl args w
set_option maxRecDepth 100000 in
set_option maxHeartbeats 6400000 in
theorem fit_easy {w : World} {x : PrbS} {p : Prb} {vi : Int} {b off m vc : Nat} {V : List Vst} (h : PrbV w x p) (hl : lawM p = true) (hV : VsV w (.slice (some ⟨b, off, none⟩) m vc) V) (hm : V.length = m) (hm2 : m ≤ 90) (hvc : m ≤ vc) (hne : manB p vi = true → hasB V = false → ofE p vi (headV p vi V) ≠ 167) :
    Calls Try.prog 40 #[.agg (prbE p x), .int .i64 vi, .slice (some ⟨b, off, none⟩) m vc] w fun e w' => ∃ v, e = .returned (.tuple #[v, .int .i64 (easyE p vi V)]) ∧ PlanV w' w.heap.size v (easyP p vi V) ∧ Below w.heap.size w w' := by
  have HL := hide hl
  have HP := hide h
  have HV := hide hV
  have HM := hide hm
  have HNE := hide hne
  obtain ⟨ta, tc, da, dc, va', vc', ja, jc, sa, sc, rfl⟩ := h.open
  clear h hV hm hl hne
  have HPE : Hid (prbE p ⟨.slice ta p.time.cells.length tc, .slice da p.dist.cells.length dc, .slice va' p.vs.length vc', .slice ja p.js.length jc, .slice sa p.ss.length sc⟩ = #[.int .i64 p.dims, .int .i64 p.time.n, .slice ta p.time.cells.length tc, .int .i64 p.dist.n, .slice da p.dist.cells.length dc, .slice va' p.vs.length vc', .slice ja p.js.length jc, .slice sa p.ss.length sc]) := rfl
  have H71 : Hid (∀ W2, Below w.heap.size w W2 → Calls Try.prog 71 #[.agg #[.int .i64 p.dims, .int .i64 p.time.n, .slice ta p.time.cells.length tc, .int .i64 p.dist.n, .slice da p.dist.cells.length dc, .slice va' p.vs.length vc', .slice ja p.js.length jc, .slice sa p.ss.length sc, .int .i64 vi, .slice (some ⟨b, off, none⟩) m vc]] W2 fun e w' => e = .returned (.bool (manB p vi)) ∧ Below W2.heap.size W2 w') := fun W2 hf => by have h9 := manned_any (m := m) (vc := vc) (va := some ⟨b, off, none⟩) (HP.out.on hf) vi; exact h9
  have H72 : Hid (∀ W2, Below w.heap.size w W2 → Calls Try.prog 72 #[.slice (some ⟨b, off, none⟩) m vc, .func (.func 73) #[] #[]] W2 fun e w' => e = .returned (.bool (hasB V)) ∧ Below W2.heap.size W2 w') := fun W2 hf => by have h9 := hasBreak_any (c := vc) (PrV.on HV.out hf) HM.out (by omega); exact h9
  rw [HPE.out]
  obtain ⟨W, hW⟩ : ∃ W, W = ((w.alloc (.cells #[.int .i64 p.dims, .int .i64 p.time.n, .slice ta p.time.cells.length tc, .int .i64 p.dist.n, .slice da p.dist.cells.length dc, .slice va' p.vs.length vc', .slice ja p.js.length jc, .slice sa p.ss.length sc] 29)).alloc (.cells #[.int .i64 0, .slice none 0 0, .int .i64 0, .int .i64 0, .int .i64 0, .int .i64 0, .int .i64 0] 71)).alloc (.cells #[.int .i64 p.dims, .int .i64 p.time.n, .slice ta p.time.cells.length tc, .int .i64 p.dist.n, .slice da p.dist.cells.length dc, .slice va' p.vs.length vc', .slice ja p.js.length jc, .slice sa p.ss.length sc, .int .i64 vi, .slice (some ⟨b, off, none⟩) m vc] 121) := ⟨_, rfl⟩
  have HBW : Hid (Below w.heap.size w W) := by rw [hW]; exact (((Below.refl _ _).alloc (Nat.le_refl _) _).alloc (by simp) _).alloc (by simp; omega) _
  have HWS : Hid (W.heap.size = w.heap.size + 3) := by show _ = _; rw [hW]; simp
  have HC : Hid (∀ j, W.cell? ⟨w.heap.size + 1 + 1, j, none⟩ = (#[.int .i64 p.dims, .int .i64 p.time.n, .slice ta p.time.cells.length tc, .int .i64 p.dist.n, .slice da p.dist.cells.length dc, .slice va' p.vs.length vc', .slice ja p.js.length jc, .slice sa p.ss.length sc, .int .i64 vi, .slice (some ⟨b, off, none⟩) m vc] : Array Value)[j]?) := fun j => by
    rw [hW]
    have := heap_alloc_new ((w.alloc (.cells #[.int .i64 p.dims, .int .i64 p.time.n, .slice ta p.time.cells.length tc, .int .i64 p.dist.n, .slice da p.dist.cells.length dc, .slice va' p.vs.length vc', .slice ja p.js.length jc, .slice sa p.ss.length sc] 29)).alloc (.cells #[.int .i64 0, .slice none 0 0, .int .i64 0, .int .i64 0, .int .i64 0, .int .i64 0, .int .i64 0] 71)) (.cells #[.int .i64 p.dims, .int .i64 p.time.n, .slice ta p.time.cells.length tc, .int .i64 p.dist.n, .slice da p.dist.cells.length dc, .slice va' p.vs.length vc', .slice ja p.js.length jc, .slice sa p.ss.length sc, .int .i64 vi, .slice (some ⟨b, off, none⟩) m vc] 121)
    simp only [World.size_alloc] at this
    exact cell_of_row _ _ _ _ _ _ this
  have HC0 : Hid (∀ j, W.cell? ⟨w.heap.size, j, none⟩ = (#[.int .i64 p.dims, .int .i64 p.time.n, .slice ta p.time.cells.length tc, .int .i64 p.dist.n, .slice da p.dist.cells.length dc, .slice va' p.vs.length vc', .slice ja p.js.length jc, .slice sa p.ss.length sc] : Array Value)[j]?) := fun j => by
    have e9 : W.heap[w.heap.size]? = some (.cells #[.int .i64 p.dims, .int .i64 p.time.n, .slice ta p.time.cells.length tc, .int .i64 p.dist.n, .slice da p.dist.cells.length dc, .slice va' p.vs.length vc', .slice ja p.js.length jc, .slice sa p.ss.length sc] 29) := by rw [hW, heap_alloc_old _ _ (by simp; omega), heap_alloc_old _ _ (by simp), heap_alloc_new]
    exact cell_of_row _ _ _ _ _ _ e9
  have HX6 : Hid (W.heap[w.heap.size + 1]? = some (.cells #[.int .i64 0, .slice none 0 0, .int .i64 0, .int .i64 0, .int .i64 0, .int .i64 0, .int .i64 0] 71)) := by
    show _ = _
    rw [hW, heap_alloc_old _ _ (by simp)]
    have := heap_alloc_new (w.alloc (.cells #[.int .i64 p.dims, .int .i64 p.time.n, .slice ta p.time.cells.length tc, .int .i64 p.dist.n, .slice da p.dist.cells.length dc, .slice va' p.vs.length vc', .slice ja p.js.length jc, .slice sa p.ss.length sc] 29)) (.cells #[.int .i64 0, .slice none 0 0, .int .i64 0, .int .i64 0, .int .i64 0, .int .i64 0, .int .i64 0] 71)
    simp only [World.size_alloc] at this
    exact this
  have HX3 : Hid (w.heap.size + 1 < W.heap.size) := by show _ < _; rw [HWS.out]; omega
  obtain ⟨mb, hmb⟩ : ∃ b, manB p vi = b := ⟨_, rfl⟩
  have HMB := hide hmb
  clear hmb
  obtain ⟨hb2, hhb⟩ : ∃ b, hasB V = b := ⟨_, rfl⟩
  have HHB := hide hhb
  clear hhb
  cases mb with
  | false =>
    have HE : Hid (easyE p vi V = 160 ∧ easyP p vi V = planZ) := by unfold easyE easyP; rw [HMB.out]; exact ⟨rfl, rfl⟩
    go_enter Try.func40, Try.ntmps40
    go_wp2_with (first | (go_at_call 71; rw [← hW]; refine (H71.out _ HBW.out).mono ?_; rintro e w1 ⟨rfl, k1⟩; rw [HMB.out]; have E1 := hide k1; have ac0 : w1.cell? ⟨w.heap.size + 1, 0, none⟩ = some (.int .i64 0) := (frz7 HX6.out k1 HX3.out).1 0; have ac1 : w1.cell? ⟨w.heap.size + 1, 1, none⟩ = some (.slice none 0 0) := (frz7 HX6.out k1 HX3.out).1 1; have ac2 : w1.cell? ⟨w.heap.size + 1, 2, none⟩ = some (.int .i64 0) := (frz7 HX6.out k1 HX3.out).1 2; have ac3 : w1.cell? ⟨w.heap.size + 1, 3, none⟩ = some (.int .i64 0) := (frz7 HX6.out k1 HX3.out).1 3; have ac4 : w1.cell? ⟨w.heap.size + 1, 4, none⟩ = some (.int .i64 0) := (frz7 HX6.out k1 HX3.out).1 4; have ac5 : w1.cell? ⟨w.heap.size + 1, 5, none⟩ = some (.int .i64 0) := (frz7 HX6.out k1 HX3.out).1 5; have ac6 : w1.cell? ⟨w.heap.size + 1, 6, none⟩ = some (.int .i64 0) := (frz7 HX6.out k1 HX3.out).1 6; have af0 : w1.frozen? ⟨w.heap.size + 1, 0, none⟩ = false := (frz7 HX6.out k1 HX3.out).2 0; have af1 : w1.frozen? ⟨w.heap.size + 1, 1, none⟩ = false := (frz7 HX6.out k1 HX3.out).2 1; have af2 : w1.frozen? ⟨w.heap.size + 1, 2, none⟩ = false := (frz7 HX6.out k1 HX3.out).2 2; have af3 : w1.frozen? ⟨w.heap.size + 1, 3, none⟩ = false := (frz7 HX6.out k1 HX3.out).2 3; have af4 : w1.frozen? ⟨w.heap.size + 1, 4, none⟩ = false := (frz7 HX6.out k1 HX3.out).2 4; have af5 : w1.frozen? ⟨w.heap.size + 1, 5, none⟩ = false := (frz7 HX6.out k1 HX3.out).2 5; have af6 : w1.frozen? ⟨w.heap.size + 1, 6, none⟩ = false := (frz7 HX6.out k1 HX3.out).2 6; have at0 : w1.cell? ⟨w.heap.size + 1 + 1, 0, none⟩ = some (.int .i64 p.dims) := ((bcell k1).1 _ 0 (by rw [HWS.out]; omega)).trans (HC.out 0); have at1 : w1.cell? ⟨w.heap.size + 1 + 1, 1, none⟩ = some (.int .i64 p.time.n) := ((bcell k1).1 _ 1 (by rw [HWS.out]; omega)).trans (HC.out 1); have at2 : w1.cell? ⟨w.heap.size + 1 + 1, 2, none⟩ = some (.slice ta p.time.cells.length tc) := ((bcell k1).1 _ 2 (by rw [HWS.out]; omega)).trans (HC.out 2); have at3 : w1.cell? ⟨w.heap.size + 1 + 1, 3, none⟩ = some (.int .i64 p.dist.n) := ((bcell k1).1 _ 3 (by rw [HWS.out]; omega)).trans (HC.out 3); have at4 : w1.cell? ⟨w.heap.size + 1 + 1, 4, none⟩ = some (.slice da p.dist.cells.length dc) := ((bcell k1).1 _ 4 (by rw [HWS.out]; omega)).trans (HC.out 4); have at5 : w1.cell? ⟨w.heap.size + 1 + 1, 5, none⟩ = some (.slice va' p.vs.length vc') := ((bcell k1).1 _ 5 (by rw [HWS.out]; omega)).trans (HC.out 5); have at6 : w1.cell? ⟨w.heap.size + 1 + 1, 6, none⟩ = some (.slice ja p.js.length jc) := ((bcell k1).1 _ 6 (by rw [HWS.out]; omega)).trans (HC.out 6); have at7 : w1.cell? ⟨w.heap.size + 1 + 1, 7, none⟩ = some (.slice sa p.ss.length sc) := ((bcell k1).1 _ 7 (by rw [HWS.out]; omega)).trans (HC.out 7); have at8 : w1.cell? ⟨w.heap.size + 1 + 1, 8, none⟩ = some (.int .i64 vi) := ((bcell k1).1 _ 8 (by rw [HWS.out]; omega)).trans (HC.out 8); have at9 : w1.cell? ⟨w.heap.size + 1 + 1, 9, none⟩ = some (.slice (some ⟨b, off, none⟩) m vc) := ((bcell k1).1 _ 9 (by rw [HWS.out]; omega)).trans (HC.out 9); clear k1) | fail)
    refine bodyPost_ret (v := .tuple #[.agg #[.int .i64 0, .slice none 0 0, .int .i64 0, .int .i64 0, .int .i64 0, .int .i64 0, .int .i64 0], .int .i64 160]) ?_ rfl ⟨_, by rw [HE.out.1], by rw [HE.out.2]; exact planZ_any _ _, ?_⟩
    · simp [results, Try.results40, go_sem, *]
    · have HBE := below_on HBW.out E1.out
      repeat (first | (with_reducible exact HBE) | (with_reducible refine Below.setCell ?_ (by simp) _) | (with_reducible refine Below.drew ?_))
  | true =>
  cases hb2 with
  | true =>
    have HE : Hid (easyE p vi V = 162 ∧ easyP p vi V = planZ) := by unfold easyE easyP; rw [HMB.out, HHB.out]; exact ⟨rfl, rfl⟩
    go_enter Try.func40, Try.ntmps40
    go_wp2_with (first | (go_at_call 72; refine (H72.out _ (below_on HBW.out E1.out)).mono ?_; rintro e w2 ⟨rfl, k2⟩; rw [HHB.out]; have E2 := hide (below_on E1.out k2); have bc0 : w2.cell? ⟨w.heap.size + 1, 0, none⟩ = some (.int .i64 0) := (frz7 HX6.out E2.out HX3.out).1 0; have bc1 : w2.cell? ⟨w.heap.size + 1, 1, none⟩ = some (.slice none 0 0) := (frz7 HX6.out E2.out HX3.out).1 1; have bc2 : w2.cell? ⟨w.heap.size + 1, 2, none⟩ = some (.int .i64 0) := (frz7 HX6.out E2.out HX3.out).1 2; have bc3 : w2.cell? ⟨w.heap.size + 1, 3, none⟩ = some (.int .i64 0) := (frz7 HX6.out E2.out HX3.out).1 3; have bc4 : w2.cell? ⟨w.heap.size + 1, 4, none⟩ = some (.int .i64 0) := (frz7 HX6.out E2.out HX3.out).1 4; have bc5 : w2.cell? ⟨w.heap.size + 1, 5, none⟩ = some (.int .i64 0) := (frz7 HX6.out E2.out HX3.out).1 5; have bc6 : w2.cell? ⟨w.heap.size + 1, 6, none⟩ = some (.int .i64 0) := (frz7 HX6.out E2.out HX3.out).1 6; have bf0 : w2.frozen? ⟨w.heap.size + 1, 0, none⟩ = false := (frz7 HX6.out E2.out HX3.out).2 0; have bf1 : w2.frozen? ⟨w.heap.size + 1, 1, none⟩ = false := (frz7 HX6.out E2.out HX3.out).2 1; have bf2 : w2.frozen? ⟨w.heap.size + 1, 2, none⟩ = false := (frz7 HX6.out E2.out HX3.out).2 2; have bf3 : w2.frozen? ⟨w.heap.size + 1, 3, none⟩ = false := (frz7 HX6.out E2.out HX3.out).2 3; have bf4 : w2.frozen? ⟨w.heap.size + 1, 4, none⟩ = false := (frz7 HX6.out E2.out HX3.out).2 4; have bf5 : w2.frozen? ⟨w.heap.size + 1, 5, none⟩ = false := (frz7 HX6.out E2.out HX3.out).2 5; have bf6 : w2.frozen? ⟨w.heap.size + 1, 6, none⟩ = false := (frz7 HX6.out E2.out HX3.out).2 6; have bt0 : w2.cell? ⟨w.heap.size + 1 + 1, 0, none⟩ = some (.int .i64 p.dims) := ((bcell E2.out).1 _ 0 (by rw [HWS.out]; omega)).trans (HC.out 0); have bt1 : w2.cell? ⟨w.heap.size + 1 + 1, 1, none⟩ = some (.int .i64 p.time.n) := ((bcell E2.out).1 _ 1 (by rw [HWS.out]; omega)).trans (HC.out 1); have bt2 : w2.cell? ⟨w.heap.size + 1 + 1, 2, none⟩ = some (.slice ta p.time.cells.length tc) := ((bcell E2.out).1 _ 2 (by rw [HWS.out]; omega)).trans (HC.out 2); have bt3 : w2.cell? ⟨w.heap.size + 1 + 1, 3, none⟩ = some (.int .i64 p.dist.n) := ((bcell E2.out).1 _ 3 (by rw [HWS.out]; omega)).trans (HC.out 3); have bt4 : w2.cell? ⟨w.heap.size + 1 + 1, 4, none⟩ = some (.slice da p.dist.cells.length dc) := ((bcell E2.out).1 _ 4 (by rw [HWS.out]; omega)).trans (HC.out 4); have bt5 : w2.cell? ⟨w.heap.size + 1 + 1, 5, none⟩ = some (.slice va' p.vs.length vc') := ((bcell E2.out).1 _ 5 (by rw [HWS.out]; omega)).trans (HC.out 5); have bt6 : w2.cell? ⟨w.heap.size + 1 + 1, 6, none⟩ = some (.slice ja p.js.length jc) := ((bcell E2.out).1 _ 6 (by rw [HWS.out]; omega)).trans (HC.out 6); have bt7 : w2.cell? ⟨w.heap.size + 1 + 1, 7, none⟩ = some (.slice sa p.ss.length sc) := ((bcell E2.out).1 _ 7 (by rw [HWS.out]; omega)).trans (HC.out 7); have bt8 : w2.cell? ⟨w.heap.size + 1 + 1, 8, none⟩ = some (.int .i64 vi) := ((bcell E2.out).1 _ 8 (by rw [HWS.out]; omega)).trans (HC.out 8); have bt9 : w2.cell? ⟨w.heap.size + 1 + 1, 9, none⟩ = some (.slice (some ⟨b, off, none⟩) m vc) := ((bcell E2.out).1 _ 9 (by rw [HWS.out]; omega)).trans (HC.out 9); clear k2 at0 at1 at2 at3 at4 at5 at6 at7 at8 at9 ac0 af0 ac1 af1 ac2 af2 ac3 af3 ac4 af4 ac5 af5 ac6 af6) | (go_at_call 71; rw [← hW]; refine (H71.out _ HBW.out).mono ?_; rintro e w1 ⟨rfl, k1⟩; rw [HMB.out]; have E1 := hide k1; have ac0 : w1.cell? ⟨w.heap.size + 1, 0, none⟩ = some (.int .i64 0) := (frz7 HX6.out k1 HX3.out).1 0; have ac1 : w1.cell? ⟨w.heap.size + 1, 1, none⟩ = some (.slice none 0 0) := (frz7 HX6.out k1 HX3.out).1 1; have ac2 : w1.cell? ⟨w.heap.size + 1, 2, none⟩ = some (.int .i64 0) := (frz7 HX6.out k1 HX3.out).1 2; have ac3 : w1.cell? ⟨w.heap.size + 1, 3, none⟩ = some (.int .i64 0) := (frz7 HX6.out k1 HX3.out).1 3; have ac4 : w1.cell? ⟨w.heap.size + 1, 4, none⟩ = some (.int .i64 0) := (frz7 HX6.out k1 HX3.out).1 4; have ac5 : w1.cell? ⟨w.heap.size + 1, 5, none⟩ = some (.int .i64 0) := (frz7 HX6.out k1 HX3.out).1 5; have ac6 : w1.cell? ⟨w.heap.size + 1, 6, none⟩ = some (.int .i64 0) := (frz7 HX6.out k1 HX3.out).1 6; have af0 : w1.frozen? ⟨w.heap.size + 1, 0, none⟩ = false := (frz7 HX6.out k1 HX3.out).2 0; have af1 : w1.frozen? ⟨w.heap.size + 1, 1, none⟩ = false := (frz7 HX6.out k1 HX3.out).2 1; have af2 : w1.frozen? ⟨w.heap.size + 1, 2, none⟩ = false := (frz7 HX6.out k1 HX3.out).2 2; have af3 : w1.frozen? ⟨w.heap.size + 1, 3, none⟩ = false := (frz7 HX6.out k1 HX3.out).2 3; have af4 : w1.frozen? ⟨w.heap.size + 1, 4, none⟩ = false := (frz7 HX6.out k1 HX3.out).2 4; have af5 : w1.frozen? ⟨w.heap.size + 1, 5, none⟩ = false := (frz7 HX6.out k1 HX3.out).2 5; have af6 : w1.frozen? ⟨w.heap.size + 1, 6, none⟩ = false := (frz7 HX6.out k1 HX3.out).2 6; have at0 : w1.cell? ⟨w.heap.size + 1 + 1, 0, none⟩ = some (.int .i64 p.dims) := ((bcell k1).1 _ 0 (by rw [HWS.out]; omega)).trans (HC.out 0); have at1 : w1.cell? ⟨w.heap.size + 1 + 1, 1, none⟩ = some (.int .i64 p.time.n) := ((bcell k1).1 _ 1 (by rw [HWS.out]; omega)).trans (HC.out 1); have at2 : w1.cell? ⟨w.heap.size + 1 + 1, 2, none⟩ = some (.slice ta p.time.cells.length tc) := ((bcell k1).1 _ 2 (by rw [HWS.out]; omega)).trans (HC.out 2); have at3 : w1.cell? ⟨w.heap.size + 1 + 1, 3, none⟩ = some (.int .i64 p.dist.n) := ((bcell k1).1 _ 3 (by rw [HWS.out]; omega)).trans (HC.out 3); have at4 : w1.cell? ⟨w.heap.size + 1 + 1, 4, none⟩ = some (.slice da p.dist.cells.length dc) := ((bcell k1).1 _ 4 (by rw [HWS.out]; omega)).trans (HC.out 4); have at5 : w1.cell? ⟨w.heap.size + 1 + 1, 5, none⟩ = some (.slice va' p.vs.length vc') := ((bcell k1).1 _ 5 (by rw [HWS.out]; omega)).trans (HC.out 5); have at6 : w1.cell? ⟨w.heap.size + 1 + 1, 6, none⟩ = some (.slice ja p.js.length jc) := ((bcell k1).1 _ 6 (by rw [HWS.out]; omega)).trans (HC.out 6); have at7 : w1.cell? ⟨w.heap.size + 1 + 1, 7, none⟩ = some (.slice sa p.ss.length sc) := ((bcell k1).1 _ 7 (by rw [HWS.out]; omega)).trans (HC.out 7); have at8 : w1.cell? ⟨w.heap.size + 1 + 1, 8, none⟩ = some (.int .i64 vi) := ((bcell k1).1 _ 8 (by rw [HWS.out]; omega)).trans (HC.out 8); have at9 : w1.cell? ⟨w.heap.size + 1 + 1, 9, none⟩ = some (.slice (some ⟨b, off, none⟩) m vc) := ((bcell k1).1 _ 9 (by rw [HWS.out]; omega)).trans (HC.out 9); clear k1) | fail)
    refine bodyPost_ret (v := .tuple #[.agg #[.int .i64 0, .slice none 0 0, .int .i64 0, .int .i64 0, .int .i64 0, .int .i64 0, .int .i64 0], .int .i64 162]) ?_ rfl ⟨_, by rw [HE.out.1], by rw [HE.out.2]; exact planZ_any _ _, ?_⟩
    · simp [results, Try.results40, go_sem, *]
    · have HBE := below_on HBW.out E2.out
      repeat (first | (with_reducible exact HBE) | (with_reducible refine Below.setCell ?_ (by simp) _) | (with_reducible refine Below.drew ?_))
  | false =>
    have HE : Hid (easyE p vi V = ofE p vi (headV p vi V) ∧ easyP p vi V = ofP p vi (headV p vi V)) := by unfold easyE easyP; rw [HMB.out, HHB.out]; exact ⟨rfl, rfl⟩
    have HN7 := hide (HNE.out HMB.out HHB.out)
    obtain ⟨k, hk0, hk⟩ := man_nat HMB.out
    have HVK : Hid (vi.toNat = k) := by show _ = _; rw [hk0]; simp
    obtain ⟨ca, cc, ba, bc, hcar⟩ := HP.out.car hk
    have HCAR := hide hcar
    obtain ⟨nb, hnb⟩ : ∃ q, (p.vs.getD k vz).brks.length = q := ⟨_, rfl⟩
    have HNB := hide hnb
    have hnb2 : nb ≤ 2 := by rw [← hnb]; exact (veh_ok (law_veh HL.out hk)).two
    have HHV : Hid (headV p vi V = setM V (List.replicate nb 0)) := by show _ = _; unfold headV; rw [HVK.out, hnb]
    obtain ⟨V2, hV2⟩ : ∃ V2, headV p vi V = V2 := ⟨_, rfl⟩
    rw [hV2] at HE HN7 HHV
    have HV2L : Hid (V2.length = m + nb) := by show _ = _; rw [HHV.out, setM_len, HM.out, List.length_replicate]
    clear hV2
    have H74 : Hid (∀ W2, Below w.heap.size w W2 → Calls Try.prog 74 #[.agg #[.int .i64 p.dims, .int .i64 p.time.n, .slice ta p.time.cells.length tc, .int .i64 p.dist.n, .slice da p.dist.cells.length dc, .slice va' p.vs.length vc', .slice ja p.js.length jc, .slice sa p.ss.length sc, .int .i64 vi, .slice (some ⟨b, off, none⟩) m vc]] W2 fun e w' => e = .returned (.agg (vehA (p.vs.getD k vz) (.slice ca (p.vs.getD k vz).cap.length cc) (.slice ba nb bc))) ∧ Below W2.heap.size W2 w') := fun W2 hf => by have h9 := car_at (va := some ⟨b, off, none⟩) (m := m) (vc := vc) (HP.out.on hf) (HCAR.out.on hf); rw [HNB.out] at h9; rw [hk0]; exact h9
    have H45 : Hid (∀ W2 ax, Below w.heap.size w W2 → IntsAt W2 ax (List.replicate nb 0) → Calls Try.prog 45 #[.slice (some ⟨b, off, none⟩) m vc, .slice ax nb nb] W2 fun e w' => ∃ a c, e = .returned (.slice a (m + nb) c) ∧ (VsV w' (.slice a (m + nb) c) V2 ∧ (a = none → c = 0)) ∧ Below W2.heap.size W2 w') := fun W2 ax hf hx => by
      have h9 := set_any (n := nb) (ac := nb) (PrV.on HV.out hf) HM.out (by omega) hvc hx (by simp) (by omega)
      rw [← HHV.out] at h9
      refine h9.mono ?_
      rintro e w' ⟨v, rfl, hr, k9⟩
      obtain ⟨a, c, rfl, hz⟩ := hr.shape
      rw [HV2L.out] at hr ⊢
      exact ⟨a, c, rfl, ⟨hr.vs (by rw [HV2L.out]; omega), hz⟩, k9⟩
    have H36 : Hid (∀ W2 a c, Below w.heap.size w W2 → VsV W2 (.slice a (m + nb) c) V2 ∧ (a = none → c = 0) → Calls Try.prog 36 #[.agg #[.int .i64 p.dims, .int .i64 p.time.n, .slice ta p.time.cells.length tc, .int .i64 p.dist.n, .slice da p.dist.cells.length dc, .slice va' p.vs.length vc', .slice ja p.js.length jc, .slice sa p.ss.length sc], .int .i64 vi, .slice a (m + nb) c] W2 fun e w' => ∃ v, e = .returned (.tuple #[v, .int .i64 (ofE p vi V2)]) ∧ PlanV w' W2.heap.size v (ofP p vi V2) ∧ Below W2.heap.size W2 w') := fun W2 a c hf hv => by have h9 := pof_any (vi := vi) (HP.out.on hf) HL.out hv.1 HV2L.out (by omega) hv.2; exact h9
    obtain ⟨E0, hE0⟩ : ∃ E0, ofE p vi V2 = E0 := ⟨_, rfl⟩
    obtain ⟨P0, hP0⟩ : ∃ P0, ofP p vi V2 = P0 := ⟨_, rfl⟩
    rw [hE0, hP0] at HE
    rw [hE0] at HN7
    simp only [hE0, hP0] at H36
    have hne7 : (E0 != 167) = true := by have := HN7.out; simpa using this
    have HMI := hide (fun wx => Ld.made_ints nb (by omega) wx)
    have hmi := fun wx => Ld.made_ints nb (by omega) wx
    clear hE0 hP0 hcar hnb hk0
    have hfd9 : ∀ X, (Instr.field 86 (.agg (vehA (p.vs.getD k vz) (.slice ca (p.vs.getD k vz).cap.length cc) (.slice ba nb bc))) 9).run Try.prog X = .ok (.slice ba nb bc) X := fun X => by kernel_rfl
    obtain ⟨v1, hv1⟩ : ∃ v1, p.vs.getD k vz = v1 := ⟨_, rfl⟩
    rw [hv1] at H74 hfd9
    clear hv1
    go_enter Try.func40, Try.ntmps40
    go_wp2_with (first | (go_at_call 74; refine (H74.out _ (below_on HBW.out E2.out)).mono ?_; rintro e w3 ⟨rfl, k3⟩; have E3 := hide (below_on E2.out k3); clear k3 bt0 bt1 bt2 bt3 bt4 bt5 bt6 bt7 bt8 bt9 bc0 bf0 bc1 bf1 bc2 bf2 bc3 bf3 bc4 bf4 bc5 bf5 bc6 bf6) | (go_at_call 72; refine (H72.out _ (below_on HBW.out E1.out)).mono ?_; rintro e w2 ⟨rfl, k2⟩; rw [HHB.out]; have E2 := hide (below_on E1.out k2); have bc0 : w2.cell? ⟨w.heap.size + 1, 0, none⟩ = some (.int .i64 0) := (frz7 HX6.out E2.out HX3.out).1 0; have bc1 : w2.cell? ⟨w.heap.size + 1, 1, none⟩ = some (.slice none 0 0) := (frz7 HX6.out E2.out HX3.out).1 1; have bc2 : w2.cell? ⟨w.heap.size + 1, 2, none⟩ = some (.int .i64 0) := (frz7 HX6.out E2.out HX3.out).1 2; have bc3 : w2.cell? ⟨w.heap.size + 1, 3, none⟩ = some (.int .i64 0) := (frz7 HX6.out E2.out HX3.out).1 3; have bc4 : w2.cell? ⟨w.heap.size + 1, 4, none⟩ = some (.int .i64 0) := (frz7 HX6.out E2.out HX3.out).1 4; have bc5 : w2.cell? ⟨w.heap.size + 1, 5, none⟩ = some (.int .i64 0) := (frz7 HX6.out E2.out HX3.out).1 5; have bc6 : w2.cell? ⟨w.heap.size + 1, 6, none⟩ = some (.int .i64 0) := (frz7 HX6.out E2.out HX3.out).1 6; have bf0 : w2.frozen? ⟨w.heap.size + 1, 0, none⟩ = false := (frz7 HX6.out E2.out HX3.out).2 0; have bf1 : w2.frozen? ⟨w.heap.size + 1, 1, none⟩ = false := (frz7 HX6.out E2.out HX3.out).2 1; have bf2 : w2.frozen? ⟨w.heap.size + 1, 2, none⟩ = false := (frz7 HX6.out E2.out HX3.out).2 2; have bf3 : w2.frozen? ⟨w.heap.size + 1, 3, none⟩ = false := (frz7 HX6.out E2.out HX3.out).2 3; have bf4 : w2.frozen? ⟨w.heap.size + 1, 4, none⟩ = false := (frz7 HX6.out E2.out HX3.out).2 4; have bf5 : w2.frozen? ⟨w.heap.size + 1, 5, none⟩ = false := (frz7 HX6.out E2.out HX3.out).2 5; have bf6 : w2.frozen? ⟨w.heap.size + 1, 6, none⟩ = false := (frz7 HX6.out E2.out HX3.out).2 6; have bt0 : w2.cell? ⟨w.heap.size + 1 + 1, 0, none⟩ = some (.int .i64 p.dims) := ((bcell E2.out).1 _ 0 (by rw [HWS.out]; omega)).trans (HC.out 0); have bt1 : w2.cell? ⟨w.heap.size + 1 + 1, 1, none⟩ = some (.int .i64 p.time.n) := ((bcell E2.out).1 _ 1 (by rw [HWS.out]; omega)).trans (HC.out 1); have bt2 : w2.cell? ⟨w.heap.size + 1 + 1, 2, none⟩ = some (.slice ta p.time.cells.length tc) := ((bcell E2.out).1 _ 2 (by rw [HWS.out]; omega)).trans (HC.out 2); have bt3 : w2.cell? ⟨w.heap.size + 1 + 1, 3, none⟩ = some (.int .i64 p.dist.n) := ((bcell E2.out).1 _ 3 (by rw [HWS.out]; omega)).trans (HC.out 3); have bt4 : w2.cell? ⟨w.heap.size + 1 + 1, 4, none⟩ = some (.slice da p.dist.cells.length dc) := ((bcell E2.out).1 _ 4 (by rw [HWS.out]; omega)).trans (HC.out 4); have bt5 : w2.cell? ⟨w.heap.size + 1 + 1, 5, none⟩ = some (.slice va' p.vs.length vc') := ((bcell E2.out).1 _ 5 (by rw [HWS.out]; omega)).trans (HC.out 5); have bt6 : w2.cell? ⟨w.heap.size + 1 + 1, 6, none⟩ = some (.slice ja p.js.length jc) := ((bcell E2.out).1 _ 6 (by rw [HWS.out]; omega)).trans (HC.out 6); have bt7 : w2.cell? ⟨w.heap.size + 1 + 1, 7, none⟩ = some (.slice sa p.ss.length sc) := ((bcell E2.out).1 _ 7 (by rw [HWS.out]; omega)).trans (HC.out 7); have bt8 : w2.cell? ⟨w.heap.size + 1 + 1, 8, none⟩ = some (.int .i64 vi) := ((bcell E2.out).1 _ 8 (by rw [HWS.out]; omega)).trans (HC.out 8); have bt9 : w2.cell? ⟨w.heap.size + 1 + 1, 9, none⟩ = some (.slice (some ⟨b, off, none⟩) m vc) := ((bcell E2.out).1 _ 9 (by rw [HWS.out]; omega)).trans (HC.out 9); clear k2 at0 at1 at2 at3 at4 at5 at6 at7 at8 at9 ac0 af0 ac1 af1 ac2 af2 ac3 af3 ac4 af4 ac5 af5 ac6 af6) | (go_at_call 71; rw [← hW]; refine (H71.out _ HBW.out).mono ?_; rintro e w1 ⟨rfl, k1⟩; rw [HMB.out]; have E1 := hide k1; have ac0 : w1.cell? ⟨w.heap.size + 1, 0, none⟩ = some (.int .i64 0) := (frz7 HX6.out k1 HX3.out).1 0; have ac1 : w1.cell? ⟨w.heap.size + 1, 1, none⟩ = some (.slice none 0 0) := (frz7 HX6.out k1 HX3.out).1 1; have ac2 : w1.cell? ⟨w.heap.size + 1, 2, none⟩ = some (.int .i64 0) := (frz7 HX6.out k1 HX3.out).1 2; have ac3 : w1.cell? ⟨w.heap.size + 1, 3, none⟩ = some (.int .i64 0) := (frz7 HX6.out k1 HX3.out).1 3; have ac4 : w1.cell? ⟨w.heap.size + 1, 4, none⟩ = some (.int .i64 0) := (frz7 HX6.out k1 HX3.out).1 4; have ac5 : w1.cell? ⟨w.heap.size + 1, 5, none⟩ = some (.int .i64 0) := (frz7 HX6.out k1 HX3.out).1 5; have ac6 : w1.cell? ⟨w.heap.size + 1, 6, none⟩ = some (.int .i64 0) := (frz7 HX6.out k1 HX3.out).1 6; have af0 : w1.frozen? ⟨w.heap.size + 1, 0, none⟩ = false := (frz7 HX6.out k1 HX3.out).2 0; have af1 : w1.frozen? ⟨w.heap.size + 1, 1, none⟩ = false := (frz7 HX6.out k1 HX3.out).2 1; have af2 : w1.frozen? ⟨w.heap.size + 1, 2, none⟩ = false := (frz7 HX6.out k1 HX3.out).2 2; have af3 : w1.frozen? ⟨w.heap.size + 1, 3, none⟩ = false := (frz7 HX6.out k1 HX3.out).2 3; have af4 : w1.frozen? ⟨w.heap.size + 1, 4, none⟩ = false := (frz7 HX6.out k1 HX3.out).2 4; have af5 : w1.frozen? ⟨w.heap.size + 1, 5, none⟩ = false := (frz7 HX6.out k1 HX3.out).2 5; have af6 : w1.frozen? ⟨w.heap.size + 1, 6, none⟩ = false := (frz7 HX6.out k1 HX3.out).2 6; have at0 : w1.cell? ⟨w.heap.size + 1 + 1, 0, none⟩ = some (.int .i64 p.dims) := ((bcell k1).1 _ 0 (by rw [HWS.out]; omega)).trans (HC.out 0); have at1 : w1.cell? ⟨w.heap.size + 1 + 1, 1, none⟩ = some (.int .i64 p.time.n) := ((bcell k1).1 _ 1 (by rw [HWS.out]; omega)).trans (HC.out 1); have at2 : w1.cell? ⟨w.heap.size + 1 + 1, 2, none⟩ = some (.slice ta p.time.cells.length tc) := ((bcell k1).1 _ 2 (by rw [HWS.out]; omega)).trans (HC.out 2); have at3 : w1.cell? ⟨w.heap.size + 1 + 1, 3, none⟩ = some (.int .i64 p.dist.n) := ((bcell k1).1 _ 3 (by rw [HWS.out]; omega)).trans (HC.out 3); have at4 : w1.cell? ⟨w.heap.size + 1 + 1, 4, none⟩ = some (.slice da p.dist.cells.length dc) := ((bcell k1).1 _ 4 (by rw [HWS.out]; omega)).trans (HC.out 4); have at5 : w1.cell? ⟨w.heap.size + 1 + 1, 5, none⟩ = some (.slice va' p.vs.length vc') := ((bcell k1).1 _ 5 (by rw [HWS.out]; omega)).trans (HC.out 5); have at6 : w1.cell? ⟨w.heap.size + 1 + 1, 6, none⟩ = some (.slice ja p.js.length jc) := ((bcell k1).1 _ 6 (by rw [HWS.out]; omega)).trans (HC.out 6); have at7 : w1.cell? ⟨w.heap.size + 1 + 1, 7, none⟩ = some (.slice sa p.ss.length sc) := ((bcell k1).1 _ 7 (by rw [HWS.out]; omega)).trans (HC.out 7); have at8 : w1.cell? ⟨w.heap.size + 1 + 1, 8, none⟩ = some (.int .i64 vi) := ((bcell k1).1 _ 8 (by rw [HWS.out]; omega)).trans (HC.out 8); have at9 : w1.cell? ⟨w.heap.size + 1 + 1, 9, none⟩ = some (.slice (some ⟨b, off, none⟩) m vc) := ((bcell k1).1 _ 9 (by rw [HWS.out]; omega)).trans (HC.out 9); clear k1) | fail)
    obtain ⟨w6, hw6⟩ : ∃ w6, w6 = w3.alloc (.cells (Array.replicate nb (.int .i64 0)) 3) := ⟨_, rfl⟩
    rw [← hw6]
    have HR6 : Hid (IRow w6 w3.heap.size (.slice (some ⟨w3.heap.size, 0, none⟩) nb nb) (List.replicate nb 0)) := by show IRow _ _ _ _; rw [hw6]; exact Ld.irow_made w3 (Nat.le_refl _) (by omega)
    have E6 : Hid (Below W.heap.size W w6) := by show Below _ _ _; rw [hw6]; exact below_on E3.out ((Below.refl _ _).alloc (Nat.le_refl _) _)
    have n6 : W.heap.size ≤ w6.heap.size := E6.out.size
    have n61 : w.heap.size + 1 < w6.heap.size := by have := HX3.out; omega
    clear hmi hfd9 hw6
    have cp0 : w6.cell? ⟨w.heap.size, 0, none⟩ = some (.int .i64 p.dims) := ((bcell E6.out).1 _ 0 (by rw [HWS.out]; omega)).trans (HC0.out 0)
    have cp1 : w6.cell? ⟨w.heap.size, 1, none⟩ = some (.int .i64 p.time.n) := ((bcell E6.out).1 _ 1 (by rw [HWS.out]; omega)).trans (HC0.out 1)
    have cp2 : w6.cell? ⟨w.heap.size, 2, none⟩ = some (.slice ta p.time.cells.length tc) := ((bcell E6.out).1 _ 2 (by rw [HWS.out]; omega)).trans (HC0.out 2)
    have cp3 : w6.cell? ⟨w.heap.size, 3, none⟩ = some (.int .i64 p.dist.n) := ((bcell E6.out).1 _ 3 (by rw [HWS.out]; omega)).trans (HC0.out 3)
    have cp4 : w6.cell? ⟨w.heap.size, 4, none⟩ = some (.slice da p.dist.cells.length dc) := ((bcell E6.out).1 _ 4 (by rw [HWS.out]; omega)).trans (HC0.out 4)
    have cp5 : w6.cell? ⟨w.heap.size, 5, none⟩ = some (.slice va' p.vs.length vc') := ((bcell E6.out).1 _ 5 (by rw [HWS.out]; omega)).trans (HC0.out 5)
    have cp6 : w6.cell? ⟨w.heap.size, 6, none⟩ = some (.slice ja p.js.length jc) := ((bcell E6.out).1 _ 6 (by rw [HWS.out]; omega)).trans (HC0.out 6)
    have cp7 : w6.cell? ⟨w.heap.size, 7, none⟩ = some (.slice sa p.ss.length sc) := ((bcell E6.out).1 _ 7 (by rw [HWS.out]; omega)).trans (HC0.out 7)
    refine wp_region_held_drew (S := (fun w' => w'.cell? ⟨w.heap.size, 0, none⟩ = some (.int .i64 p.dims) ∧ w'.cell? ⟨w.heap.size, 1, none⟩ = some (.int .i64 p.time.n) ∧ w'.cell? ⟨w.heap.size, 2, none⟩ = some (.slice ta p.time.cells.length tc) ∧ w'.cell? ⟨w.heap.size, 3, none⟩ = some (.int .i64 p.dist.n) ∧ w'.cell? ⟨w.heap.size, 4, none⟩ = some (.slice da p.dist.cells.length dc) ∧ w'.cell? ⟨w.heap.size, 5, none⟩ = some (.slice va' p.vs.length vc') ∧ w'.cell? ⟨w.heap.size, 6, none⟩ = some (.slice ja p.js.length jc) ∧ w'.cell? ⟨w.heap.size, 7, none⟩ = some (.slice sa p.ss.length sc))) (by kernel_rfl) ?_ (fun hHeld0 => ?_)
    · (try dsimp only); go_keep
    refine wpAnyH_take (i := 0) (oi := { dst := some 30, op := Op.load 29 (Operand.tmp 3), type := 29, pos := "plan.go:51", after := #[], guard := none }) (v := ?_) rfl (by kernel_rfl) (by kernel_rfl) (by kernel_rfl) (fun _ _ _ h => h) (Or.inl ⟨by rfl, ?_⟩) (by assumption) ?_
    rotate_left
    · intro w hSw; (try dsimp only at hSw); first | (go_simp; done) | (go_simp; with_reducible rfl) | with_reducible rfl | rfl
    try simp only [Act.put, List.setIfInBounds_toArray]
    refine wpAnyH_take (i := 1) (oi := { dst := some 31, op := Op.move (Operand.tmp 1), type := 3, pos := "plan.go:51", after := #[], guard := none }) (v := ?_) rfl (by kernel_rfl) (by kernel_rfl) (by kernel_rfl) (fun _ _ _ h => h) (Or.inl ⟨by rfl, ?_⟩) (by assumption) ?_
    rotate_left
    · intro w hSw; (try dsimp only at hSw); first | (go_simp; done) | (go_simp; with_reducible rfl) | with_reducible rfl | rfl
    try simp only [Act.put, List.setIfInBounds_toArray]
    refine wpAnyH_take (i := 2) (oi := { dst := some 32, op := Op.move (Operand.tmp 2), type := 55, pos := "plan.go:51", after := #[], guard := none }) (v := ?_) rfl (by kernel_rfl) (by kernel_rfl) (by kernel_rfl) (fun _ _ _ h => h) (Or.inl ⟨by rfl, ?_⟩) (by assumption) ?_
    rotate_left
    · intro w hSw; (try dsimp only at hSw); first | (go_simp; done) | (go_simp; with_reducible rfl) | with_reducible rfl | rfl
    try simp only [Act.put, List.setIfInBounds_toArray]
    refine wpAnyH_take (i := 3) (oi := { dst := some 33, op := Op.move (Operand.tmp 9), type := 22, pos := "plan.go:51", after := #[], guard := none }) (v := ?_) rfl (by kernel_rfl) (by kernel_rfl) (by kernel_rfl) (fun _ _ _ h => h) (Or.inl ⟨by rfl, ?_⟩) (by assumption) ?_
    rotate_left
    · intro w hSw; (try dsimp only at hSw); first | (go_simp; done) | (go_simp; with_reducible rfl) | with_reducible rfl | rfl
    try simp only [Act.put, List.setIfInBounds_toArray]
    refine wpAnyH_ready (rs := [4, 9]) (by kernel_rfl) (by simp) ?_
    refine AllReadyH.cons (o := { dst := some 34, op := Op.call { callee := Callee.value (Operand.func 45), args := #[Operand.tmp 32, Operand.tmp 33], argTypes := #[55, 22] }, type := 55, pos := "plan.go:51", after := #[{ on := 2, ground := Ground.data }, { on := 3, ground := Ground.data }], guard := none }) rfl (fun K hK => ?_) ?_
    ·(refine held_call (by rfl) 45 _ _ (by rfl) hent45 [.slice (some ⟨b, off, none⟩) m vc, .slice (some ⟨w3.heap.size, 0, none⟩) nb nb] (by rfl) ?_; refine (H45.out _ _ (below_on HBW.out (below_on E6.out ((Below.refl _ _).drew))) ((IRow.ints HR6.out).later ((Below.refl _ _).drew))).mono ?_; rintro e w7 ⟨a7, c7, rfl, hv7, k7⟩; refine ⟨_, rfl, ?_⟩; have HV7 := hide hv7; have K7 := hide (below_on ((Below.refl _ _).drew) k7); have E7 := hide (below_on E6.out K7.out); have n7 : w6.heap.size ≤ w7.heap.size := K7.out.size; have dp0 : w7.cell? ⟨w.heap.size, 0, none⟩ = some (.int .i64 p.dims) := ((bcell E7.out).1 _ 0 (by rw [HWS.out]; omega)).trans (HC0.out 0); have dp1 : w7.cell? ⟨w.heap.size, 1, none⟩ = some (.int .i64 p.time.n) := ((bcell E7.out).1 _ 1 (by rw [HWS.out]; omega)).trans (HC0.out 1); have dp2 : w7.cell? ⟨w.heap.size, 2, none⟩ = some (.slice ta p.time.cells.length tc) := ((bcell E7.out).1 _ 2 (by rw [HWS.out]; omega)).trans (HC0.out 2); have dp3 : w7.cell? ⟨w.heap.size, 3, none⟩ = some (.int .i64 p.dist.n) := ((bcell E7.out).1 _ 3 (by rw [HWS.out]; omega)).trans (HC0.out 3); have dp4 : w7.cell? ⟨w.heap.size, 4, none⟩ = some (.slice da p.dist.cells.length dc) := ((bcell E7.out).1 _ 4 (by rw [HWS.out]; omega)).trans (HC0.out 4); have dp5 : w7.cell? ⟨w.heap.size, 5, none⟩ = some (.slice va' p.vs.length vc') := ((bcell E7.out).1 _ 5 (by rw [HWS.out]; omega)).trans (HC0.out 5); have dp6 : w7.cell? ⟨w.heap.size, 6, none⟩ = some (.slice ja p.js.length jc) := ((bcell E7.out).1 _ 6 (by rw [HWS.out]; omega)).trans (HC0.out 6); have dp7 : w7.cell? ⟨w.heap.size, 7, none⟩ = some (.slice sa p.ss.length sc) := ((bcell E7.out).1 _ 7 (by rw [HWS.out]; omega)).trans (HC0.out 7); clear k7 hv7)
     refine hK.out _ _ ?_ (fun hHeld1 => ?_)
     · (try dsimp only); go_keep
     clear hK K
     try simp only [Act.put, List.setIfInBounds_toArray]
     clear hHeld0
     refine wpAnyH_ready (rs := [5, 9]) (by kernel_rfl) (by simp) ?_
     refine AllReadyH.cons (o := { dst := some 35, op := Op.call { callee := Callee.value (Operand.func 36), args := #[Operand.tmp 30, Operand.tmp 31, Operand.tmp 34], argTypes := #[29, 3, 55] }, type := 72, pos := "plan.go:51", after := #[{ on := 0, ground := Ground.data }, { on := 1, ground := Ground.data }, { on := 4, ground := Ground.data }, { on := 4, ground := Ground.chain }], guard := none }) rfl (fun K hK => ?_) ?_
     ·(refine held_call (by rfl) 36 _ _ (by rfl) hent36 [.agg #[.int .i64 p.dims, .int .i64 p.time.n, .slice ta p.time.cells.length tc, .int .i64 p.dist.n, .slice da p.dist.cells.length dc, .slice va' p.vs.length vc', .slice ja p.js.length jc, .slice sa p.ss.length sc], .int .i64 vi, .slice a7 (m + nb) c7] (by rfl) ?_; refine (H36.out _ _ _ (below_on HBW.out (below_on E7.out (Below.refl _ _))) ⟨PrV.on HV7.out.1 (Below.refl _ _), HV7.out.2⟩).mono ?_; rintro e w8 ⟨v8, rfl, hp8, k8⟩; refine ⟨_, rfl, ?_⟩; have HPL := hide hp8; have K8 := hide (below_on (Below.refl _ _) k8); have E8 := hide (below_on E7.out K8.out); have n8 : w7.heap.size ≤ w8.heap.size := K8.out.size; obtain ⟨pa, pn, pc, ys, rfl, _, _, _⟩ := hp8; unfold planC at HPL ⊢; have ep0 : w8.cell? ⟨w.heap.size, 0, none⟩ = some (.int .i64 p.dims) := ((bcell E8.out).1 _ 0 (by rw [HWS.out]; omega)).trans (HC0.out 0); have ep1 : w8.cell? ⟨w.heap.size, 1, none⟩ = some (.int .i64 p.time.n) := ((bcell E8.out).1 _ 1 (by rw [HWS.out]; omega)).trans (HC0.out 1); have ep2 : w8.cell? ⟨w.heap.size, 2, none⟩ = some (.slice ta p.time.cells.length tc) := ((bcell E8.out).1 _ 2 (by rw [HWS.out]; omega)).trans (HC0.out 2); have ep3 : w8.cell? ⟨w.heap.size, 3, none⟩ = some (.int .i64 p.dist.n) := ((bcell E8.out).1 _ 3 (by rw [HWS.out]; omega)).trans (HC0.out 3); have ep4 : w8.cell? ⟨w.heap.size, 4, none⟩ = some (.slice da p.dist.cells.length dc) := ((bcell E8.out).1 _ 4 (by rw [HWS.out]; omega)).trans (HC0.out 4); have ep5 : w8.cell? ⟨w.heap.size, 5, none⟩ = some (.slice va' p.vs.length vc') := ((bcell E8.out).1 _ 5 (by rw [HWS.out]; omega)).trans (HC0.out 5); have ep6 : w8.cell? ⟨w.heap.size, 6, none⟩ = some (.slice ja p.js.length jc) := ((bcell E8.out).1 _ 6 (by rw [HWS.out]; omega)).trans (HC0.out 6); have ep7 : w8.cell? ⟨w.heap.size, 7, none⟩ = some (.slice sa p.ss.length sc) := ((bcell E8.out).1 _ 7 (by rw [HWS.out]; omega)).trans (HC0.out 7); have ec0 : w8.cell? ⟨w.heap.size + 1, 0, none⟩ = some (.int .i64 0) := (frz7 HX6.out E8.out HX3.out).1 0; have ec1 : w8.cell? ⟨w.heap.size + 1, 1, none⟩ = some (.slice none 0 0) := (frz7 HX6.out E8.out HX3.out).1 1; have ec2 : w8.cell? ⟨w.heap.size + 1, 2, none⟩ = some (.int .i64 0) := (frz7 HX6.out E8.out HX3.out).1 2; have ec3 : w8.cell? ⟨w.heap.size + 1, 3, none⟩ = some (.int .i64 0) := (frz7 HX6.out E8.out HX3.out).1 3; have ec4 : w8.cell? ⟨w.heap.size + 1, 4, none⟩ = some (.int .i64 0) := (frz7 HX6.out E8.out HX3.out).1 4; have ec5 : w8.cell? ⟨w.heap.size + 1, 5, none⟩ = some (.int .i64 0) := (frz7 HX6.out E8.out HX3.out).1 5; have ec6 : w8.cell? ⟨w.heap.size + 1, 6, none⟩ = some (.int .i64 0) := (frz7 HX6.out E8.out HX3.out).1 6; have ef0 : w8.frozen? ⟨w.heap.size + 1, 0, none⟩ = false := (frz7 HX6.out E8.out HX3.out).2 0; have ef1 : w8.frozen? ⟨w.heap.size + 1, 1, none⟩ = false := (frz7 HX6.out E8.out HX3.out).2 1; have ef2 : w8.frozen? ⟨w.heap.size + 1, 2, none⟩ = false := (frz7 HX6.out E8.out HX3.out).2 2; have ef3 : w8.frozen? ⟨w.heap.size + 1, 3, none⟩ = false := (frz7 HX6.out E8.out HX3.out).2 3; have ef4 : w8.frozen? ⟨w.heap.size + 1, 4, none⟩ = false := (frz7 HX6.out E8.out HX3.out).2 4; have ef5 : w8.frozen? ⟨w.heap.size + 1, 5, none⟩ = false := (frz7 HX6.out E8.out HX3.out).2 5; have ef6 : w8.frozen? ⟨w.heap.size + 1, 6, none⟩ = false := (frz7 HX6.out E8.out HX3.out).2 6; have m80 : ¬ w.heap.size = w8.heap.size := (by omega); have m81 : ¬ w.heap.size + 1 = w8.heap.size := (by omega); clear k8)
      refine hK.out _ _ ?_ (fun hHeld2 => ?_)
      · (try dsimp only); go_keep
      clear hK K
      try simp only [Act.put, List.setIfInBounds_toArray]
      clear hHeld1
      refine wpAnyH_take (i := 6) (oi := { dst := some 29, op := Op.move (Operand.tmp 35), type := 72, pos := "plan.go:51", after := #[{ on := 5, ground := Ground.data }], guard := none }) (v := ?_) rfl (by kernel_rfl) (by kernel_rfl) (by kernel_rfl) (fun _ _ _ h => h) (Or.inl ⟨by rfl, ?_⟩) (by assumption) ?_
      rotate_left
      · intro w hSw; (try dsimp only at hSw); first | (go_simp; done) | (go_simp; with_reducible rfl) | with_reducible rfl | rfl
      try simp only [Act.put, List.setIfInBounds_toArray]
      refine wpAnyH_take (i := 7) (oi := { dst := some 36, op := Op.extract (Operand.tmp 29) 0, type := 71, pos := "plan.go:51", after := #[{ on := 6, ground := Ground.data }], guard := none }) (v := ?_) rfl (by kernel_rfl) (by kernel_rfl) (by kernel_rfl) (fun _ _ _ h => h) (Or.inl ⟨by rfl, ?_⟩) (by assumption) ?_
      rotate_left
      · intro w hSw; (try dsimp only at hSw); first | (go_simp; done) | (go_simp; with_reducible rfl) | with_reducible rfl | rfl
      try simp only [Act.put, List.setIfInBounds_toArray]
      refine wpAnyH_take (i := 8) (oi := { dst := some 37, op := Op.extract (Operand.tmp 29) 1, type := 62, pos := "plan.go:51", after := #[{ on := 6, ground := Ground.data }, { on := 10, ground := Ground.gcOnly Departure.lateStores }], guard := none }) (v := ?_) rfl (by kernel_rfl) (by kernel_rfl) (by kernel_rfl) (fun _ _ _ h => h) (Or.inl ⟨by rfl, ?_⟩) (by assumption) ?_
      rotate_left
      · intro w hSw; (try dsimp only at hSw); first | (go_simp; done) | (go_simp; with_reducible rfl) | with_reducible rfl | rfl
      try simp only [Act.put, List.setIfInBounds_toArray]
      refine wpAnyH_ready (rs := [9]) (by kernel_rfl) (by simp) ?_
      refine AllReadyH.cons (o := { dst := some 10, op := Op.alloc 71, type := 0, pos := "plan.go:51", after := #[], guard := none }) rfl (fun K hK => ?_) ?_
      ·go_simp
       refine hK.out _ _ ?_ (fun hHeld3 => ?_)
       · (try dsimp only); go_keep
       clear hK K
       try simp only [Act.put, List.setIfInBounds_toArray]
       clear hHeld2
       refine wpAnyH_ready (rs := [10]) (by kernel_rfl) (by simp) ?_
       refine AllReadyH.cons (o := { dst := none, op := Op.store 71 (Operand.tmp 10) (Operand.tmp 36), type := 0, pos := "plan.go:51", after := #[{ on := 9, ground := Ground.data }, { on := 7, ground := Ground.data }, { on := 5, ground := Ground.chain }, { on := 0, ground := Ground.phase }, { on := 1, ground := Ground.phase }, { on := 2, ground := Ground.phase }, { on := 3, ground := Ground.phase }, { on := 4, ground := Ground.phase }, { on := 5, ground := Ground.phase }, { on := 6, ground := Ground.phase }, { on := 7, ground := Ground.phase }, { on := 8, ground := Ground.textOnly Departure.lateStores }, { on := 9, ground := Ground.phase }], guard := none }) rfl (fun K hK => ?_) ?_
       ·go_simp
        refine hK.out _ _ ?_ (fun hHeld4 => ?_)
        · (try dsimp only); (first | (go_keep; done) | (refine ⟨?_, ?_, ?_, ?_, ?_, ?_, ?_, ?_⟩ <;> (refine cell_same (w := w8) ?_ (by assumption); (repeat rw [heap_setCell_other _ _ _ _ (by simp; omega)]))))
        clear hK K
        try simp only [Act.put, List.setIfInBounds_toArray]
        clear hHeld3
        refine wpAnyH_take (i := 11) (oi := { dst := some 11, op := Op.assign (Operand.tmp 37), type := 62, pos := "plan.go:51", after := #[{ on := 8, ground := Ground.data }, { on := 10, ground := Ground.chain }, { on := 0, ground := Ground.phase }, { on := 1, ground := Ground.phase }, { on := 2, ground := Ground.phase }, { on := 3, ground := Ground.phase }, { on := 4, ground := Ground.phase }, { on := 5, ground := Ground.phase }, { on := 6, ground := Ground.phase }, { on := 7, ground := Ground.phase }, { on := 8, ground := Ground.phase }, { on := 9, ground := Ground.phase }, { on := 10, ground := Ground.phase }], guard := none }) (v := ?_) rfl (by kernel_rfl) (by kernel_rfl) (by kernel_rfl) (fun _ _ _ h => h) (Or.inl ⟨by rfl, ?_⟩) (by assumption) ?_
        rotate_left
        · intro w hSw; (try dsimp only at hSw); first | (go_simp; done) | (go_simp; with_reducible rfl) | with_reducible rfl | rfl
        try simp only [Act.put, List.setIfInBounds_toArray]
        refine wpAnyH_done (by kernel_rfl) ?_ _
        clear hHeld4
        generalize hwz : w8.alloc (.cells #[.int .i64 P0.veh, .slice pa pn pc, .int .i64 P0.time, .int .i64 P0.dist, .int .i64 P0.wait, .int .i64 P0.serv, .int .i64 P0.cost] 71) = wz
        have HZ1 : Hid (wz.heap[w8.heap.size]? = some (.cells #[.int .i64 P0.veh, .slice pa pn pc, .int .i64 P0.time, .int .i64 P0.dist, .int .i64 P0.wait, .int .i64 P0.serv, .int .i64 P0.cost] 71)) := by show _ = _; rw [← hwz]; exact heap_alloc_new _ _
        have KZ : Hid (Below w8.heap.size w8 wz) := by show Below _ _ _; rw [← hwz]; exact (Below.refl _ _).alloc (Nat.le_refl _) _
        have HPZ := hide (HPL.out.on KZ.out)
        have EZ := hide (below_on (below_on HBW.out E8.out) KZ.out)
        have e61 := KZ.out.block (w.heap.size + 1) (by omega)
        clear hwz
        have zc0 : wz.cell? ⟨w8.heap.size, 0, none⟩ = some (.int .i64 P0.veh) := cell_of_row _ _ _ _ _ _ HZ1.out
        have zc1 : wz.cell? ⟨w8.heap.size, 1, none⟩ = some (.slice pa pn pc) := cell_of_row _ _ _ _ _ _ HZ1.out
        have zc2 : wz.cell? ⟨w8.heap.size, 2, none⟩ = some (.int .i64 P0.time) := cell_of_row _ _ _ _ _ _ HZ1.out
        have zc3 : wz.cell? ⟨w8.heap.size, 3, none⟩ = some (.int .i64 P0.dist) := cell_of_row _ _ _ _ _ _ HZ1.out
        have zc4 : wz.cell? ⟨w8.heap.size, 4, none⟩ = some (.int .i64 P0.wait) := cell_of_row _ _ _ _ _ _ HZ1.out
        have zc5 : wz.cell? ⟨w8.heap.size, 5, none⟩ = some (.int .i64 P0.serv) := cell_of_row _ _ _ _ _ _ HZ1.out
        have zc6 : wz.cell? ⟨w8.heap.size, 6, none⟩ = some (.int .i64 P0.cost) := cell_of_row _ _ _ _ _ _ HZ1.out
        have HX6z := hide ((E8.out.block _ HX3.out).trans HX6.out)
        have yc0 : wz.cell? ⟨w.heap.size + 1, 0, none⟩ = some (.int .i64 0) := (frz7' HX6z.out e61).1 0
        have yc1 : wz.cell? ⟨w.heap.size + 1, 1, none⟩ = some (.slice none 0 0) := (frz7' HX6z.out e61).1 1
        have yc2 : wz.cell? ⟨w.heap.size + 1, 2, none⟩ = some (.int .i64 0) := (frz7' HX6z.out e61).1 2
        have yc3 : wz.cell? ⟨w.heap.size + 1, 3, none⟩ = some (.int .i64 0) := (frz7' HX6z.out e61).1 3
        have yc4 : wz.cell? ⟨w.heap.size + 1, 4, none⟩ = some (.int .i64 0) := (frz7' HX6z.out e61).1 4
        have yc5 : wz.cell? ⟨w.heap.size + 1, 5, none⟩ = some (.int .i64 0) := (frz7' HX6z.out e61).1 5
        have yc6 : wz.cell? ⟨w.heap.size + 1, 6, none⟩ = some (.int .i64 0) := (frz7' HX6z.out e61).1 6
        have yf0 : wz.frozen? ⟨w.heap.size + 1, 0, none⟩ = false := (frz7' HX6z.out e61).2 0
        have yf1 : wz.frozen? ⟨w.heap.size + 1, 1, none⟩ = false := (frz7' HX6z.out e61).2 1
        have yf2 : wz.frozen? ⟨w.heap.size + 1, 2, none⟩ = false := (frz7' HX6z.out e61).2 2
        have yf3 : wz.frozen? ⟨w.heap.size + 1, 3, none⟩ = false := (frz7' HX6z.out e61).2 3
        have yf4 : wz.frozen? ⟨w.heap.size + 1, 4, none⟩ = false := (frz7' HX6z.out e61).2 4
        have yf5 : wz.frozen? ⟨w.heap.size + 1, 5, none⟩ = false := (frz7' HX6z.out e61).2 5
        have yf6 : wz.frozen? ⟨w.heap.size + 1, 6, none⟩ = false := (frz7' HX6z.out e61).2 6
        clear e61 ec0 ef0 ec1 ef1 ec2 ef2 ec3 ef3 ec4 ef4 ec5 ef5 ec6 ef6 ep0 dp0 ep1 dp1 ep2 dp2 ep3 dp3 ep4 dp4 ep5 dp5 ep6 dp6 ep7 dp7
        go_wp2_with fail
        refine bodyPost_ret (v := .tuple #[.agg #[.int .i64 P0.veh, .slice pa pn pc, .int .i64 P0.time, .int .i64 P0.dist, .int .i64 P0.wait, .int .i64 P0.serv, .int .i64 P0.cost], .int .i64 E0]) ?_ rfl ⟨_, by rw [HE.out.1], ?_, ?_⟩
        · simp [results, Try.results40, go_sem, *]
        · rw [HE.out.2]
          refine PlanV.mono (HPZ.out.set (r := w.heap.size + 1) ?_ (by (try simp); (try omega))) (by (try simp); (try omega))
          repeat (first | (with_reducible exact grw_refl _ _) | (with_reducible refine grw_set ?_ _ _))
        · have HBE := EZ.out
          repeat (first | (with_reducible exact HBE) | (with_reducible refine Below.setCell ?_ (by simp) _) | (with_reducible refine Below.drew ?_))
       exact AllReadyH.nil
      exact AllReadyH.nil
     refine AllReadyH.cons (o := { dst := some 10, op := Op.alloc 71, type := 0, pos := "plan.go:51", after := #[], guard := none }) rfl (fun K hK => ?_) ?_
     ·go_simp
      refine hK.out _ _ ?_ (fun hHeld5 => ?_)
      · (try dsimp only); go_keep
      clear hK K
      try simp only [Act.put, List.setIfInBounds_toArray]
      clear hHeld1
      refine wpAnyH_ready (rs := [5]) (by kernel_rfl) (by simp) ?_
      refine AllReadyH.cons (o := { dst := some 35, op := Op.call { callee := Callee.value (Operand.func 36), args := #[Operand.tmp 30, Operand.tmp 31, Operand.tmp 34], argTypes := #[29, 3, 55] }, type := 72, pos := "plan.go:51", after := #[{ on := 0, ground := Ground.data }, { on := 1, ground := Ground.data }, { on := 4, ground := Ground.data }, { on := 4, ground := Ground.chain }], guard := none }) rfl (fun K hK => ?_) ?_
      ·(refine held_call (by rfl) 36 _ _ (by rfl) hent36 [.agg #[.int .i64 p.dims, .int .i64 p.time.n, .slice ta p.time.cells.length tc, .int .i64 p.dist.n, .slice da p.dist.cells.length dc, .slice va' p.vs.length vc', .slice ja p.js.length jc, .slice sa p.ss.length sc], .int .i64 vi, .slice a7 (m + nb) c7] (by rfl) ?_; refine (H36.out _ _ _ (below_on HBW.out (below_on E7.out ((Below.refl _ _).alloc (Nat.le_refl _) _))) ⟨PrV.on HV7.out.1 ((Below.refl _ _).alloc (Nat.le_refl _) _), HV7.out.2⟩).mono ?_; rintro e w8 ⟨v8, rfl, hp8, k8⟩; refine ⟨_, rfl, ?_⟩; have HPL := hide hp8; have K8 := hide (below_on ((Below.refl _ _).alloc (Nat.le_refl _) _) k8); have E8 := hide (below_on E7.out K8.out); have n8 : w7.heap.size ≤ w8.heap.size := K8.out.size; obtain ⟨pa, pn, pc, ys, rfl, _, _, _⟩ := hp8; unfold planC at HPL ⊢; have ep0 : w8.cell? ⟨w.heap.size, 0, none⟩ = some (.int .i64 p.dims) := ((bcell E8.out).1 _ 0 (by rw [HWS.out]; omega)).trans (HC0.out 0); have ep1 : w8.cell? ⟨w.heap.size, 1, none⟩ = some (.int .i64 p.time.n) := ((bcell E8.out).1 _ 1 (by rw [HWS.out]; omega)).trans (HC0.out 1); have ep2 : w8.cell? ⟨w.heap.size, 2, none⟩ = some (.slice ta p.time.cells.length tc) := ((bcell E8.out).1 _ 2 (by rw [HWS.out]; omega)).trans (HC0.out 2); have ep3 : w8.cell? ⟨w.heap.size, 3, none⟩ = some (.int .i64 p.dist.n) := ((bcell E8.out).1 _ 3 (by rw [HWS.out]; omega)).trans (HC0.out 3); have ep4 : w8.cell? ⟨w.heap.size, 4, none⟩ = some (.slice da p.dist.cells.length dc) := ((bcell E8.out).1 _ 4 (by rw [HWS.out]; omega)).trans (HC0.out 4); have ep5 : w8.cell? ⟨w.heap.size, 5, none⟩ = some (.slice va' p.vs.length vc') := ((bcell E8.out).1 _ 5 (by rw [HWS.out]; omega)).trans (HC0.out 5); have ep6 : w8.cell? ⟨w.heap.size, 6, none⟩ = some (.slice ja p.js.length jc) := ((bcell E8.out).1 _ 6 (by rw [HWS.out]; omega)).trans (HC0.out 6); have ep7 : w8.cell? ⟨w.heap.size, 7, none⟩ = some (.slice sa p.ss.length sc) := ((bcell E8.out).1 _ 7 (by rw [HWS.out]; omega)).trans (HC0.out 7); have ec0 : w8.cell? ⟨w.heap.size + 1, 0, none⟩ = some (.int .i64 0) := (frz7 HX6.out E8.out HX3.out).1 0; have ec1 : w8.cell? ⟨w.heap.size + 1, 1, none⟩ = some (.slice none 0 0) := (frz7 HX6.out E8.out HX3.out).1 1; have ec2 : w8.cell? ⟨w.heap.size + 1, 2, none⟩ = some (.int .i64 0) := (frz7 HX6.out E8.out HX3.out).1 2; have ec3 : w8.cell? ⟨w.heap.size + 1, 3, none⟩ = some (.int .i64 0) := (frz7 HX6.out E8.out HX3.out).1 3; have ec4 : w8.cell? ⟨w.heap.size + 1, 4, none⟩ = some (.int .i64 0) := (frz7 HX6.out E8.out HX3.out).1 4; have ec5 : w8.cell? ⟨w.heap.size + 1, 5, none⟩ = some (.int .i64 0) := (frz7 HX6.out E8.out HX3.out).1 5; have ec6 : w8.cell? ⟨w.heap.size + 1, 6, none⟩ = some (.int .i64 0) := (frz7 HX6.out E8.out HX3.out).1 6; have ef0 : w8.frozen? ⟨w.heap.size + 1, 0, none⟩ = false := (frz7 HX6.out E8.out HX3.out).2 0; have ef1 : w8.frozen? ⟨w.heap.size + 1, 1, none⟩ = false := (frz7 HX6.out E8.out HX3.out).2 1; have ef2 : w8.frozen? ⟨w.heap.size + 1, 2, none⟩ = false := (frz7 HX6.out E8.out HX3.out).2 2; have ef3 : w8.frozen? ⟨w.heap.size + 1, 3, none⟩ = false := (frz7 HX6.out E8.out HX3.out).2 3; have ef4 : w8.frozen? ⟨w.heap.size + 1, 4, none⟩ = false := (frz7 HX6.out E8.out HX3.out).2 4; have ef5 : w8.frozen? ⟨w.heap.size + 1, 5, none⟩ = false := (frz7 HX6.out E8.out HX3.out).2 5; have ef6 : w8.frozen? ⟨w.heap.size + 1, 6, none⟩ = false := (frz7 HX6.out E8.out HX3.out).2 6; have HX8 : Hid (w8.heap[w7.heap.size]? = some (.cells #[.int .i64 0, .slice none 0 0, .int .i64 0, .int .i64 0, .int .i64 0, .int .i64 0, .int .i64 0] 71)) := (k8.block _ (by simp)).trans (heap_alloc_new w7 _); have n81 : w7.heap.size < w8.heap.size := (by have := k8.size; simp at this; omega); have m80 : ¬ w.heap.size = w7.heap.size := (by omega); have m81 : ¬ w.heap.size + 1 = w7.heap.size := (by omega); have gc0 : w8.cell? ⟨w7.heap.size, 0, none⟩ = some (.int .i64 0) := cell_of_row _ _ _ _ _ _ HX8.out; have gf0 : w8.frozen? ⟨w7.heap.size, 0, none⟩ = false := frz_row HX8.out; have gc1 : w8.cell? ⟨w7.heap.size, 1, none⟩ = some (.slice none 0 0) := cell_of_row _ _ _ _ _ _ HX8.out; have gf1 : w8.frozen? ⟨w7.heap.size, 1, none⟩ = false := frz_row HX8.out; have gc2 : w8.cell? ⟨w7.heap.size, 2, none⟩ = some (.int .i64 0) := cell_of_row _ _ _ _ _ _ HX8.out; have gf2 : w8.frozen? ⟨w7.heap.size, 2, none⟩ = false := frz_row HX8.out; have gc3 : w8.cell? ⟨w7.heap.size, 3, none⟩ = some (.int .i64 0) := cell_of_row _ _ _ _ _ _ HX8.out; have gf3 : w8.frozen? ⟨w7.heap.size, 3, none⟩ = false := frz_row HX8.out; have gc4 : w8.cell? ⟨w7.heap.size, 4, none⟩ = some (.int .i64 0) := cell_of_row _ _ _ _ _ _ HX8.out; have gf4 : w8.frozen? ⟨w7.heap.size, 4, none⟩ = false := frz_row HX8.out; have gc5 : w8.cell? ⟨w7.heap.size, 5, none⟩ = some (.int .i64 0) := cell_of_row _ _ _ _ _ _ HX8.out; have gf5 : w8.frozen? ⟨w7.heap.size, 5, none⟩ = false := frz_row HX8.out; have gc6 : w8.cell? ⟨w7.heap.size, 6, none⟩ = some (.int .i64 0) := cell_of_row _ _ _ _ _ _ HX8.out; have gf6 : w8.frozen? ⟨w7.heap.size, 6, none⟩ = false := frz_row HX8.out; clear k8)
       refine hK.out _ _ ?_ (fun hHeld6 => ?_)
       · (try dsimp only); go_keep
       clear hK K
       try simp only [Act.put, List.setIfInBounds_toArray]
       clear hHeld5
       refine wpAnyH_take (i := 6) (oi := { dst := some 29, op := Op.move (Operand.tmp 35), type := 72, pos := "plan.go:51", after := #[{ on := 5, ground := Ground.data }], guard := none }) (v := ?_) rfl (by kernel_rfl) (by kernel_rfl) (by kernel_rfl) (fun _ _ _ h => h) (Or.inl ⟨by rfl, ?_⟩) (by assumption) ?_
       rotate_left
       · intro w hSw; (try dsimp only at hSw); first | (go_simp; done) | (go_simp; with_reducible rfl) | with_reducible rfl | rfl
       try simp only [Act.put, List.setIfInBounds_toArray]
       refine wpAnyH_take (i := 7) (oi := { dst := some 36, op := Op.extract (Operand.tmp 29) 0, type := 71, pos := "plan.go:51", after := #[{ on := 6, ground := Ground.data }], guard := none }) (v := ?_) rfl (by kernel_rfl) (by kernel_rfl) (by kernel_rfl) (fun _ _ _ h => h) (Or.inl ⟨by rfl, ?_⟩) (by assumption) ?_
       rotate_left
       · intro w hSw; (try dsimp only at hSw); first | (go_simp; done) | (go_simp; with_reducible rfl) | with_reducible rfl | rfl
       try simp only [Act.put, List.setIfInBounds_toArray]
       refine wpAnyH_take (i := 8) (oi := { dst := some 37, op := Op.extract (Operand.tmp 29) 1, type := 62, pos := "plan.go:51", after := #[{ on := 6, ground := Ground.data }, { on := 10, ground := Ground.gcOnly Departure.lateStores }], guard := none }) (v := ?_) rfl (by kernel_rfl) (by kernel_rfl) (by kernel_rfl) (fun _ _ _ h => h) (Or.inl ⟨by rfl, ?_⟩) (by assumption) ?_
       rotate_left
       · intro w hSw; (try dsimp only at hSw); first | (go_simp; done) | (go_simp; with_reducible rfl) | with_reducible rfl | rfl
       try simp only [Act.put, List.setIfInBounds_toArray]
       refine wpAnyH_ready (rs := [10]) (by kernel_rfl) (by simp) ?_
       refine AllReadyH.cons (o := { dst := none, op := Op.store 71 (Operand.tmp 10) (Operand.tmp 36), type := 0, pos := "plan.go:51", after := #[{ on := 9, ground := Ground.data }, { on := 7, ground := Ground.data }, { on := 5, ground := Ground.chain }, { on := 0, ground := Ground.phase }, { on := 1, ground := Ground.phase }, { on := 2, ground := Ground.phase }, { on := 3, ground := Ground.phase }, { on := 4, ground := Ground.phase }, { on := 5, ground := Ground.phase }, { on := 6, ground := Ground.phase }, { on := 7, ground := Ground.phase }, { on := 8, ground := Ground.textOnly Departure.lateStores }, { on := 9, ground := Ground.phase }], guard := none }) rfl (fun K hK => ?_) ?_
       ·go_simp
        refine hK.out _ _ ?_ (fun hHeld7 => ?_)
        · (try dsimp only); (first | (go_keep; done) | (refine ⟨?_, ?_, ?_, ?_, ?_, ?_, ?_, ?_⟩ <;> (refine cell_same (w := w8) ?_ (by assumption); (repeat rw [heap_setCell_other _ _ _ _ (by simp; omega)]))))
        clear hK K
        try simp only [Act.put, List.setIfInBounds_toArray]
        clear hHeld6
        refine wpAnyH_take (i := 11) (oi := { dst := some 11, op := Op.assign (Operand.tmp 37), type := 62, pos := "plan.go:51", after := #[{ on := 8, ground := Ground.data }, { on := 10, ground := Ground.chain }, { on := 0, ground := Ground.phase }, { on := 1, ground := Ground.phase }, { on := 2, ground := Ground.phase }, { on := 3, ground := Ground.phase }, { on := 4, ground := Ground.phase }, { on := 5, ground := Ground.phase }, { on := 6, ground := Ground.phase }, { on := 7, ground := Ground.phase }, { on := 8, ground := Ground.phase }, { on := 9, ground := Ground.phase }, { on := 10, ground := Ground.phase }], guard := none }) (v := ?_) rfl (by kernel_rfl) (by kernel_rfl) (by kernel_rfl) (fun _ _ _ h => h) (Or.inl ⟨by rfl, ?_⟩) (by assumption) ?_
        rotate_left
        · intro w hSw; (try dsimp only at hSw); first | (go_simp; done) | (go_simp; with_reducible rfl) | with_reducible rfl | rfl
        try simp only [Act.put, List.setIfInBounds_toArray]
        refine wpAnyH_done (by kernel_rfl) ?_ _
        clear hHeld7
        obtain ⟨wz, hwz, hz1, hz2⟩ := put7 (.int .i64 P0.veh) (.slice pa pn pc) (.int .i64 P0.time) (.int .i64 P0.dist) (.int .i64 P0.wait) (.int .i64 P0.serv) (.int .i64 P0.cost) HX8.out
        rw [← hwz]
        have HZ1 := hide hz1
        have HPZ := hide (HPL.out.set (r := w7.heap.size) hz2 (by (try simp); (try omega)))
        have EZ : Hid (Below w.heap.size w wz) := (below_on HBW.out E8.out).trans (grw_low hz2 (by omega) (by have := (below_on HBW.out E8.out).size; omega))
        have e61 := grw_block hz2 (q := w.heap.size + 1) (by omega) (by omega)
        clear hwz hz1 hz2 gc0 gf0 gc1 gf1 gc2 gf2 gc3 gf3 gc4 gf4 gc5 gf5 gc6 gf6
        have zc0 : wz.cell? ⟨w7.heap.size, 0, none⟩ = some (.int .i64 P0.veh) := cell_of_row _ _ _ _ _ _ HZ1.out
        have zc1 : wz.cell? ⟨w7.heap.size, 1, none⟩ = some (.slice pa pn pc) := cell_of_row _ _ _ _ _ _ HZ1.out
        have zc2 : wz.cell? ⟨w7.heap.size, 2, none⟩ = some (.int .i64 P0.time) := cell_of_row _ _ _ _ _ _ HZ1.out
        have zc3 : wz.cell? ⟨w7.heap.size, 3, none⟩ = some (.int .i64 P0.dist) := cell_of_row _ _ _ _ _ _ HZ1.out
        have zc4 : wz.cell? ⟨w7.heap.size, 4, none⟩ = some (.int .i64 P0.wait) := cell_of_row _ _ _ _ _ _ HZ1.out
        have zc5 : wz.cell? ⟨w7.heap.size, 5, none⟩ = some (.int .i64 P0.serv) := cell_of_row _ _ _ _ _ _ HZ1.out
        have zc6 : wz.cell? ⟨w7.heap.size, 6, none⟩ = some (.int .i64 P0.cost) := cell_of_row _ _ _ _ _ _ HZ1.out
        have HX6z := hide ((E8.out.block _ HX3.out).trans HX6.out)
        have yc0 : wz.cell? ⟨w.heap.size + 1, 0, none⟩ = some (.int .i64 0) := (frz7' HX6z.out e61).1 0
        have yc1 : wz.cell? ⟨w.heap.size + 1, 1, none⟩ = some (.slice none 0 0) := (frz7' HX6z.out e61).1 1
        have yc2 : wz.cell? ⟨w.heap.size + 1, 2, none⟩ = some (.int .i64 0) := (frz7' HX6z.out e61).1 2
        have yc3 : wz.cell? ⟨w.heap.size + 1, 3, none⟩ = some (.int .i64 0) := (frz7' HX6z.out e61).1 3
        have yc4 : wz.cell? ⟨w.heap.size + 1, 4, none⟩ = some (.int .i64 0) := (frz7' HX6z.out e61).1 4
        have yc5 : wz.cell? ⟨w.heap.size + 1, 5, none⟩ = some (.int .i64 0) := (frz7' HX6z.out e61).1 5
        have yc6 : wz.cell? ⟨w.heap.size + 1, 6, none⟩ = some (.int .i64 0) := (frz7' HX6z.out e61).1 6
        have yf0 : wz.frozen? ⟨w.heap.size + 1, 0, none⟩ = false := (frz7' HX6z.out e61).2 0
        have yf1 : wz.frozen? ⟨w.heap.size + 1, 1, none⟩ = false := (frz7' HX6z.out e61).2 1
        have yf2 : wz.frozen? ⟨w.heap.size + 1, 2, none⟩ = false := (frz7' HX6z.out e61).2 2
        have yf3 : wz.frozen? ⟨w.heap.size + 1, 3, none⟩ = false := (frz7' HX6z.out e61).2 3
        have yf4 : wz.frozen? ⟨w.heap.size + 1, 4, none⟩ = false := (frz7' HX6z.out e61).2 4
        have yf5 : wz.frozen? ⟨w.heap.size + 1, 5, none⟩ = false := (frz7' HX6z.out e61).2 5
        have yf6 : wz.frozen? ⟨w.heap.size + 1, 6, none⟩ = false := (frz7' HX6z.out e61).2 6
        clear e61 ec0 ef0 ec1 ef1 ec2 ef2 ec3 ef3 ec4 ef4 ec5 ef5 ec6 ef6 ep0 dp0 ep1 dp1 ep2 dp2 ep3 dp3 ep4 dp4 ep5 dp5 ep6 dp6 ep7 dp7
        go_wp2_with fail
        refine bodyPost_ret (v := .tuple #[.agg #[.int .i64 P0.veh, .slice pa pn pc, .int .i64 P0.time, .int .i64 P0.dist, .int .i64 P0.wait, .int .i64 P0.serv, .int .i64 P0.cost], .int .i64 E0]) ?_ rfl ⟨_, by rw [HE.out.1], ?_, ?_⟩
        · simp [results, Try.results40, go_sem, *]
        · rw [HE.out.2]
          refine PlanV.mono (HPZ.out.set (r := w.heap.size + 1) ?_ (by (try simp); (try omega))) (by (try simp); (try omega))
          repeat (first | (with_reducible exact grw_refl _ _) | (with_reducible refine grw_set ?_ _ _))
        · have HBE := EZ.out
          repeat (first | (with_reducible exact HBE) | (with_reducible refine Below.setCell ?_ (by simp) _) | (with_reducible refine Below.drew ?_))
       exact AllReadyH.nil
      exact AllReadyH.nil
     exact AllReadyH.nil
    refine AllReadyH.cons (o := { dst := some 10, op := Op.alloc 71, type := 0, pos := "plan.go:51", after := #[], guard := none }) rfl (fun K hK => ?_) ?_
    ·go_simp
     refine hK.out _ _ ?_ (fun hHeld8 => ?_)
     · (try dsimp only); go_keep
     clear hK K
     try simp only [Act.put, List.setIfInBounds_toArray]
     clear hHeld0
     refine wpAnyH_ready (rs := [4]) (by kernel_rfl) (by simp) ?_
     refine AllReadyH.cons (o := { dst := some 34, op := Op.call { callee := Callee.value (Operand.func 45), args := #[Operand.tmp 32, Operand.tmp 33], argTypes := #[55, 22] }, type := 55, pos := "plan.go:51", after := #[{ on := 2, ground := Ground.data }, { on := 3, ground := Ground.data }], guard := none }) rfl (fun K hK => ?_) ?_
     ·(refine held_call (by rfl) 45 _ _ (by rfl) hent45 [.slice (some ⟨b, off, none⟩) m vc, .slice (some ⟨w3.heap.size, 0, none⟩) nb nb] (by rfl) ?_; refine (H45.out _ _ (below_on HBW.out (below_on E6.out (below_on ((Below.refl _ _).drew) ((Below.refl _ _).alloc (Nat.le_refl _) _)))) ((IRow.ints HR6.out).later (below_on ((Below.refl _ _).drew) ((Below.refl _ _).alloc (Nat.le_refl _) _)))).mono ?_; rintro e w7 ⟨a7, c7, rfl, hv7, k7⟩; refine ⟨_, rfl, ?_⟩; have HV7 := hide hv7; have K7 := hide (below_on (below_on ((Below.refl _ _).drew) ((Below.refl _ _).alloc (Nat.le_refl _) _)) k7); have E7 := hide (below_on E6.out K7.out); have n7 : w6.heap.size ≤ w7.heap.size := K7.out.size; have dp0 : w7.cell? ⟨w.heap.size, 0, none⟩ = some (.int .i64 p.dims) := ((bcell E7.out).1 _ 0 (by rw [HWS.out]; omega)).trans (HC0.out 0); have dp1 : w7.cell? ⟨w.heap.size, 1, none⟩ = some (.int .i64 p.time.n) := ((bcell E7.out).1 _ 1 (by rw [HWS.out]; omega)).trans (HC0.out 1); have dp2 : w7.cell? ⟨w.heap.size, 2, none⟩ = some (.slice ta p.time.cells.length tc) := ((bcell E7.out).1 _ 2 (by rw [HWS.out]; omega)).trans (HC0.out 2); have dp3 : w7.cell? ⟨w.heap.size, 3, none⟩ = some (.int .i64 p.dist.n) := ((bcell E7.out).1 _ 3 (by rw [HWS.out]; omega)).trans (HC0.out 3); have dp4 : w7.cell? ⟨w.heap.size, 4, none⟩ = some (.slice da p.dist.cells.length dc) := ((bcell E7.out).1 _ 4 (by rw [HWS.out]; omega)).trans (HC0.out 4); have dp5 : w7.cell? ⟨w.heap.size, 5, none⟩ = some (.slice va' p.vs.length vc') := ((bcell E7.out).1 _ 5 (by rw [HWS.out]; omega)).trans (HC0.out 5); have dp6 : w7.cell? ⟨w.heap.size, 6, none⟩ = some (.slice ja p.js.length jc) := ((bcell E7.out).1 _ 6 (by rw [HWS.out]; omega)).trans (HC0.out 6); have dp7 : w7.cell? ⟨w.heap.size, 7, none⟩ = some (.slice sa p.ss.length sc) := ((bcell E7.out).1 _ 7 (by rw [HWS.out]; omega)).trans (HC0.out 7); have HX7 : Hid (w7.heap[w6.heap.size]? = some (.cells #[.int .i64 0, .slice none 0 0, .int .i64 0, .int .i64 0, .int .i64 0, .int .i64 0, .int .i64 0] 71)) := (k7.block _ (by simp)).trans (heap_alloc_new w6.drew _); have n71 : w6.heap.size < w7.heap.size := (by have := k7.size; simp at this; omega); clear k7 hv7)
      refine hK.out _ _ ?_ (fun hHeld9 => ?_)
      · (try dsimp only); go_keep
      clear hK K
      try simp only [Act.put, List.setIfInBounds_toArray]
      clear hHeld8
      refine wpAnyH_ready (rs := [5]) (by kernel_rfl) (by simp) ?_
      refine AllReadyH.cons (o := { dst := some 35, op := Op.call { callee := Callee.value (Operand.func 36), args := #[Operand.tmp 30, Operand.tmp 31, Operand.tmp 34], argTypes := #[29, 3, 55] }, type := 72, pos := "plan.go:51", after := #[{ on := 0, ground := Ground.data }, { on := 1, ground := Ground.data }, { on := 4, ground := Ground.data }, { on := 4, ground := Ground.chain }], guard := none }) rfl (fun K hK => ?_) ?_
      ·(refine held_call (by rfl) 36 _ _ (by rfl) hent36 [.agg #[.int .i64 p.dims, .int .i64 p.time.n, .slice ta p.time.cells.length tc, .int .i64 p.dist.n, .slice da p.dist.cells.length dc, .slice va' p.vs.length vc', .slice ja p.js.length jc, .slice sa p.ss.length sc], .int .i64 vi, .slice a7 (m + nb) c7] (by rfl) ?_; refine (H36.out _ _ _ (below_on HBW.out (below_on E7.out (Below.refl _ _))) ⟨PrV.on HV7.out.1 (Below.refl _ _), HV7.out.2⟩).mono ?_; rintro e w8 ⟨v8, rfl, hp8, k8⟩; refine ⟨_, rfl, ?_⟩; have HPL := hide hp8; have K8 := hide (below_on (Below.refl _ _) k8); have E8 := hide (below_on E7.out K8.out); have n8 : w7.heap.size ≤ w8.heap.size := K8.out.size; obtain ⟨pa, pn, pc, ys, rfl, _, _, _⟩ := hp8; unfold planC at HPL ⊢; have ep0 : w8.cell? ⟨w.heap.size, 0, none⟩ = some (.int .i64 p.dims) := ((bcell E8.out).1 _ 0 (by rw [HWS.out]; omega)).trans (HC0.out 0); have ep1 : w8.cell? ⟨w.heap.size, 1, none⟩ = some (.int .i64 p.time.n) := ((bcell E8.out).1 _ 1 (by rw [HWS.out]; omega)).trans (HC0.out 1); have ep2 : w8.cell? ⟨w.heap.size, 2, none⟩ = some (.slice ta p.time.cells.length tc) := ((bcell E8.out).1 _ 2 (by rw [HWS.out]; omega)).trans (HC0.out 2); have ep3 : w8.cell? ⟨w.heap.size, 3, none⟩ = some (.int .i64 p.dist.n) := ((bcell E8.out).1 _ 3 (by rw [HWS.out]; omega)).trans (HC0.out 3); have ep4 : w8.cell? ⟨w.heap.size, 4, none⟩ = some (.slice da p.dist.cells.length dc) := ((bcell E8.out).1 _ 4 (by rw [HWS.out]; omega)).trans (HC0.out 4); have ep5 : w8.cell? ⟨w.heap.size, 5, none⟩ = some (.slice va' p.vs.length vc') := ((bcell E8.out).1 _ 5 (by rw [HWS.out]; omega)).trans (HC0.out 5); have ep6 : w8.cell? ⟨w.heap.size, 6, none⟩ = some (.slice ja p.js.length jc) := ((bcell E8.out).1 _ 6 (by rw [HWS.out]; omega)).trans (HC0.out 6); have ep7 : w8.cell? ⟨w.heap.size, 7, none⟩ = some (.slice sa p.ss.length sc) := ((bcell E8.out).1 _ 7 (by rw [HWS.out]; omega)).trans (HC0.out 7); have ec0 : w8.cell? ⟨w.heap.size + 1, 0, none⟩ = some (.int .i64 0) := (frz7 HX6.out E8.out HX3.out).1 0; have ec1 : w8.cell? ⟨w.heap.size + 1, 1, none⟩ = some (.slice none 0 0) := (frz7 HX6.out E8.out HX3.out).1 1; have ec2 : w8.cell? ⟨w.heap.size + 1, 2, none⟩ = some (.int .i64 0) := (frz7 HX6.out E8.out HX3.out).1 2; have ec3 : w8.cell? ⟨w.heap.size + 1, 3, none⟩ = some (.int .i64 0) := (frz7 HX6.out E8.out HX3.out).1 3; have ec4 : w8.cell? ⟨w.heap.size + 1, 4, none⟩ = some (.int .i64 0) := (frz7 HX6.out E8.out HX3.out).1 4; have ec5 : w8.cell? ⟨w.heap.size + 1, 5, none⟩ = some (.int .i64 0) := (frz7 HX6.out E8.out HX3.out).1 5; have ec6 : w8.cell? ⟨w.heap.size + 1, 6, none⟩ = some (.int .i64 0) := (frz7 HX6.out E8.out HX3.out).1 6; have ef0 : w8.frozen? ⟨w.heap.size + 1, 0, none⟩ = false := (frz7 HX6.out E8.out HX3.out).2 0; have ef1 : w8.frozen? ⟨w.heap.size + 1, 1, none⟩ = false := (frz7 HX6.out E8.out HX3.out).2 1; have ef2 : w8.frozen? ⟨w.heap.size + 1, 2, none⟩ = false := (frz7 HX6.out E8.out HX3.out).2 2; have ef3 : w8.frozen? ⟨w.heap.size + 1, 3, none⟩ = false := (frz7 HX6.out E8.out HX3.out).2 3; have ef4 : w8.frozen? ⟨w.heap.size + 1, 4, none⟩ = false := (frz7 HX6.out E8.out HX3.out).2 4; have ef5 : w8.frozen? ⟨w.heap.size + 1, 5, none⟩ = false := (frz7 HX6.out E8.out HX3.out).2 5; have ef6 : w8.frozen? ⟨w.heap.size + 1, 6, none⟩ = false := (frz7 HX6.out E8.out HX3.out).2 6; have HX8 : Hid (w8.heap[w6.heap.size]? = some (.cells #[.int .i64 0, .slice none 0 0, .int .i64 0, .int .i64 0, .int .i64 0, .int .i64 0, .int .i64 0] 71)) := (K8.out.block _ n71).trans HX7.out; have m80 : ¬ w.heap.size = w6.heap.size := (by omega); have m81 : ¬ w.heap.size + 1 = w6.heap.size := (by omega); have gc0 : w8.cell? ⟨w6.heap.size, 0, none⟩ = some (.int .i64 0) := cell_of_row _ _ _ _ _ _ HX8.out; have gf0 : w8.frozen? ⟨w6.heap.size, 0, none⟩ = false := frz_row HX8.out; have gc1 : w8.cell? ⟨w6.heap.size, 1, none⟩ = some (.slice none 0 0) := cell_of_row _ _ _ _ _ _ HX8.out; have gf1 : w8.frozen? ⟨w6.heap.size, 1, none⟩ = false := frz_row HX8.out; have gc2 : w8.cell? ⟨w6.heap.size, 2, none⟩ = some (.int .i64 0) := cell_of_row _ _ _ _ _ _ HX8.out; have gf2 : w8.frozen? ⟨w6.heap.size, 2, none⟩ = false := frz_row HX8.out; have gc3 : w8.cell? ⟨w6.heap.size, 3, none⟩ = some (.int .i64 0) := cell_of_row _ _ _ _ _ _ HX8.out; have gf3 : w8.frozen? ⟨w6.heap.size, 3, none⟩ = false := frz_row HX8.out; have gc4 : w8.cell? ⟨w6.heap.size, 4, none⟩ = some (.int .i64 0) := cell_of_row _ _ _ _ _ _ HX8.out; have gf4 : w8.frozen? ⟨w6.heap.size, 4, none⟩ = false := frz_row HX8.out; have gc5 : w8.cell? ⟨w6.heap.size, 5, none⟩ = some (.int .i64 0) := cell_of_row _ _ _ _ _ _ HX8.out; have gf5 : w8.frozen? ⟨w6.heap.size, 5, none⟩ = false := frz_row HX8.out; have gc6 : w8.cell? ⟨w6.heap.size, 6, none⟩ = some (.int .i64 0) := cell_of_row _ _ _ _ _ _ HX8.out; have gf6 : w8.frozen? ⟨w6.heap.size, 6, none⟩ = false := frz_row HX8.out; clear k8)
       refine hK.out _ _ ?_ (fun hHeld10 => ?_)
       · (try dsimp only); go_keep
       clear hK K
       try simp only [Act.put, List.setIfInBounds_toArray]
       clear hHeld9
       refine wpAnyH_take (i := 6) (oi := { dst := some 29, op := Op.move (Operand.tmp 35), type := 72, pos := "plan.go:51", after := #[{ on := 5, ground := Ground.data }], guard := none }) (v := ?_) rfl (by kernel_rfl) (by kernel_rfl) (by kernel_rfl) (fun _ _ _ h => h) (Or.inl ⟨by rfl, ?_⟩) (by assumption) ?_
       rotate_left
       · intro w hSw; (try dsimp only at hSw); first | (go_simp; done) | (go_simp; with_reducible rfl) | with_reducible rfl | rfl
       try simp only [Act.put, List.setIfInBounds_toArray]
       refine wpAnyH_take (i := 7) (oi := { dst := some 36, op := Op.extract (Operand.tmp 29) 0, type := 71, pos := "plan.go:51", after := #[{ on := 6, ground := Ground.data }], guard := none }) (v := ?_) rfl (by kernel_rfl) (by kernel_rfl) (by kernel_rfl) (fun _ _ _ h => h) (Or.inl ⟨by rfl, ?_⟩) (by assumption) ?_
       rotate_left
       · intro w hSw; (try dsimp only at hSw); first | (go_simp; done) | (go_simp; with_reducible rfl) | with_reducible rfl | rfl
       try simp only [Act.put, List.setIfInBounds_toArray]
       refine wpAnyH_take (i := 8) (oi := { dst := some 37, op := Op.extract (Operand.tmp 29) 1, type := 62, pos := "plan.go:51", after := #[{ on := 6, ground := Ground.data }, { on := 10, ground := Ground.gcOnly Departure.lateStores }], guard := none }) (v := ?_) rfl (by kernel_rfl) (by kernel_rfl) (by kernel_rfl) (fun _ _ _ h => h) (Or.inl ⟨by rfl, ?_⟩) (by assumption) ?_
       rotate_left
       · intro w hSw; (try dsimp only at hSw); first | (go_simp; done) | (go_simp; with_reducible rfl) | with_reducible rfl | rfl
       try simp only [Act.put, List.setIfInBounds_toArray]
       refine wpAnyH_ready (rs := [10]) (by kernel_rfl) (by simp) ?_
       refine AllReadyH.cons (o := { dst := none, op := Op.store 71 (Operand.tmp 10) (Operand.tmp 36), type := 0, pos := "plan.go:51", after := #[{ on := 9, ground := Ground.data }, { on := 7, ground := Ground.data }, { on := 5, ground := Ground.chain }, { on := 0, ground := Ground.phase }, { on := 1, ground := Ground.phase }, { on := 2, ground := Ground.phase }, { on := 3, ground := Ground.phase }, { on := 4, ground := Ground.phase }, { on := 5, ground := Ground.phase }, { on := 6, ground := Ground.phase }, { on := 7, ground := Ground.phase }, { on := 8, ground := Ground.textOnly Departure.lateStores }, { on := 9, ground := Ground.phase }], guard := none }) rfl (fun K hK => ?_) ?_
       ·go_simp
        refine hK.out _ _ ?_ (fun hHeld11 => ?_)
        · (try dsimp only); (first | (go_keep; done) | (refine ⟨?_, ?_, ?_, ?_, ?_, ?_, ?_, ?_⟩ <;> (refine cell_same (w := w8) ?_ (by assumption); (repeat rw [heap_setCell_other _ _ _ _ (by simp; omega)]))))
        clear hK K
        try simp only [Act.put, List.setIfInBounds_toArray]
        clear hHeld10
        refine wpAnyH_take (i := 11) (oi := { dst := some 11, op := Op.assign (Operand.tmp 37), type := 62, pos := "plan.go:51", after := #[{ on := 8, ground := Ground.data }, { on := 10, ground := Ground.chain }, { on := 0, ground := Ground.phase }, { on := 1, ground := Ground.phase }, { on := 2, ground := Ground.phase }, { on := 3, ground := Ground.phase }, { on := 4, ground := Ground.phase }, { on := 5, ground := Ground.phase }, { on := 6, ground := Ground.phase }, { on := 7, ground := Ground.phase }, { on := 8, ground := Ground.phase }, { on := 9, ground := Ground.phase }, { on := 10, ground := Ground.phase }], guard := none }) (v := ?_) rfl (by kernel_rfl) (by kernel_rfl) (by kernel_rfl) (fun _ _ _ h => h) (Or.inl ⟨by rfl, ?_⟩) (by assumption) ?_
        rotate_left
        · intro w hSw; (try dsimp only at hSw); first | (go_simp; done) | (go_simp; with_reducible rfl) | with_reducible rfl | rfl
        try simp only [Act.put, List.setIfInBounds_toArray]
        refine wpAnyH_done (by kernel_rfl) ?_ _
        clear hHeld11
        obtain ⟨wz, hwz, hz1, hz2⟩ := put7 (.int .i64 P0.veh) (.slice pa pn pc) (.int .i64 P0.time) (.int .i64 P0.dist) (.int .i64 P0.wait) (.int .i64 P0.serv) (.int .i64 P0.cost) HX8.out
        rw [← hwz]
        have HZ1 := hide hz1
        have HPZ := hide (HPL.out.set (r := w6.heap.size) hz2 (by (try simp); (try omega)))
        have EZ : Hid (Below w.heap.size w wz) := (below_on HBW.out E8.out).trans (grw_low hz2 (by omega) (by have := (below_on HBW.out E8.out).size; omega))
        have e61 := grw_block hz2 (q := w.heap.size + 1) (by omega) (by omega)
        clear hwz hz1 hz2 gc0 gf0 gc1 gf1 gc2 gf2 gc3 gf3 gc4 gf4 gc5 gf5 gc6 gf6
        have zc0 : wz.cell? ⟨w6.heap.size, 0, none⟩ = some (.int .i64 P0.veh) := cell_of_row _ _ _ _ _ _ HZ1.out
        have zc1 : wz.cell? ⟨w6.heap.size, 1, none⟩ = some (.slice pa pn pc) := cell_of_row _ _ _ _ _ _ HZ1.out
        have zc2 : wz.cell? ⟨w6.heap.size, 2, none⟩ = some (.int .i64 P0.time) := cell_of_row _ _ _ _ _ _ HZ1.out
        have zc3 : wz.cell? ⟨w6.heap.size, 3, none⟩ = some (.int .i64 P0.dist) := cell_of_row _ _ _ _ _ _ HZ1.out
        have zc4 : wz.cell? ⟨w6.heap.size, 4, none⟩ = some (.int .i64 P0.wait) := cell_of_row _ _ _ _ _ _ HZ1.out
        have zc5 : wz.cell? ⟨w6.heap.size, 5, none⟩ = some (.int .i64 P0.serv) := cell_of_row _ _ _ _ _ _ HZ1.out
        have zc6 : wz.cell? ⟨w6.heap.size, 6, none⟩ = some (.int .i64 P0.cost) := cell_of_row _ _ _ _ _ _ HZ1.out
        have HX6z := hide ((E8.out.block _ HX3.out).trans HX6.out)
        have yc0 : wz.cell? ⟨w.heap.size + 1, 0, none⟩ = some (.int .i64 0) := (frz7' HX6z.out e61).1 0
        have yc1 : wz.cell? ⟨w.heap.size + 1, 1, none⟩ = some (.slice none 0 0) := (frz7' HX6z.out e61).1 1
        have yc2 : wz.cell? ⟨w.heap.size + 1, 2, none⟩ = some (.int .i64 0) := (frz7' HX6z.out e61).1 2
        have yc3 : wz.cell? ⟨w.heap.size + 1, 3, none⟩ = some (.int .i64 0) := (frz7' HX6z.out e61).1 3
        have yc4 : wz.cell? ⟨w.heap.size + 1, 4, none⟩ = some (.int .i64 0) := (frz7' HX6z.out e61).1 4
        have yc5 : wz.cell? ⟨w.heap.size + 1, 5, none⟩ = some (.int .i64 0) := (frz7' HX6z.out e61).1 5
        have yc6 : wz.cell? ⟨w.heap.size + 1, 6, none⟩ = some (.int .i64 0) := (frz7' HX6z.out e61).1 6
        have yf0 : wz.frozen? ⟨w.heap.size + 1, 0, none⟩ = false := (frz7' HX6z.out e61).2 0
        have yf1 : wz.frozen? ⟨w.heap.size + 1, 1, none⟩ = false := (frz7' HX6z.out e61).2 1
        have yf2 : wz.frozen? ⟨w.heap.size + 1, 2, none⟩ = false := (frz7' HX6z.out e61).2 2
        have yf3 : wz.frozen? ⟨w.heap.size + 1, 3, none⟩ = false := (frz7' HX6z.out e61).2 3
        have yf4 : wz.frozen? ⟨w.heap.size + 1, 4, none⟩ = false := (frz7' HX6z.out e61).2 4
        have yf5 : wz.frozen? ⟨w.heap.size + 1, 5, none⟩ = false := (frz7' HX6z.out e61).2 5
        have yf6 : wz.frozen? ⟨w.heap.size + 1, 6, none⟩ = false := (frz7' HX6z.out e61).2 6
        clear e61 ec0 ef0 ec1 ef1 ec2 ef2 ec3 ef3 ec4 ef4 ec5 ef5 ec6 ef6 ep0 dp0 ep1 dp1 ep2 dp2 ep3 dp3 ep4 dp4 ep5 dp5 ep6 dp6 ep7 dp7
        go_wp2_with fail
        refine bodyPost_ret (v := .tuple #[.agg #[.int .i64 P0.veh, .slice pa pn pc, .int .i64 P0.time, .int .i64 P0.dist, .int .i64 P0.wait, .int .i64 P0.serv, .int .i64 P0.cost], .int .i64 E0]) ?_ rfl ⟨_, by rw [HE.out.1], ?_, ?_⟩
        · simp [results, Try.results40, go_sem, *]
        · rw [HE.out.2]
          refine PlanV.mono (HPZ.out.set (r := w.heap.size + 1) ?_ (by (try simp); (try omega))) (by (try simp); (try omega))
          repeat (first | (with_reducible exact grw_refl _ _) | (with_reducible refine grw_set ?_ _ _))
        · have HBE := EZ.out
          repeat (first | (with_reducible exact HBE) | (with_reducible refine Below.setCell ?_ (by simp) _) | (with_reducible refine Below.drew ?_))
       exact AllReadyH.nil
      exact AllReadyH.nil
     exact AllReadyH.nil
    exact AllReadyH.nil
end Go.Proofs.Ytgjpkpmikbpcnaa
