/-
  slack.Ends 17: when a plan ends, if one of its steps is come to at a time.
-/
import Derived.Test.YtndbikoccdjafaaBSk7
import Derived.Test.YtndbikoccdjafaaBSk5
namespace Go.Proofs.Ytndbikoccdjafaa
open Go.RowKit
theorem fst_low {S : List Stg} {q : Nat} {st : Stg} (ok : okG S) (hs : S[q]? = some st) {t : Int} (h : (fstG st.1 t).2 = true) : t ≤ (fstG st.1 t).1 := by
  obtain ⟨o, d⟩ := st
  cases o with
  | none => exact Int.le_refl _
  | some L => exact (Hr.start_ge (ok _ (List.mem_of_getElem? hs) L rfl) t h).1
set_option maxRecDepth 100000 in
set_option maxHeartbeats 6400000 in
theorem ends_out {w : World} {x : PrbS} {p : Prb} {k n : Nat} {a : Option Addr} {L : List StepT} {G : List Stg} {l : List Int} (h : SlkV w x p k a n L G) (hl : latG (p.vs.getD k vz).shift.2 G = some l) {i : Int} (hi : i < 0 ∨ (n : Int) ≤ i) (t : Int) (c : Nat) (tm ds wt sv co : Int) : Calls Try.prog 17 #[.agg (prbE p x), .agg (planC k (.slice a n c) tm ds wt sv co), .int .i64 i, .int .i64 t] w fun e w' => e = .returned (.tuple #[.int .i64 0, .bool false]) ∧ Below w.heap.size w w' := by
  have HV := hide h
  have HL := hide hl
  have hhi := h.rt.high
  have hlen := h.rt.len
  have hn := h.stp.1
  obtain ⟨ta, tc, da, dc, va, vc, ja, jc, sa, sc, rfl⟩ := h.prb.open
  have H13 : Hid (∀ W2, Below w.heap.size w W2 → Calls Try.prog 13 #[.agg #[.int .i64 p.dims, .int .i64 p.time.n, .slice ta p.time.cells.length tc, .int .i64 p.dist.n, .slice da p.dist.cells.length dc, .slice va p.vs.length vc, .slice ja p.js.length jc, .slice sa p.ss.length sc], .agg #[.int .i64 (k : Int), .slice a n c, .int .i64 tm, .int .i64 ds, .int .i64 wt, .int .i64 sv, .int .i64 co]] W2 fun e w' => ∃ nb, e = .returned (.slice (some ⟨nb, 0, none⟩) n n) ∧ IRow w' W2.heap.size (.slice (some ⟨nb, 0, none⟩) n n) l ∧ Below W2.heap.size W2 w') := fun W2 hf => latest_any (HV.out.on hf) HL.out c tm ds wt sv co
  clear h hl
  unfold prbE planC
  simp only
  obtain ⟨W, hW⟩ : ∃ W, (w.alloc (.cells #[.int .i64 p.dims, .int .i64 p.time.n, .slice ta p.time.cells.length tc, .int .i64 p.dist.n, .slice da p.dist.cells.length dc, .slice va p.vs.length vc, .slice ja p.js.length jc, .slice sa p.ss.length sc] 29)).alloc (.cells #[.int .i64 (k : Int), .slice a n c, .int .i64 tm, .int .i64 ds, .int .i64 wt, .int .i64 sv, .int .i64 co] 34) = W := ⟨_, rfl⟩
  have HB : Hid (Below w.heap.size w W) := by show Below _ _ _; rw [← hW]; exact ((Below.refl _ _).alloc (Nat.le_refl _) _).alloc (by simp) _
  have HX1 : Hid (W.heap[w.heap.size]? = some (.cells #[.int .i64 p.dims, .int .i64 p.time.n, .slice ta p.time.cells.length tc, .int .i64 p.dist.n, .slice da p.dist.cells.length dc, .slice va p.vs.length vc, .slice ja p.js.length jc, .slice sa p.ss.length sc] 29 (0, 0))) := by
    show _ = _
    rw [← hW, heap_alloc_old _ _ (by simp)]
    exact new_block _ _
  have HX2 : Hid (W.heap[w.heap.size + 1]? = some (.cells #[.int .i64 (k : Int), .slice a n c, .int .i64 tm, .int .i64 ds, .int .i64 wt, .int .i64 sv, .int .i64 co] 34 (0, 0))) := by
    show _ = _
    rw [← hW]
    have h9 := new_block (w.alloc (.cells #[.int .i64 p.dims, .int .i64 p.time.n, .slice ta p.time.cells.length tc, .int .i64 p.dist.n, .slice da p.dist.cells.length dc, .slice va p.vs.length vc, .slice ja p.js.length jc, .slice sa p.ss.length sc] 29)) (.cells #[.int .i64 (k : Int), .slice a n c, .int .i64 tm, .int .i64 ds, .int .i64 wt, .int .i64 sv, .int .i64 co] 34)
    rw [show (w.alloc (.cells #[.int .i64 p.dims, .int .i64 p.time.n, .slice ta p.time.cells.length tc, .int .i64 p.dist.n, .slice da p.dist.cells.length dc, .slice va p.vs.length vc, .slice ja p.js.length jc, .slice sa p.ss.length sc] 29)).heap.size = w.heap.size + 1 from by simp] at h9
    exact h9
  have a10 : W.cell? ⟨w.heap.size, 0, none⟩ = some (.int .i64 p.dims) := cell_of_row _ _ _ _ _ _ HX1.out
  have a11 : W.cell? ⟨w.heap.size, 1, none⟩ = some (.int .i64 p.time.n) := cell_of_row _ _ _ _ _ _ HX1.out
  have a12 : W.cell? ⟨w.heap.size, 2, none⟩ = some (.slice ta p.time.cells.length tc) := cell_of_row _ _ _ _ _ _ HX1.out
  have a13 : W.cell? ⟨w.heap.size, 3, none⟩ = some (.int .i64 p.dist.n) := cell_of_row _ _ _ _ _ _ HX1.out
  have a14 : W.cell? ⟨w.heap.size, 4, none⟩ = some (.slice da p.dist.cells.length dc) := cell_of_row _ _ _ _ _ _ HX1.out
  have a15 : W.cell? ⟨w.heap.size, 5, none⟩ = some (.slice va p.vs.length vc) := cell_of_row _ _ _ _ _ _ HX1.out
  have a16 : W.cell? ⟨w.heap.size, 6, none⟩ = some (.slice ja p.js.length jc) := cell_of_row _ _ _ _ _ _ HX1.out
  have a17 : W.cell? ⟨w.heap.size, 7, none⟩ = some (.slice sa p.ss.length sc) := cell_of_row _ _ _ _ _ _ HX1.out
  have a20 : W.cell? ⟨w.heap.size + 1, 0, none⟩ = some (.int .i64 (k : Int)) := cell_of_row _ _ _ _ _ _ HX2.out
  have a21 : W.cell? ⟨w.heap.size + 1, 1, none⟩ = some (.slice a n c) := cell_of_row _ _ _ _ _ _ HX2.out
  have a22 : W.cell? ⟨w.heap.size + 1, 2, none⟩ = some (.int .i64 tm) := cell_of_row _ _ _ _ _ _ HX2.out
  have a23 : W.cell? ⟨w.heap.size + 1, 3, none⟩ = some (.int .i64 ds) := cell_of_row _ _ _ _ _ _ HX2.out
  have a24 : W.cell? ⟨w.heap.size + 1, 4, none⟩ = some (.int .i64 wt) := cell_of_row _ _ _ _ _ _ HX2.out
  have a25 : W.cell? ⟨w.heap.size + 1, 5, none⟩ = some (.int .i64 sv) := cell_of_row _ _ _ _ _ _ HX2.out
  have a26 : W.cell? ⟨w.heap.size + 1, 6, none⟩ = some (.int .i64 co) := cell_of_row _ _ _ _ _ _ HX2.out
  by_cases h0 : i < 0
  · clear hi
    go_enter Try.func17, Try.ntmps17
    go_wp2_with (first | (go_at_call 13; refine (H13.out _ HB.out).mono ?_; rintro e u1 ⟨nb, rfl, hq, kk⟩; have E1 := hide kk; have HR1 := hide hq; clear kk hq; skip) | fail)
    go_ret2
    exact ⟨rfl, below_on HB.out E1.out⟩
  · have h1 : (n : Int) ≤ i := by omega
    have h2 : ¬ i < (n : Int) := by omega
    clear hi
    go_enter Try.func17, Try.ntmps17
    go_wp2_with (first | (go_at_call 13; refine (H13.out _ HB.out).mono ?_; rintro e u1 ⟨nb, rfl, hq, kk⟩; have E1 := hide kk; have HR1 := hide hq; clear kk hq; skip) | fail)
    go_ret2
    exact ⟨rfl, below_on HB.out E1.out⟩
set_option maxRecDepth 100000 in
set_option maxHeartbeats 6400000 in
theorem ends_any {w : World} {x : PrbS} {p : Prb} {k n : Nat} {a : Option Addr} {L : List StepT} {G : List Stg} {l : List Int} (h : SlkV w x p k a n L G) (hl : latG (p.vs.getD k vz).shift.2 G = some l) {i : Nat} (hi : i < n) {t : Int} (ht : -9223372036854775808 ≤ t) (c : Nat) (tm ds wt sv co : Int) : Calls Try.prog 17 #[.agg (prbE p x), .agg (planC k (.slice a n c) tm ds wt sv co), .int .i64 (i : Int), .int .i64 t] w fun e w' => e = .returned (.tuple #[.int .i64 ((endG (p.vs.getD k vz).shift.2 (G.drop i) t).getD 0), .bool (endG (p.vs.getD k vz).shift.2 (G.drop i) t).isSome]) ∧ Below w.heap.size w w' := by
  have HV := hide h
  have HL := hide hl
  have hlen := h.rt.len
  have hlow := h.rt.low
  have hhi := h.rt.high
  have hn := h.stp.1
  have hk := h.veh
  have hsh := (veh_ok (law_veh h.law hk)).shift
  obtain ⟨ta, tc, da, dc, va, vc, ja, jc, sa, sc, rfl⟩ := h.prb.open
  have H13 : Hid (∀ W2, Below w.heap.size w W2 → Calls Try.prog 13 #[.agg #[.int .i64 p.dims, .int .i64 p.time.n, .slice ta p.time.cells.length tc, .int .i64 p.dist.n, .slice da p.dist.cells.length dc, .slice va p.vs.length vc, .slice ja p.js.length jc, .slice sa p.ss.length sc], .agg #[.int .i64 (k : Int), .slice a n c, .int .i64 tm, .int .i64 ds, .int .i64 wt, .int .i64 sv, .int .i64 co]] W2 fun e w' => ∃ nb, e = .returned (.slice (some ⟨nb, 0, none⟩) n n) ∧ IRow w' W2.heap.size (.slice (some ⟨nb, 0, none⟩) n n) l ∧ Below W2.heap.size W2 w') := fun W2 hf => latest_any (HV.out.on hf) HL.out c tm ds wt sv co
  obtain ⟨cl, hcl⟩ : ∃ z, (p.vs.getD k vz).shift.2 = z := ⟨_, rfl⟩
  rw [hcl] at hl hsh ⊢
  have hbd := lat_bd h.rt ⟨by omega, by omega⟩ hl
  have hend := lat_end_at (t := t) (i := i) h.rt.ok hl (by omega)
  have HBD := hide hbd
  obtain ⟨m, hm⟩ : ∃ z, G.length = z := ⟨_, rfl⟩
  have hnm : n = m + 1 := by omega
  have H41 : Hid (∀ q, q < m → ∀ tq r, endG cl (G.drop q) tq = some r → -9223372036854775808 ≤ tq → ∃ f d, (-9223372036854775808 ≤ f ∧ f ≤ 1000000 ∧ 0 ≤ d ∧ d ≤ 33000000) ∧ endG cl (G.drop (q + 1)) (f + d) = some r ∧ (∀ W2, Below w.heap.size w W2 → Calls Try.prog 41 #[.agg #[.int .i64 p.dims, .int .i64 p.time.n, .slice ta p.time.cells.length tc, .int .i64 p.dist.n, .slice da p.dist.cells.length dc, .slice va p.vs.length vc, .slice ja p.js.length jc, .slice sa p.ss.length sc], .agg #[.int .i64 (k : Int), .slice a n c, .int .i64 tm, .int .i64 ds, .int .i64 wt, .int .i64 sv, .int .i64 co], .int .i64 (q : Int), .int .i64 tq] W2 fun e w' => e = .returned (.tuple #[.int .i64 f, .bool true]) ∧ Below W2.heap.size W2 w') ∧ (∀ W2, Below w.heap.size w W2 → Calls Try.prog 37 #[.agg #[.int .i64 p.dims, .int .i64 p.time.n, .slice ta p.time.cells.length tc, .int .i64 p.dist.n, .slice da p.dist.cells.length dc, .slice va p.vs.length vc, .slice ja p.js.length jc, .slice sa p.ss.length sc], .agg #[.int .i64 (k : Int), .slice a n c, .int .i64 tm, .int .i64 ds, .int .i64 wt, .int .i64 sv, .int .i64 co], .int .i64 (q : Int)] W2 fun e w' => e = .returned (.int .i64 d) ∧ Below W2.heap.size W2 w')) := fun q hq tq r hr hlo => by
    obtain ⟨s, t9, hs, ht, hG, h1, h2, _⟩ := HV.out.rt.step q (by omega)
    obtain ⟨e1, e2⟩ := end_step hG (show (endG cl (G.drop q) tq).isSome = true by rw [hr]; rfl)
    rw [hr] at e2
    have e3 := fst_low HV.out.rt.ok hG e1
    have e4 := (lat_end_at (i := q + 1) HV.out.rt.ok hl (by omega)).1 (by rw [e2]; rfl)
    have e5 := HBD.out.2.2 (q + 1) (by omega)
    simp only at e1 e2 e3 e4
    refine ⟨_, _, ?_, e2, fun W2 hf => ?_, fun W2 hf => ?_⟩
    · omega
    · obtain ⟨st, hst, hc⟩ := first_any (HV.out.on hf) (show q < G.length by omega) c tm ds wt sv co tq
      rw [hG] at hst
      injection hst with hst
      subst hst
      simp only at hc
      rw [e1] at hc
      exact hc
    · obtain ⟨s2, t2, hs2, ht2, hc⟩ := onward_any (HV.out.on hf) (show q < G.length by omega) c tm ds wt sv co
      rw [hs] at hs2
      injection hs2 with hs2
      subst hs2
      rw [ht] at ht2
      injection ht2 with ht2
      subst ht2
      exact hc
  have HE9 : Hid (∀ tq r, endG cl (G.drop m) tq = some r → tq = r) := fun tq r hr => by
    rw [List.drop_eq_nil_of_le (by omega)] at hr
    unfold endG at hr
    split at hr
    · injection hr
    · cases hr
  have HNM := hide hnm
  have HHI := hide (show m ≤ 40 by omega)
  have HLI : Hid (l.length = n ∧ i < n) := by show _ ∧ _; have h1 := hbd.1; omega
  clear h hlen hlow hn hk hsh hcl hbd
  unfold prbE planC
  simp only
  obtain ⟨W, hW⟩ : ∃ W, (w.alloc (.cells #[.int .i64 p.dims, .int .i64 p.time.n, .slice ta p.time.cells.length tc, .int .i64 p.dist.n, .slice da p.dist.cells.length dc, .slice va p.vs.length vc, .slice ja p.js.length jc, .slice sa p.ss.length sc] 29)).alloc (.cells #[.int .i64 (k : Int), .slice a n c, .int .i64 tm, .int .i64 ds, .int .i64 wt, .int .i64 sv, .int .i64 co] 34) = W := ⟨_, rfl⟩
  have HB : Hid (Below w.heap.size w W) := by show Below _ _ _; rw [← hW]; exact ((Below.refl _ _).alloc (Nat.le_refl _) _).alloc (by simp) _
  have HX1 : Hid (W.heap[w.heap.size]? = some (.cells #[.int .i64 p.dims, .int .i64 p.time.n, .slice ta p.time.cells.length tc, .int .i64 p.dist.n, .slice da p.dist.cells.length dc, .slice va p.vs.length vc, .slice ja p.js.length jc, .slice sa p.ss.length sc] 29 (0, 0))) := by
    show _ = _
    rw [← hW, heap_alloc_old _ _ (by simp)]
    exact new_block _ _
  have HX2 : Hid (W.heap[w.heap.size + 1]? = some (.cells #[.int .i64 (k : Int), .slice a n c, .int .i64 tm, .int .i64 ds, .int .i64 wt, .int .i64 sv, .int .i64 co] 34 (0, 0))) := by
    show _ = _
    rw [← hW]
    have h9 := new_block (w.alloc (.cells #[.int .i64 p.dims, .int .i64 p.time.n, .slice ta p.time.cells.length tc, .int .i64 p.dist.n, .slice da p.dist.cells.length dc, .slice va p.vs.length vc, .slice ja p.js.length jc, .slice sa p.ss.length sc] 29)) (.cells #[.int .i64 (k : Int), .slice a n c, .int .i64 tm, .int .i64 ds, .int .i64 wt, .int .i64 sv, .int .i64 co] 34)
    rw [show (w.alloc (.cells #[.int .i64 p.dims, .int .i64 p.time.n, .slice ta p.time.cells.length tc, .int .i64 p.dist.n, .slice da p.dist.cells.length dc, .slice va p.vs.length vc, .slice ja p.js.length jc, .slice sa p.ss.length sc] 29)).heap.size = w.heap.size + 1 from by simp] at h9
    exact h9
  have a10 : W.cell? ⟨w.heap.size, 0, none⟩ = some (.int .i64 p.dims) := cell_of_row _ _ _ _ _ _ HX1.out
  have a11 : W.cell? ⟨w.heap.size, 1, none⟩ = some (.int .i64 p.time.n) := cell_of_row _ _ _ _ _ _ HX1.out
  have a12 : W.cell? ⟨w.heap.size, 2, none⟩ = some (.slice ta p.time.cells.length tc) := cell_of_row _ _ _ _ _ _ HX1.out
  have a13 : W.cell? ⟨w.heap.size, 3, none⟩ = some (.int .i64 p.dist.n) := cell_of_row _ _ _ _ _ _ HX1.out
  have a14 : W.cell? ⟨w.heap.size, 4, none⟩ = some (.slice da p.dist.cells.length dc) := cell_of_row _ _ _ _ _ _ HX1.out
  have a15 : W.cell? ⟨w.heap.size, 5, none⟩ = some (.slice va p.vs.length vc) := cell_of_row _ _ _ _ _ _ HX1.out
  have a16 : W.cell? ⟨w.heap.size, 6, none⟩ = some (.slice ja p.js.length jc) := cell_of_row _ _ _ _ _ _ HX1.out
  have a17 : W.cell? ⟨w.heap.size, 7, none⟩ = some (.slice sa p.ss.length sc) := cell_of_row _ _ _ _ _ _ HX1.out
  have a20 : W.cell? ⟨w.heap.size + 1, 0, none⟩ = some (.int .i64 (k : Int)) := cell_of_row _ _ _ _ _ _ HX2.out
  have a21 : W.cell? ⟨w.heap.size + 1, 1, none⟩ = some (.slice a n c) := cell_of_row _ _ _ _ _ _ HX2.out
  have a22 : W.cell? ⟨w.heap.size + 1, 2, none⟩ = some (.int .i64 tm) := cell_of_row _ _ _ _ _ _ HX2.out
  have a23 : W.cell? ⟨w.heap.size + 1, 3, none⟩ = some (.int .i64 ds) := cell_of_row _ _ _ _ _ _ HX2.out
  have a24 : W.cell? ⟨w.heap.size + 1, 4, none⟩ = some (.int .i64 wt) := cell_of_row _ _ _ _ _ _ HX2.out
  have a25 : W.cell? ⟨w.heap.size + 1, 5, none⟩ = some (.int .i64 sv) := cell_of_row _ _ _ _ _ _ HX2.out
  have a26 : W.cell? ⟨w.heap.size + 1, 6, none⟩ = some (.int .i64 co) := cell_of_row _ _ _ _ _ _ HX2.out
  have i1 : (0 : Int) ≤ (i : Int) := by omega
  have i2 : (i : Int) < (n : Int) := by omega
  have i3 : ¬ (i : Int) < 0 := by omega
  have i4 : ¬ (n : Int) ≤ (i : Int) := by omega
  have i5 : IntKind.i64.wrap ((n : Int) - 1) = (m : Int) := by rw [IntKind.wrap_i64]; omega
  obtain ⟨li, hli⟩ : ∃ z, l.getD i 0 = z := ⟨_, rfl⟩
  rw [hli] at hend
  have HLV := hide hli
  by_cases htl : li < t
  · have he : endG cl (G.drop i) t = none := by
      cases he : endG cl (G.drop i) t with
      | none => rfl
      | some r => rw [he] at hend; have := hend.1 rfl; omega
    rw [he]
    have i6 : ¬ t ≤ li := by omega
    clear hend he hli hi hnm hm hl ht
    show Calls Try.prog 17 _ _ fun e w' => e = .returned (.tuple #[.int .i64 0, .bool false]) ∧ _
    go_enter Try.func17, Try.ntmps17
    go_wp2_with (first | (go_at_call 13; refine (H13.out _ HB.out).mono ?_; rintro e u1 ⟨nb, rfl, hq, kk⟩; have E1 := hide kk; have HR1 := hide hq; clear kk hq; have b9 : u1.cell? ⟨nb, i, none⟩ = some (.int .i64 li) := (by have h8 := HR1.out; rw [← rowL_all HLI.out.1] at h8; have h9 := h8.cell i (by rw [rowL_len]; exact HLI.out.2); rw [rowL_at (Nat.zero_le _) HLI.out.2, HLV.out] at h9; exact h9)) | fail)
    go_ret2
    exact ⟨rfl, below_on HB.out E1.out⟩
  · have i6 : t ≤ li := by omega
    have z1 : decide ((i : Int) < 0) = false := decide_eq_false i3
    have z2 : decide (n ≤ i) = false := decide_eq_false (by omega)
    have z3 : decide (li < t) = false := decide_eq_false htl
    have z4 : decide ((n : Int) ≤ (i : Int)) = false := decide_eq_false i4
    have hso := hend.2 i6
    obtain ⟨r, hr⟩ : ∃ r, endG cl (G.drop i) t = some r := Option.isSome_iff_exists.1 hso
    rw [hr]
    have HR := hide hr
    have HIM : Hid (i ≤ m) := by show _ ≤ _; omega
    have HT := hide ht
    clear hend hso hr hli hi hnm hm hl ht
    show Calls Try.prog 17 _ _ fun e w' => e = .returned (.tuple #[.int .i64 r, .bool true]) ∧ _
    go_enter Try.func17, Try.ntmps17
    go_wp2_with (first | (go_at_call 13; refine (H13.out _ HB.out).mono ?_; rintro e u1 ⟨nb, rfl, hq, kk⟩; have E1 := hide kk; have HR1 := hide hq; clear kk hq; have b9 : u1.cell? ⟨nb, i, none⟩ = some (.int .i64 li) := (by have h8 := HR1.out; rw [← rowL_all HLI.out.1] at h8; have h9 := h8.cell i (by rw [rowL_len]; exact HLI.out.2); rw [rowL_at (Nat.zero_le _) HLI.out.2, HLV.out] at h9; exact h9)) | fail)
    clear z1 z2 z3 z4
    clear b9 i6 htl i1 i2 i3 i4 a10 a11 a12 a13 a14 a15 a16 a17 a20 a21 a22 a23 a24 a25 a26
    go_loopw [2, 3] (fun vi vt wr => ∃ (q : Nat) (tq : Int), vi = .int .i64 q ∧ vt = .int .i64 tq ∧ q ≤ m ∧ Hid (endG cl (G.drop q) tq = some r ∧ -9223372036854775808 ≤ tq) ∧ Hid (Below W.heap.size W wr)) (fun vi _ _ => m - (intOf vi).toNat)
    case atStart => exact ⟨i, t, rfl, rfl, HIM.out, ⟨HR.out, HT.out⟩, E1.out⟩
    case round =>
      rename World => wr
      obtain ⟨q, tq, rfl, rfl, hq, HI, HNwr⟩ := hrel
      by_cases hqm : q < m
      · obtain ⟨f, d, hb, he2, h41, h37⟩ := H41.out q hqm tq r HI.out.1 HI.out.2
        have H41q := hide h41
        have H37q := hide h37
        have HE2 := hide he2
        clear h41 h37 he2
        have a10 : wr.cell? ⟨w.heap.size, 0, none⟩ = some (.int .i64 p.dims) := ((bcell HNwr.out).1 _ _ (lt_of_block HX1.out)).trans (cell_of_row _ _ _ _ _ _ HX1.out)
        have a11 : wr.cell? ⟨w.heap.size, 1, none⟩ = some (.int .i64 p.time.n) := ((bcell HNwr.out).1 _ _ (lt_of_block HX1.out)).trans (cell_of_row _ _ _ _ _ _ HX1.out)
        have a12 : wr.cell? ⟨w.heap.size, 2, none⟩ = some (.slice ta p.time.cells.length tc) := ((bcell HNwr.out).1 _ _ (lt_of_block HX1.out)).trans (cell_of_row _ _ _ _ _ _ HX1.out)
        have a13 : wr.cell? ⟨w.heap.size, 3, none⟩ = some (.int .i64 p.dist.n) := ((bcell HNwr.out).1 _ _ (lt_of_block HX1.out)).trans (cell_of_row _ _ _ _ _ _ HX1.out)
        have a14 : wr.cell? ⟨w.heap.size, 4, none⟩ = some (.slice da p.dist.cells.length dc) := ((bcell HNwr.out).1 _ _ (lt_of_block HX1.out)).trans (cell_of_row _ _ _ _ _ _ HX1.out)
        have a15 : wr.cell? ⟨w.heap.size, 5, none⟩ = some (.slice va p.vs.length vc) := ((bcell HNwr.out).1 _ _ (lt_of_block HX1.out)).trans (cell_of_row _ _ _ _ _ _ HX1.out)
        have a16 : wr.cell? ⟨w.heap.size, 6, none⟩ = some (.slice ja p.js.length jc) := ((bcell HNwr.out).1 _ _ (lt_of_block HX1.out)).trans (cell_of_row _ _ _ _ _ _ HX1.out)
        have a17 : wr.cell? ⟨w.heap.size, 7, none⟩ = some (.slice sa p.ss.length sc) := ((bcell HNwr.out).1 _ _ (lt_of_block HX1.out)).trans (cell_of_row _ _ _ _ _ _ HX1.out)
        have a20 : wr.cell? ⟨w.heap.size + 1, 0, none⟩ = some (.int .i64 (k : Int)) := ((bcell HNwr.out).1 _ _ (lt_of_block HX2.out)).trans (cell_of_row _ _ _ _ _ _ HX2.out)
        have a21 : wr.cell? ⟨w.heap.size + 1, 1, none⟩ = some (.slice a n c) := ((bcell HNwr.out).1 _ _ (lt_of_block HX2.out)).trans (cell_of_row _ _ _ _ _ _ HX2.out)
        have a22 : wr.cell? ⟨w.heap.size + 1, 2, none⟩ = some (.int .i64 tm) := ((bcell HNwr.out).1 _ _ (lt_of_block HX2.out)).trans (cell_of_row _ _ _ _ _ _ HX2.out)
        have a23 : wr.cell? ⟨w.heap.size + 1, 3, none⟩ = some (.int .i64 ds) := ((bcell HNwr.out).1 _ _ (lt_of_block HX2.out)).trans (cell_of_row _ _ _ _ _ _ HX2.out)
        have a24 : wr.cell? ⟨w.heap.size + 1, 4, none⟩ = some (.int .i64 wt) := ((bcell HNwr.out).1 _ _ (lt_of_block HX2.out)).trans (cell_of_row _ _ _ _ _ _ HX2.out)
        have a25 : wr.cell? ⟨w.heap.size + 1, 5, none⟩ = some (.int .i64 sv) := ((bcell HNwr.out).1 _ _ (lt_of_block HX2.out)).trans (cell_of_row _ _ _ _ _ _ HX2.out)
        have a26 : wr.cell? ⟨w.heap.size + 1, 6, none⟩ = some (.int .i64 co) := ((bcell HNwr.out).1 _ _ (lt_of_block HX2.out)).trans (cell_of_row _ _ _ _ _ _ HX2.out)
        have j1 : (q : Int) < (m : Int) := by omega
        have j2 : IntKind.i64.wrap (f + d) = f + d := by rw [IntKind.wrap_i64]; omega
        have j4 : IntKind.i64.wrap ((q : Int) + 1) = ((q + 1 : Nat) : Int) := by rw [IntKind.wrap_i64]; have h1 := HHI.out; omega
        have HF0 : Hid (-9223372036854775808 ≤ f + d) := by show _ ≤ _; omega
        clear hb
        go_wp2_with (first | (go_at_call 37; refine (H37q.out _ (below_on HB.out K3.out)).mono ?_; rintro e u4 ⟨rfl, kk⟩; have K4 := hide (below_on K3.out kk); clear kk) | (go_at_call 41; refine (H41q.out _ (below_on HB.out HNwr.out)).mono ?_; rintro e u3 ⟨rfl, kk⟩; have K3 := hide (below_on HNwr.out kk); clear kk; have b10 : u3.cell? ⟨w.heap.size, 0, none⟩ = some (.int .i64 p.dims) := ((bcell K3.out).1 _ _ (lt_of_block HX1.out)).trans (cell_of_row _ _ _ _ _ _ HX1.out); have b11 : u3.cell? ⟨w.heap.size, 1, none⟩ = some (.int .i64 p.time.n) := ((bcell K3.out).1 _ _ (lt_of_block HX1.out)).trans (cell_of_row _ _ _ _ _ _ HX1.out); have b12 : u3.cell? ⟨w.heap.size, 2, none⟩ = some (.slice ta p.time.cells.length tc) := ((bcell K3.out).1 _ _ (lt_of_block HX1.out)).trans (cell_of_row _ _ _ _ _ _ HX1.out); have b13 : u3.cell? ⟨w.heap.size, 3, none⟩ = some (.int .i64 p.dist.n) := ((bcell K3.out).1 _ _ (lt_of_block HX1.out)).trans (cell_of_row _ _ _ _ _ _ HX1.out); have b14 : u3.cell? ⟨w.heap.size, 4, none⟩ = some (.slice da p.dist.cells.length dc) := ((bcell K3.out).1 _ _ (lt_of_block HX1.out)).trans (cell_of_row _ _ _ _ _ _ HX1.out); have b15 : u3.cell? ⟨w.heap.size, 5, none⟩ = some (.slice va p.vs.length vc) := ((bcell K3.out).1 _ _ (lt_of_block HX1.out)).trans (cell_of_row _ _ _ _ _ _ HX1.out); have b16 : u3.cell? ⟨w.heap.size, 6, none⟩ = some (.slice ja p.js.length jc) := ((bcell K3.out).1 _ _ (lt_of_block HX1.out)).trans (cell_of_row _ _ _ _ _ _ HX1.out); have b17 : u3.cell? ⟨w.heap.size, 7, none⟩ = some (.slice sa p.ss.length sc) := ((bcell K3.out).1 _ _ (lt_of_block HX1.out)).trans (cell_of_row _ _ _ _ _ _ HX1.out); have b20 : u3.cell? ⟨w.heap.size + 1, 0, none⟩ = some (.int .i64 (k : Int)) := ((bcell K3.out).1 _ _ (lt_of_block HX2.out)).trans (cell_of_row _ _ _ _ _ _ HX2.out); have b21 : u3.cell? ⟨w.heap.size + 1, 1, none⟩ = some (.slice a n c) := ((bcell K3.out).1 _ _ (lt_of_block HX2.out)).trans (cell_of_row _ _ _ _ _ _ HX2.out); have b22 : u3.cell? ⟨w.heap.size + 1, 2, none⟩ = some (.int .i64 tm) := ((bcell K3.out).1 _ _ (lt_of_block HX2.out)).trans (cell_of_row _ _ _ _ _ _ HX2.out); have b23 : u3.cell? ⟨w.heap.size + 1, 3, none⟩ = some (.int .i64 ds) := ((bcell K3.out).1 _ _ (lt_of_block HX2.out)).trans (cell_of_row _ _ _ _ _ _ HX2.out); have b24 : u3.cell? ⟨w.heap.size + 1, 4, none⟩ = some (.int .i64 wt) := ((bcell K3.out).1 _ _ (lt_of_block HX2.out)).trans (cell_of_row _ _ _ _ _ _ HX2.out); have b25 : u3.cell? ⟨w.heap.size + 1, 5, none⟩ = some (.int .i64 sv) := ((bcell K3.out).1 _ _ (lt_of_block HX2.out)).trans (cell_of_row _ _ _ _ _ _ HX2.out); have b26 : u3.cell? ⟨w.heap.size + 1, 6, none⟩ = some (.int .i64 co) := ((bcell K3.out).1 _ _ (lt_of_block HX2.out)).trans (cell_of_row _ _ _ _ _ _ HX2.out)) | fail)
        go_roundw
        case rel => exact ⟨q + 1, f + d, rfl, rfl, by omega, ⟨HE2.out, HF0.out⟩, K4.out⟩
        case measure => simp [intOf]; omega
      · obtain rfl : q = m := by omega
        have hz := HE9.out tq r HI.out.1
        subst hz
        have j1 : ¬ (q : Int) < (q : Int) := by omega
        go_wp2_with fail
        go_ret2
        exact ⟨rfl, below_on HB.out HNwr.out⟩
end Go.Proofs.Ytndbikoccdjafaa
