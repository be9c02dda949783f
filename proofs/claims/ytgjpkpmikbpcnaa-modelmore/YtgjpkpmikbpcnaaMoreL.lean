/-
  What the law ModelMore does.
-/
import Derived.Test.YtgjpkpmikbpcnaaAwk
import Derived.Test.YtgjpkpmikbpcnaaRChk
import Derived.Test.YtgjpkpmikbpcnaaRTsk
import Derived.Test.YtgjpkpmikbpcnaaMorC
import Derived.Test.YtgjpkpmikbpcnaaSame
import Derived.Test.YtgjpkpmikbpcnaaCpX
import Derived.Deep.RegionHeld3
import Derived.Deep.CutRange
namespace Go.Proofs.Ytgjpkpmikbpcnaa
open Go.RowKit

theorem umod101 (x : Int) : ∃ u p : Nat, IntKind.u64.wrap x = (u : Int) ∧ Int.tmod (u : Int) 101 = (p : Int) ∧ (u : Int) % 101 = (p : Int) ∧ p ≤ 100 := by
  obtain ⟨u, hu⟩ : ∃ u : Nat, IntKind.u64.wrap x = (u : Int) := ⟨(IntKind.u64.wrap x).toNat, by rw [IntKind.wrap_u64]; omega⟩
  exact ⟨u, u % 101, hu, rfl, rfl, by omega⟩
theorem made_ints (n : Nat) (hn : n ≤ 1000) (w : World) : (Instr.makeSlice 22 (.int .i64 n) (.int .i64 n)).run Try.prog w = .ok (.slice (some ⟨w.heap.size, 0, none⟩) n n) (w.alloc (.cells (Array.replicate n (.int .i64 0)) 3)) := by
  obtain ⟨i0, hi0, hz0, hz1, hz2⟩ := info_parts info3
  have := run_makeSlice (P := Try.prog) w 22 3 i0 _ Try.underlying22 hi0 hz0 .i64 .i64 n n (by omega) (by omega) (by rw [hz1]; omega) (by rw [hz2]; omega) (by omega)
  rw [hz1] at this
  simp only [Int.toNat_natCast, Nat.mul_one] at this
  have e : madeCells (Value.int .i64 0).cells n = Array.replicate n (Value.int .i64 0) := by
    apply Array.ext
    · simp [madeCells]
    · intro i h1 h2
      simp [madeCells, Value.cells, Nat.mod_one]
  rw [e] at this
  exact this
theorem filter_step {L : List Tsk} {k : Nat} {t f : Tsk} (ht : L[k]? = some t) : (L.take (k + 1)).filter (fun u => decide (u ≠ f)) = if t = f then (L.take k).filter (fun u => decide (u ≠ f)) else (L.take k).filter (fun u => decide (u ≠ f)) ++ [t] := by
  obtain ⟨hk, e⟩ := List.getElem?_eq_some_iff.1 ht
  rw [List.take_succ_eq_append_getElem hk, e, List.filter_append]
  by_cases h : t = f
  · rw [if_pos h]; simp [h]
  · rw [if_neg h]; simp [h]
theorem cell_low9 {W V : World} {b o : Nat} {v : Value} (f : Below W.heap.size W V) (h : W.cell? ⟨b, o, none⟩ = some v) : V.cell? ⟨b, o, none⟩ = some v := ((bcell f).1 b o (block_lt_of_cell h)).trans h
theorem al4 (W : World) (o1 o2 o3 o4 : Obj) : ((((W.drew.alloc o1).alloc o2).alloc o3).alloc o4).heap[W.heap.size]? = some o1 ∧ ((((W.drew.alloc o1).alloc o2).alloc o3).alloc o4).heap[W.heap.size + 1]? = some o2 ∧ ((((W.drew.alloc o1).alloc o2).alloc o3).alloc o4).heap[W.heap.size + 1 + 1]? = some o3 ∧ ((((W.drew.alloc o1).alloc o2).alloc o3).alloc o4).heap[W.heap.size + 1 + 1 + 1]? = some o4 ∧ Below W.heap.size W ((((W.drew.alloc o1).alloc o2).alloc o3).alloc o4) ∧ ((((W.drew.alloc o1).alloc o2).alloc o3).alloc o4).heap.size = W.heap.size + 1 + 1 + 1 + 1 := by
  have s1 : (W.drew.alloc o1).heap.size = W.heap.size + 1 := by simp
  have s2 : ((W.drew.alloc o1).alloc o2).heap.size = W.heap.size + 1 + 1 := by simp
  have s3 : (((W.drew.alloc o1).alloc o2).alloc o3).heap.size = W.heap.size + 1 + 1 + 1 := by simp
  refine ⟨?_, ?_, ?_, ?_, ((((Below.refl W.heap.size W).drew.alloc (Nat.le_refl _) o1).alloc (by rw [s1]; omega) o2).alloc (by rw [s2]; omega) o3).alloc (by rw [s3]; omega) o4, by simp⟩
  · rw [heap_alloc_old _ _ (by rw [s3]; omega), heap_alloc_old _ _ (by rw [s2]; omega), heap_alloc_old _ _ (by rw [s1]; omega)]; exact heap_alloc_new W.drew o1
  · rw [heap_alloc_old _ _ (by rw [s3]; omega), heap_alloc_old _ _ (by rw [s2]; omega), ← s1]; exact heap_alloc_new _ o2
  · rw [heap_alloc_old _ _ (by rw [s3]; omega), ← s2]; exact heap_alloc_new _ o3
  · rw [← s3]; exact heap_alloc_new _ o4
theorem cell_far9 {w : World} {b b' o o' : Nat} {v : Value} (h : ¬ b = b') : (w.setCell ⟨b', o', none⟩ v).cell? ⟨b, o, none⟩ = w.cell? ⟨b, o, none⟩ := by
  have e := heap_setCell_other w ⟨b', o', none⟩ b v h
  unfold World.cell?
  simp only [e]
theorem grown_cell9 {w w' : World} {mb b o : Nat} (h : w.grownBy w' (some mb)) (hb : b < w.heap.size) (hne : b ≠ mb) : w'.cell? ⟨b, o, none⟩ = w.cell? ⟨b, o, none⟩ := by
  have e := h.block b hb (by simpa using hne)
  unfold World.cell?
  simp only [e]
theorem frozen9 {W w w' : World} {mb b o T : Nat} {cs : Array Value} (h : w.grownBy w' (some mb)) (hq : W.heap[b]? = some (.cells cs T (0, 0))) (hb : b < w.heap.size) (hne : b ≠ mb) (f : Below W.heap.size W w) : w'.frozen? ⟨b, o, none⟩ = false := by
  refine frozen_of_row w' b o cs T ?_
  rw [h.block b hb (by simpa using hne), f.block b (Array.getElem?_eq_some_iff.1 hq).1]
  exact hq
theorem dims_nat {p : Prb} (h : lawM p = true) : ∃ dd : Nat, p.dims = dd ∧ dd ≤ 3 := by
  obtain ⟨a1, _⟩ := lawM_ok h
  unfold dimB at a1
  simp only [Bool.and_eq_true] at a1
  have := upB_iff.1 a1.1
  exact ⟨p.dims.toNat, by omega, by omega⟩
set_option maxRecDepth 100000 in
set_option maxHeartbeats 25600000 in
theorem moreL_any {w : World} {x : PrbS} {p : Prb} (h : PrbV w x p) (prio0 : Int) : Calls Try.prog 6 #[.agg (prbE p x), .int .i64 prio0] w fun e w' => e = .returned (.bool true) ∧ Below w.heap.size w w' := by
  obtain ⟨ta, tc, da, dc, va, vc, ja, jc, sa, sc, rfl⟩ := h.open
  have HP := hide h
  have hv := SlV.bound h.v
  have hj := SlV.bound h.j
  have hs := SlV.bound h.s
  have ht := IntsV.bound h.t
  have hd := IntsV.bound h.d
  clear h
  obtain ⟨bb, hbb⟩ : ∃ b, lawM p = b := ⟨_, rfl⟩
  have HL := hide hbb
  clear hbb
  unfold prbE
  obtain ⟨d, ⟨n, tL⟩, ⟨dn, dL⟩, vL, jL, sL⟩ := p
  simp only at HP hv hj hs ht hd HL ⊢
  obtain ⟨lt, hlt⟩ : ∃ k, tL.length = k := ⟨_, rfl⟩
  obtain ⟨ld, hld⟩ : ∃ k, dL.length = k := ⟨_, rfl⟩
  obtain ⟨lv, hlv⟩ : ∃ k, vL.length = k := ⟨_, rfl⟩
  obtain ⟨lj, hlj⟩ : ∃ k, jL.length = k := ⟨_, rfl⟩
  obtain ⟨ls, hls⟩ : ∃ k, sL.length = k := ⟨_, rfl⟩
  have HLT := hide hlt
  have HLD := hide hld
  have HLV := hide hlv
  have HLJ := hide hlj
  have HLS := hide hls
  rw [hlt, hld, hlv, hlj, hls] at HP
  rw [hlt] at ht
  rw [hld] at hd
  rw [hlv] at hv
  rw [hlj] at hj
  rw [hls] at hs
  rw [hlt, hld, hlv, hlj, hls]
  clear hlt hld hlv hlj hls
  have HB0 : Hid (Below w.heap.size w (w.alloc (.cells #[.int .i64 d, .int .i64 n, .slice ta lt tc, .int .i64 dn, .slice da ld dc, .slice va lv vc, .slice ja lj jc, .slice sa ls sc] 29))) := (Below.refl _ _).alloc (Nat.le_refl _) _
  have HPE : Hid (PrbV (w.alloc (.cells #[.int .i64 d, .int .i64 n, .slice ta lt tc, .int .i64 dn, .slice da ld dc, .slice va lv vc, .slice ja lj jc, .slice sa ls sc] 29)) ⟨.slice ta lt tc, .slice da ld dc, .slice va lv vc, .slice ja lj jc, .slice sa ls sc⟩ ⟨d, ⟨n, tL⟩, ⟨dn, dL⟩, vL, jL, sL⟩) := HP.out.on HB0.out
  have HBX : Hid (BoxP (w.alloc (.cells #[.int .i64 d, .int .i64 n, .slice ta lt tc, .int .i64 dn, .slice da ld dc, .slice va lv vc, .slice ja lj jc, .slice sa ls sc] 29)) w.heap.size ⟨d, ⟨n, tL⟩, ⟨dn, dL⟩, vL, jL, sL⟩ ⟨.slice ta lt tc, .slice da ld dc, .slice va lv vc, .slice ja lj jc, .slice sa ls sc⟩) := fun j hj => by
    have hr := heap_alloc_new w (.cells #[.int .i64 d, .int .i64 n, .slice ta lt tc, .int .i64 dn, .slice da ld dc, .slice va lv vc, .slice ja lj jc, .slice sa ls sc] 29)
    rw [cell_of_row _ _ _ _ _ _ hr]
    rfl
  have HSZ : Hid (w.heap.size < (w.alloc (.cells #[.int .i64 d, .int .i64 n, .slice ta lt tc, .int .i64 dn, .slice da ld dc, .slice va lv vc, .slice ja lj jc, .slice sa ls sc] 29)).heap.size) := by show _ < _; simp
  obtain ⟨tn, htn⟩ : ∃ k, lj + ls = k := ⟨_, rfl⟩
  have HTN := hide htn
  have htn3 : (lj : Int) + (ls : Int) = (tn : Int) := by omega
  have htnb : tn * 52 ≤ 281474976702464 := by omega
  clear htn
  cases bb with
  | false =>
    go_enter Try.func6, Try.ntmps6
    go_wp2_with (first | (go_at_call 16; refine (lawful12_any (HPE.out.on B1.out)).mono ?_; rintro e w2 ⟨rfl, k2⟩; rw [HL.out]; have B2 := hide (below_on B1.out k2); clear k2 hc1 hf1; have w2c0 : w2.cell? ⟨w.heap.size, 0, none⟩ = some (.int .i64 d) := (HBX.out.on HSZ.out B2.out) 0 (by decide); have w2c1 : w2.cell? ⟨w.heap.size, 1, none⟩ = some (.int .i64 n) := (HBX.out.on HSZ.out B2.out) 1 (by decide); have w2c2 : w2.cell? ⟨w.heap.size, 2, none⟩ = some (.slice ta lt tc) := (HBX.out.on HSZ.out B2.out) 2 (by decide); have w2c3 : w2.cell? ⟨w.heap.size, 3, none⟩ = some (.int .i64 dn) := (HBX.out.on HSZ.out B2.out) 3 (by decide); have w2c4 : w2.cell? ⟨w.heap.size, 4, none⟩ = some (.slice da ld dc) := (HBX.out.on HSZ.out B2.out) 4 (by decide); have w2c5 : w2.cell? ⟨w.heap.size, 5, none⟩ = some (.slice va lv vc) := (HBX.out.on HSZ.out B2.out) 5 (by decide); have w2c6 : w2.cell? ⟨w.heap.size, 6, none⟩ = some (.slice ja lj jc) := (HBX.out.on HSZ.out B2.out) 6 (by decide); have w2c7 : w2.cell? ⟨w.heap.size, 7, none⟩ = some (.slice sa ls sc) := (HBX.out.on HSZ.out B2.out) 7 (by decide)) | (go_at_call 15; refine (awake_any _).mono ?_; rintro e w1 ⟨rfl, k1⟩; have B1 := hide k1; obtain ⟨hc1, hf1⟩ := bcell k1; clear k1) | fail)
    go_ret
    exact ⟨rfl, below_on HB0.out B2.out⟩
  | true =>
    by_cases h11 : (11 : Int) < (tn : Int)
    · go_enter Try.func6, Try.ntmps6
      go_wp2_with (first | (go_at_call 16; refine (lawful12_any (HPE.out.on B1.out)).mono ?_; rintro e w2 ⟨rfl, k2⟩; rw [HL.out]; have B2 := hide (below_on B1.out k2); clear k2 hc1 hf1; have w2c0 : w2.cell? ⟨w.heap.size, 0, none⟩ = some (.int .i64 d) := (HBX.out.on HSZ.out B2.out) 0 (by decide); have w2c1 : w2.cell? ⟨w.heap.size, 1, none⟩ = some (.int .i64 n) := (HBX.out.on HSZ.out B2.out) 1 (by decide); have w2c2 : w2.cell? ⟨w.heap.size, 2, none⟩ = some (.slice ta lt tc) := (HBX.out.on HSZ.out B2.out) 2 (by decide); have w2c3 : w2.cell? ⟨w.heap.size, 3, none⟩ = some (.int .i64 dn) := (HBX.out.on HSZ.out B2.out) 3 (by decide); have w2c4 : w2.cell? ⟨w.heap.size, 4, none⟩ = some (.slice da ld dc) := (HBX.out.on HSZ.out B2.out) 4 (by decide); have w2c5 : w2.cell? ⟨w.heap.size, 5, none⟩ = some (.slice va lv vc) := (HBX.out.on HSZ.out B2.out) 5 (by decide); have w2c6 : w2.cell? ⟨w.heap.size, 6, none⟩ = some (.slice ja lj jc) := (HBX.out.on HSZ.out B2.out) 6 (by decide); have w2c7 : w2.cell? ⟨w.heap.size, 7, none⟩ = some (.slice sa ls sc) := (HBX.out.on HSZ.out B2.out) 7 (by decide)) | (go_at_call 15; refine (awake_any _).mono ?_; rintro e w1 ⟨rfl, k1⟩; have B1 := hide k1; obtain ⟨hc1, hf1⟩ := bcell k1; clear k1) | fail)
      go_ret
      exact ⟨rfl, below_on HB0.out B2.out⟩
    · obtain ⟨dd, hd0, hd3⟩ := dims_nat HL.out
      simp only at hd0
      subst hd0
      obtain ⟨uu, pr, um1, um2, um3, hpr⟩ := umod101 prio0
      have um4 : IntKind.i64.wrap (pr : Int) = (pr : Int) := by rw [IntKind.wrap_i64]; omega
      have um5 : IntKind.u64.wrap 101 = 101 := by decide
      have hl12 : lj ≤ 12 := by have := HTN.out; omega
      have HN := hide h11
      have HMP : Hid (checkM (moreP ⟨(dd : Int), ⟨n, tL⟩, ⟨dn, dL⟩, vL, jL, sL⟩ dd pr) = 0) := more_law HL.out (by have := HTN.out; have := HLJ.out; have := HLS.out; simp only; omega) rfl (by omega) (by omega)
      have HPR : Hid (prioM (moreP ⟨(dd : Int), ⟨n, tL⟩, ⟨dn, dL⟩, vL, jL, sL⟩ dd pr) (false, (lj : Int)) = pr) := by have h9 := more_prio (p := ⟨(dd : Int), ⟨n, tL⟩, ⟨dn, dL⟩, vL, jL, sL⟩) (dd := dd) (pr := pr); unfold freshT at h9; simp only [HLJ.out] at h9; exact h9
      have HTH : Hid (thereM ⟨(dd : Int), ⟨n, tL⟩, ⟨dn, dL⟩, vL, jL, sL⟩ (false, (lj : Int)) = false) := by have h9 := more_there (p := ⟨(dd : Int), ⟨n, tL⟩, ⟨dn, dL⟩, vL, jL, sL⟩); unfold freshT at h9; simp only [HLJ.out] at h9; exact h9
      have HRS : Hid ((tasksM (moreP ⟨(dd : Int), ⟨n, tL⟩, ⟨dn, dL⟩, vL, jL, sL⟩ dd pr)).filter (fun t => decide (t ≠ (false, (lj : Int)))) = tasksM ⟨(dd : Int), ⟨n, tL⟩, ⟨dn, dL⟩, vL, jL, sL⟩) := by have h9 := more_rest (p := ⟨(dd : Int), ⟨n, tL⟩, ⟨dn, dL⟩, vL, jL, sL⟩) (dd := dd) (pr := pr); unfold freshT at h9; simp only [HLJ.out] at h9; exact h9
      have HTL : Hid ((tasksM (moreP ⟨(dd : Int), ⟨n, tL⟩, ⟨dn, dL⟩, vL, jL, sL⟩ dd pr)).length = tn + 1) := by show _ = _; rw [more_len]; simp only; rw [HLJ.out, HLS.out, HTN.out]
      have HTP : Hid ((tasksM ⟨(dd : Int), ⟨n, tL⟩, ⟨dn, dL⟩, vL, jL, sL⟩).length = tn) := by show _ = _; rw [tasksM_len]; simp only; rw [HLJ.out, HLS.out, HTN.out]
      go_enter Try.func6, Try.ntmps6
      go_wp2_with (first | (go_at_call 17; refine (copied_any (HPE.out.on B2.out)).mono ?_; rintro e w3 ⟨X3, rfl, P3, k3⟩; obtain ⟨gv, gj, gs, HF3⟩ := P3; obtain ⟨qa, qc, ea, ec, fa, fc, ga, gc, ha, hc, rfl⟩ := HF3.prb.open; have HFQ := hide HF3; clear HF3; have B3 := hide (below_on B2.out k3); have HS23 := hide k3.size; clear k3; simp only [HLT.out, HLD.out, HLV.out, HLJ.out, HLS.out, prbE] at HFQ ⊢; clear w2c0 w2c1 w2c2 w2c3 w2c4 w2c5 w2c6 w2c7) | (go_at_call 16; refine (lawful12_any (HPE.out.on B1.out)).mono ?_; rintro e w2 ⟨rfl, k2⟩; rw [HL.out]; have B2 := hide (below_on B1.out k2); clear k2 hc1 hf1; have w2c0 : w2.cell? ⟨w.heap.size, 0, none⟩ = some (.int .i64 dd) := (HBX.out.on HSZ.out B2.out) 0 (by decide); have w2c1 : w2.cell? ⟨w.heap.size, 1, none⟩ = some (.int .i64 n) := (HBX.out.on HSZ.out B2.out) 1 (by decide); have w2c2 : w2.cell? ⟨w.heap.size, 2, none⟩ = some (.slice ta lt tc) := (HBX.out.on HSZ.out B2.out) 2 (by decide); have w2c3 : w2.cell? ⟨w.heap.size, 3, none⟩ = some (.int .i64 dn) := (HBX.out.on HSZ.out B2.out) 3 (by decide); have w2c4 : w2.cell? ⟨w.heap.size, 4, none⟩ = some (.slice da ld dc) := (HBX.out.on HSZ.out B2.out) 4 (by decide); have w2c5 : w2.cell? ⟨w.heap.size, 5, none⟩ = some (.slice va lv vc) := (HBX.out.on HSZ.out B2.out) 5 (by decide); have w2c6 : w2.cell? ⟨w.heap.size, 6, none⟩ = some (.slice ja lj jc) := (HBX.out.on HSZ.out B2.out) 6 (by decide); have w2c7 : w2.cell? ⟨w.heap.size, 7, none⟩ = some (.slice sa ls sc) := (HBX.out.on HSZ.out B2.out) 7 (by decide)) | (go_at_call 15; refine (awake_any _).mono ?_; rintro e w1 ⟨rfl, k1⟩; have B1 := hide k1; obtain ⟨hc1, hf1⟩ := bcell k1; clear k1) | fail)
      obtain ⟨W, hW⟩ : ∃ W, W = w3.alloc (.cells #[.int .i64 dd, .int .i64 n, .slice qa lt qc, .int .i64 dn, .slice ea ld ec, .slice fa lv fc, .slice ga lj gc, .slice ha ls hc] 29) := ⟨_, rfl⟩
      have HW3 : Hid (Below w3.heap.size w3 W) := by rw [hW]; exact (Below.refl _ _).alloc (Nat.le_refl _) _
      have HBW := hide (below_on B3.out HW3.out)
      have HWE : Hid (W.heap[w3.heap.size]? = some (.cells (prbE ⟨(dd : Int), ⟨n, tL⟩, ⟨dn, dL⟩, vL, jL, sL⟩ ⟨.slice qa lt qc, .slice ea ld ec, .slice fa lv fc, .slice ga lj gc, .slice ha ls hc⟩) 29 (0, 0))) := by show _ = _; rw [hW, heap_alloc_new]; rfl
      have hwq : w3.heap.size < W.heap.size := by rw [hW]; simp
      rw [← hW]
      clear hW
      obtain ⟨R, hR1, hR2, _, _, hR5⟩ := HFQ.out.j
      have HR2 := hide hR2
      have HR5 := hide hR5
      have HR1 : Hid (W.ownsRow (w2.heap.size + 2) 67 7 (.slice ga lj gc) lj R.flatten) := by have h9 := own_later hR1 (Nat.le_refl _) HW3.out; simp only [HLJ.out] at h9; exact h9
      clear hR1 hR2 hR5
      have hej := HFQ.out.ej
      obtain ⟨g0, rfl⟩ : ∃ g0, ga = some ⟨g0, 0, none⟩ := by
        rcases HR1.out.2 with ⟨e, _⟩ | ⟨g, cap, cur, e, _⟩
        · rw [e] at hej; cases hej
        · injection e with e1 _ _; exact ⟨g, e1⟩
      have hgj : g0 = gj := by have h9 := hej; injection h9
      subst hgj
      clear hej
      have HL0 : Hid (w.heap.size < w2.heap.size) := by have := HSZ.out; have := B2.out.size; show _ < _; omega
      have cD : W.cell? ⟨w.heap.size, 0, none⟩ = some (.int .i64 dd) := (HBX.out.on HSZ.out HBW.out) 0 (by decide)
      have cJ : W.cell? ⟨w3.heap.size, 6, none⟩ = some (.slice (some ⟨g0, 0, none⟩) lj gc) := by rw [cell_of_row _ _ _ _ _ _ HWE.out]; rfl
      have fJ : ∀ j, W.frozen? ⟨w3.heap.size, j, none⟩ = false := fun j => frozen_of_row _ _ _ _ _ HWE.out
      have hmk : ∀ V, (Instr.makeSlice 22 (.int .i64 dd) (.int .i64 dd)).run Try.prog V = .ok (.slice (some ⟨V.heap.size, 0, none⟩) dd dd) (V.alloc (.cells (Array.replicate dd (.int .i64 0)) 3)) := fun V => made_ints dd (by omega) V
      have hwl : w.heap.size < W.heap.size := by have := HSZ.out; have := HBW.out.size; omega
      have m0 : ¬ w.heap.size = W.heap.size := by omega
      have m1 : ¬ w.heap.size = W.heap.size + 1 := by omega
      have m2 : ¬ w.heap.size = W.heap.size + 1 + 1 := by omega
      have m3 : ¬ w.heap.size = W.heap.size + 1 + 1 + 1 := by omega
      have m4 : ¬ w3.heap.size = W.heap.size := by omega
      have m5 : ¬ w3.heap.size = W.heap.size + 1 := by omega
      have m6 : ¬ w3.heap.size = W.heap.size + 1 + 1 := by omega
      have m7 : ¬ w3.heap.size = W.heap.size + 1 + 1 + 1 := by omega
      have m8 : ¬ w.heap.size = w3.heap.size := by have := HS23.out; have := HL0.out; omega
      obtain ⟨i0, hi0, hz0, hz1, hz2⟩ := info_parts info70
      have HI0 := hide hi0
      have HZ0 := hide hz0
      have HZ1 := hide hz1
      have HZ2 := hide hz2
      clear hi0 hz0 hz1 hz2
      have HGL : Hid (g0 < w3.heap.size) := by obtain ⟨R', r, _⟩ := HFQ.out.j; exact (r.lt _ HFQ.out.ej).2
      have HSB : Hid ((w.alloc (.cells #[.int .i64 dd, .int .i64 n, .slice ta lt tc, .int .i64 dn, .slice da ld dc, .slice va lv vc, .slice ja lj jc, .slice sa ls sc] 29)).heap.size ≤ w2.heap.size) := B2.out.size
      have HLJ2 : Hid ((⟨(dd : Int), ⟨n, tL⟩, ⟨dn, dL⟩, vL, jL, sL⟩ : Prb).js.length = lj) := HLJ.out
      have HBB : Hid ((w.alloc (.cells #[.int .i64 dd, .int .i64 n, .slice ta lt tc, .int .i64 dn, .slice da ld dc, .slice va lv vc, .slice ja lj jc, .slice sa ls sc] 29)).heap.size ≤ w2.heap.size + 2) := by show _ ≤ _; have := HSB.out; omega
      have HBC : Hid ((w.alloc (.cells #[.int .i64 dd, .int .i64 n, .slice ta lt tc, .int .i64 dn, .slice da ld dc, .slice va lv vc, .slice ja lj jc, .slice sa ls sc] 29)).heap.size ≤ w3.heap.size) := by show _ ≤ _; have := HSB.out; have := HS23.out; omega
      have HNG : Hid (w.heap.size ≠ g0) := by have h9 := (World.ownsRow.lt HR1.out g0 rfl).1; have := HL0.out; show _ ≠ _; omega
      have HNQ : Hid (w3.heap.size ≠ g0) := by have := HGL.out; show _ ≠ _; omega
      have HBAS : Hid (∀ {V : World}, W.heap.size ≤ V.heap.size → w2.heap.size + 2 ≤ V.heap.size) := fun h => by have h9 := World.ownsRow.lt HR1.out g0 rfl; omega
      have HLEN : Hid (lj + 1 ≤ maxLen) := by show _ ≤ _; unfold maxLen; omega
      have HBYT : Hid ((lj + 1) * 104 ≤ 140737488355328) := by show _ ≤ _; omega
      go_cut [4] from 31 to 47 (fun v4 wx => v4 = .bool false ∧ Hid (∃ g9 cap9, PrbV wx ⟨.slice qa lt qc, .slice ea ld ec, .slice fa lv fc, .slice (some ⟨g9, 0, none⟩) (lj + 1) cap9, .slice ha ls hc⟩ (moreP ⟨(dd : Int), ⟨n, tL⟩, ⟨dn, dL⟩, vL, jL, sL⟩ dd pr) ∧ BoxP wx w3.heap.size (moreP ⟨(dd : Int), ⟨n, tL⟩, ⟨dn, dL⟩, vL, jL, sL⟩ dd pr) ⟨.slice qa lt qc, .slice ea ld ec, .slice fa lv fc, .slice (some ⟨g9, 0, none⟩) (lj + 1) cap9, .slice ha ls hc⟩ ∧ Below (w.alloc (.cells #[.int .i64 dd, .int .i64 n, .slice ta lt tc, .int .i64 dn, .slice da ld dc, .slice va lv vc, .slice ja lj jc, .slice sa ls sc] 29)).heap.size (w.alloc (.cells #[.int .i64 dd, .int .i64 n, .slice ta lt tc, .int .i64 dn, .slice da ld dc, .slice va lv vc, .slice ja lj jc, .slice sa ls sc] 29)) wx))
      case first =>
        refine wp_region_held_drew (S := (fun w' => w'.cell? ⟨w.heap.size, 0, none⟩ = some (.int .i64 dd))) (by kernel_rfl) ?_ (fun hHeld0 => ?_)
        · (try dsimp only); (first | exact (cell_far9 m8).trans z0 | exact z0 | (go_keep; done) | (exact cell_low9 (by repeat (first | exact Below.refl _ _ | refine Below.drew ?_ | (refine Below.alloc ?_ (by simp; try omega) _))) cD) | (simp [*]; done))
        refine wpAnyH_take (i := 0) (oi := { dst := some 31, op := Op.fieldAddr 29 (Operand.tmp 5) 4, type := 0, pos := "law.go:148", after := #[], guard := none }) (v := ?_) rfl (by kernel_rfl) (by kernel_rfl) (by kernel_rfl) (fun _ _ _ h => h) (Or.inl ⟨by rfl, ?_⟩) (by assumption) ?_
        rotate_left
        · intro w hSw; (try dsimp only at hSw); first | (go_simp; done) | (go_simp; with_reducible rfl) | with_reducible rfl | rfl
        try simp only [Act.put, List.setIfInBounds_toArray]
        refine wpAnyH_take (i := 2) (oi := { dst := some 33, op := Op.build 61 #[(0, Operand.const (Value.int IntKind.i64 0)), (1, Operand.const (Value.int IntKind.i64 9))], type := 61, pos := "law.go:148", after := #[], guard := none }) (v := ?_) rfl (by kernel_rfl) (by kernel_rfl) (by kernel_rfl) (fun _ _ _ h => h) (Or.inl ⟨by rfl, ?_⟩) (by assumption) ?_
        rotate_left
        · intro w hSw; (try dsimp only at hSw); first | (go_simp; done) | (go_simp; with_reducible rfl) | with_reducible rfl | rfl
        try simp only [Act.put, List.setIfInBounds_toArray]
        refine wpAnyH_take (i := 5) (oi := { dst := some 36, op := Op.fieldAddr 29 (Operand.tmp 2) 0, type := 0, pos := "law.go:148", after := #[], guard := none }) (v := ?_) rfl (by kernel_rfl) (by kernel_rfl) (by kernel_rfl) (fun _ _ _ h => h) (Or.inl ⟨by rfl, ?_⟩) (by assumption) ?_
        rotate_left
        · intro w hSw; (try dsimp only at hSw); first | (go_simp; done) | (go_simp; with_reducible rfl) | with_reducible rfl | rfl
        try simp only [Act.put, List.setIfInBounds_toArray]
        refine wpAnyH_take (i := 6) (oi := { dst := some 37, op := Op.load 3 (Operand.tmp 36), type := 3, pos := "law.go:148", after := #[{ on := 5, ground := Ground.data }], guard := none }) (v := ?_) rfl (by kernel_rfl) (by kernel_rfl) (by kernel_rfl) (fun _ _ _ h => h) (Or.inl ⟨by rfl, ?_⟩) (by assumption) ?_
        rotate_left
        · intro w hSw; (try dsimp only at hSw); first | (go_simp; done) | (go_simp; with_reducible rfl) | with_reducible rfl | rfl
        try simp only [Act.put, List.setIfInBounds_toArray]
        refine wpAnyH_take (i := 8) (oi := { dst := some 39, op := Op.fieldAddr 29 (Operand.tmp 2) 0, type := 0, pos := "law.go:148", after := #[], guard := none }) (v := ?_) rfl (by kernel_rfl) (by kernel_rfl) (by kernel_rfl) (fun _ _ _ h => h) (Or.inl ⟨by rfl, ?_⟩) (by assumption) ?_
        rotate_left
        · intro w hSw; (try dsimp only at hSw); first | (go_simp; done) | (go_simp; with_reducible rfl) | with_reducible rfl | rfl
        try simp only [Act.put, List.setIfInBounds_toArray]
        refine wpAnyH_take (i := 9) (oi := { dst := some 40, op := Op.load 3 (Operand.tmp 39), type := 3, pos := "law.go:148", after := #[{ on := 8, ground := Ground.data }], guard := none }) (v := ?_) rfl (by kernel_rfl) (by kernel_rfl) (by kernel_rfl) (fun _ _ _ h => h) (Or.inl ⟨by rfl, ?_⟩) (by assumption) ?_
        rotate_left
        · intro w hSw; (try dsimp only at hSw); first | (go_simp; done) | (go_simp; with_reducible rfl) | with_reducible rfl | rfl
        try simp only [Act.put, List.setIfInBounds_toArray]
        refine wpAnyH_take (i := 11) (oi := { dst := some 42, op := Op.move (Operand.tmp 1), type := 3, pos := "law.go:148", after := #[], guard := none }) (v := ?_) rfl (by kernel_rfl) (by kernel_rfl) (by kernel_rfl) (fun _ _ _ h => h) (Or.inl ⟨by rfl, ?_⟩) (by assumption) ?_
        rotate_left
        · intro w hSw; (try dsimp only at hSw); first | (go_simp; done) | (go_simp; with_reducible rfl) | with_reducible rfl | rfl
        try simp only [Act.put, List.setIfInBounds_toArray]
        refine wpAnyH_ready (rs := [1, 3, 7, 10]) (by kernel_rfl) (by simp) ?_
        refine AllReadyH.cons (o := { dst := some 32, op := Op.load 26 (Operand.tmp 31), type := 26, pos := "law.go:148", after := #[{ on := 0, ground := Ground.data }], guard := none }) rfl (fun K hK => ?_) ?_
        ·go_simp
         refine hK.out _ _ ?_ (fun hHeld1 => ?_)
         · (try dsimp only); exact cell_low9 (by repeat (first | exact Below.refl _ _ | refine Below.drew ?_ | (refine Below.alloc ?_ (by simp; try omega) _))) cD
         clear hK K
         try simp only [Act.put, List.setIfInBounds_toArray]
         clear hHeld0
         refine wpAnyH_ready (rs := [3, 7, 10]) (by kernel_rfl) (by simp) ?_
         refine AllReadyH.cons (o := { dst := some 34, op := Op.buildSlice 43 1 #[(0, Operand.tmp 33)], type := 43, pos := "law.go:148", after := #[{ on := 2, ground := Ground.data }], guard := none }) rfl (fun K hK => ?_) ?_
         ·go_simp
          refine hK.out _ _ ?_ (fun hHeld2 => ?_)
          · (try dsimp only); exact cell_low9 (by repeat (first | exact Below.refl _ _ | refine Below.drew ?_ | (refine Below.alloc ?_ (by simp; try omega) _))) cD
          clear hK K
          try simp only [Act.put, List.setIfInBounds_toArray]
          clear hHeld1
          refine wpAnyH_take (i := 4) (oi := { dst := some 35, op := Op.build 45 #[(2, Operand.tmp 34)], type := 45, pos := "law.go:148", after := #[{ on := 3, ground := Ground.data }], guard := none }) (v := ?_) rfl (by kernel_rfl) (by kernel_rfl) (by kernel_rfl) (fun _ _ _ h => h) (Or.inl ⟨by rfl, ?_⟩) (by assumption) ?_
          rotate_left
          · intro w hSw; (try dsimp only at hSw); first | (go_simp; done) | (go_simp; with_reducible rfl) | with_reducible rfl | rfl
          try simp only [Act.put, List.setIfInBounds_toArray]
          refine wpAnyH_ready (rs := [7, 10]) (by kernel_rfl) (by simp) ?_
          refine AllReadyH.cons (o := { dst := some 38, op := Op.makeSlice 22 (Operand.tmp 37) (Operand.tmp 37), type := 22, pos := "law.go:148", after := #[{ on := 6, ground := Ground.data }, { on := 6, ground := Ground.data }], guard := none }) rfl (fun K hK => ?_) ?_
          ·go_simp
           refine hK.out _ _ ?_ (fun hHeld3 => ?_)
           · (try dsimp only); exact cell_low9 (by repeat (first | exact Below.refl _ _ | refine Below.drew ?_ | (refine Below.alloc ?_ (by simp; try omega) _))) cD
           clear hK K
           try simp only [Act.put, List.setIfInBounds_toArray]
           clear hHeld2
           refine wpAnyH_ready (rs := [10]) (by kernel_rfl) (by simp) ?_
           refine AllReadyH.cons (o := { dst := some 41, op := Op.makeSlice 22 (Operand.tmp 40) (Operand.tmp 40), type := 22, pos := "law.go:148", after := #[{ on := 9, ground := Ground.data }, { on := 9, ground := Ground.data }], guard := none }) rfl (fun K hK => ?_) ?_
           ·go_simp
            refine hK.out _ _ ?_ (fun hHeld4 => ?_)
            · (try dsimp only); exact cell_low9 (by repeat (first | exact Below.refl _ _ | refine Below.drew ?_ | (refine Below.alloc ?_ (by simp; try omega) _))) cD
            clear hK K
            try simp only [Act.put, List.setIfInBounds_toArray]
            clear hHeld3
            refine wpAnyH_take (i := 12) (oi := { dst := some 43, op := Op.build 67 #[(0, Operand.tmp 35), (1, Operand.tmp 38), (2, Operand.tmp 41), (4, Operand.tmp 42)], type := 67, pos := "law.go:148", after := #[{ on := 4, ground := Ground.data }, { on := 7, ground := Ground.data }, { on := 10, ground := Ground.data }, { on := 11, ground := Ground.data }], guard := none }) (v := ?_) rfl (by kernel_rfl) (by kernel_rfl) (by kernel_rfl) (fun _ _ _ h => h) (Or.inl ⟨by rfl, ?_⟩) (by assumption) ?_
            rotate_left
            · intro w hSw; (try dsimp only at hSw); first | (go_simp; done) | (go_simp; with_reducible rfl) | with_reducible rfl | rfl
            try simp only [Act.put, List.setIfInBounds_toArray]
            refine wpAnyH_ready (rs := [13]) (by kernel_rfl) (by simp) ?_
            refine AllReadyH.cons (o := { dst := some 44, op := Op.buildSlice 26 1 #[(0, Operand.tmp 43)], type := 26, pos := "law.go:148", after := #[{ on := 12, ground := Ground.data }], guard := none }) rfl (fun K hK => ?_) ?_
            ·go_simp
             refine hK.out _ _ ?_ (fun hHeld5 => ?_)
             · (try dsimp only); exact cell_low9 (by repeat (first | exact Below.refl _ _ | refine Below.drew ?_ | (refine Below.alloc ?_ (by simp; try omega) _))) cD
             clear hK K
             try simp only [Act.put, List.setIfInBounds_toArray]
             clear hHeld4
             refine wpAnyH_ready (rs := [14]) (by kernel_rfl) (by simp) ?_
             refine AllReadyH.cons (o := { dst := some 45, op := Op.call { callee := Callee.builtin Builtin.append, args := #[Operand.tmp 32, Operand.tmp 44], argTypes := #[26, 26] }, type := 26, pos := "law.go:148", after := #[{ on := 1, ground := Ground.data }, { on := 13, ground := Ground.data }], guard := none }) rfl (fun K hK => ?_) ?_
             ·(have AL := hide (al4 W (.cells #[.int .i64 0, .int .i64 9] 61) (.cells (Array.replicate dd (.int .i64 0)) 3) (.cells (Array.replicate dd (.int .i64 0)) 3) (.cells #[.int .i64 0, .int .i64 0, .slice (some ⟨W.heap.size, 0, none⟩) 1 1, .slice (some ⟨W.heap.size + 1, 0, none⟩) dd dd, .slice (some ⟨W.heap.size + 1 + 1, 0, none⟩) dd dd, .int .u64 0, .int .i64 pr] 67)); refine step_append_lies _ (by rfl) (.tmp 32) (.tmp 44) 26 (by rfl) (w2.heap.size + 2) 67 i0 _ 7 104 Try.underlying26 HI0.out HZ0.out HZ1.out HZ2.out (by rfl) (by decide) (.slice (some ⟨g0, 0, none⟩) lj gc) lj R.flatten (by rfl) (own_later HR1.out (Nat.le_refl _) AL.out.2.2.2.2.1) ⟨W.heap.size + 1 + 1 + 1, 0, none⟩ 1 1 [.int .i64 0, .int .i64 0, .slice (some ⟨W.heap.size, 0, none⟩) 1 1, .slice (some ⟨W.heap.size + 1, 0, none⟩) dd dd, .slice (some ⟨W.heap.size + 1 + 1, 0, none⟩) dd dd, .int .u64 0, .int .i64 pr] (by rfl) (by rfl) (news_of AL.out.2.2.2.1) (by simp [Value.oneCell']) (by decide) HLEN.out HBYT.out (HBAS.out AL.out.2.2.2.2.1.size) (W.heap.size + 1 + 1 + 1 + 1) AL.out.2.2.2.2.2 ?_; intro g9 cap9 w9 hown9 hgrow9 hat9 hlt9; have z0 := (grown_cell9 (b := w.heap.size) (o := 0) hgrow9 (Nat.lt_of_lt_of_le hwl AL.out.2.2.2.2.1.size) HNG.out).trans (cell_low9 AL.out.2.2.2.2.1 cD); have z6 := (grown_cell9 (b := w3.heap.size) (o := 6) hgrow9 (Nat.lt_of_lt_of_le hwq AL.out.2.2.2.2.1.size) HNQ.out).trans (cell_low9 AL.out.2.2.2.2.1 cJ); have z7 := frozen9 (o := 6) hgrow9 HWE.out (Nat.lt_of_lt_of_le hwq AL.out.2.2.2.2.1.size) HNQ.out AL.out.2.2.2.2.1)
              refine hK.out _ _ ?_ (fun hHeld6 => ?_)
              · (try dsimp only); exact z0
              clear hK K
              try simp only [Act.put, List.setIfInBounds_toArray]
              clear hHeld5
              refine wpAnyH_take (i := 15) (v := ?_) rfl (by kernel_rfl) (by kernel_rfl) (by kernel_rfl) (fun _ _ _ h => h) (Or.inl ⟨by rfl, ?_⟩) (by assumption) ?_
              rotate_left
              · intro w hSw; (try dsimp only at hSw); first | (go_simp; done) | (go_simp; with_reducible rfl) | with_reducible rfl | rfl
              try simp only [Act.put]
              refine wpAnyH_ready (rs := [16]) (by kernel_rfl) (by simp) ?_
              refine AllReadyH.cons (o := { dst := none, op := Op.store 26 (Operand.tmp 46) (Operand.tmp 45), type := 0, pos := "law.go:148", after := #[{ on := 15, ground := Ground.data }, { on := 14, ground := Ground.data }, { on := 14, ground := Ground.chain }, { on := 0, ground := Ground.phase }, { on := 1, ground := Ground.phase }, { on := 2, ground := Ground.phase }, { on := 3, ground := Ground.phase }, { on := 4, ground := Ground.phase }, { on := 5, ground := Ground.phase }, { on := 6, ground := Ground.phase }, { on := 7, ground := Ground.phase }, { on := 8, ground := Ground.phase }, { on := 9, ground := Ground.phase }, { on := 10, ground := Ground.phase }, { on := 11, ground := Ground.phase }, { on := 12, ground := Ground.phase }, { on := 13, ground := Ground.phase }, { on := 14, ground := Ground.phase }], guard := none }) rfl (fun K hK => ?_) ?_
              ·go_simp
               refine hK.out _ _ ?_ (fun hHeld7 => ?_)
               · (try dsimp only); exact (cell_far9 m8).trans z0
               clear hK K
               try simp only [Act.put, List.setIfInBounds_toArray]
               clear hHeld6
               refine wpAnyH_done (by kernel_rfl) ?_ _
               clear hHeld7
               have HP9 := hide (more_leaf HFQ.out HLJ2.out HR2.out HR5.out HBW.out HBB.out HBC.out HW3.out hwq HWE.out AL.out.2.2.2.2.1 (by omega) (by omega) (by omega) AL.out.1 AL.out.2.1 AL.out.2.2.1 hown9 hgrow9 hat9 (by omega) hd3 hl12)
               go_wp2_with fail
               go_meet
               case rel => exact ⟨rfl, g9, cap9, HP9.out⟩
              exact AllReadyH.nil
             exact AllReadyH.nil
            exact AllReadyH.nil
           exact AllReadyH.nil
          refine AllReadyH.cons (o := { dst := some 41, op := Op.makeSlice 22 (Operand.tmp 40) (Operand.tmp 40), type := 22, pos := "law.go:148", after := #[{ on := 9, ground := Ground.data }, { on := 9, ground := Ground.data }], guard := none }) rfl (fun K hK => ?_) ?_
          ·go_simp
           refine hK.out _ _ ?_ (fun hHeld8 => ?_)
           · (try dsimp only); exact cell_low9 (by repeat (first | exact Below.refl _ _ | refine Below.drew ?_ | (refine Below.alloc ?_ (by simp; try omega) _))) cD
           clear hK K
           try simp only [Act.put, List.setIfInBounds_toArray]
           clear hHeld2
           refine wpAnyH_ready (rs := [7]) (by kernel_rfl) (by simp) ?_
           refine AllReadyH.cons (o := { dst := some 38, op := Op.makeSlice 22 (Operand.tmp 37) (Operand.tmp 37), type := 22, pos := "law.go:148", after := #[{ on := 6, ground := Ground.data }, { on := 6, ground := Ground.data }], guard := none }) rfl (fun K hK => ?_) ?_
           ·go_simp
            refine hK.out _ _ ?_ (fun hHeld9 => ?_)
            · (try dsimp only); exact cell_low9 (by repeat (first | exact Below.refl _ _ | refine Below.drew ?_ | (refine Below.alloc ?_ (by simp; try omega) _))) cD
            clear hK K
            try simp only [Act.put, List.setIfInBounds_toArray]
            clear hHeld8
            refine wpAnyH_take (i := 12) (oi := { dst := some 43, op := Op.build 67 #[(0, Operand.tmp 35), (1, Operand.tmp 38), (2, Operand.tmp 41), (4, Operand.tmp 42)], type := 67, pos := "law.go:148", after := #[{ on := 4, ground := Ground.data }, { on := 7, ground := Ground.data }, { on := 10, ground := Ground.data }, { on := 11, ground := Ground.data }], guard := none }) (v := ?_) rfl (by kernel_rfl) (by kernel_rfl) (by kernel_rfl) (fun _ _ _ h => h) (Or.inl ⟨by rfl, ?_⟩) (by assumption) ?_
            rotate_left
            · intro w hSw; (try dsimp only at hSw); first | (go_simp; done) | (go_simp; with_reducible rfl) | with_reducible rfl | rfl
            try simp only [Act.put, List.setIfInBounds_toArray]
            refine wpAnyH_ready (rs := [13]) (by kernel_rfl) (by simp) ?_
            refine AllReadyH.cons (o := { dst := some 44, op := Op.buildSlice 26 1 #[(0, Operand.tmp 43)], type := 26, pos := "law.go:148", after := #[{ on := 12, ground := Ground.data }], guard := none }) rfl (fun K hK => ?_) ?_
            ·go_simp
             refine hK.out _ _ ?_ (fun hHeld10 => ?_)
             · (try dsimp only); exact cell_low9 (by repeat (first | exact Below.refl _ _ | refine Below.drew ?_ | (refine Below.alloc ?_ (by simp; try omega) _))) cD
             clear hK K
             try simp only [Act.put, List.setIfInBounds_toArray]
             clear hHeld9
             refine wpAnyH_ready (rs := [14]) (by kernel_rfl) (by simp) ?_
             refine AllReadyH.cons (o := { dst := some 45, op := Op.call { callee := Callee.builtin Builtin.append, args := #[Operand.tmp 32, Operand.tmp 44], argTypes := #[26, 26] }, type := 26, pos := "law.go:148", after := #[{ on := 1, ground := Ground.data }, { on := 13, ground := Ground.data }], guard := none }) rfl (fun K hK => ?_) ?_
             ·(have AL := hide (al4 W (.cells #[.int .i64 0, .int .i64 9] 61) (.cells (Array.replicate dd (.int .i64 0)) 3) (.cells (Array.replicate dd (.int .i64 0)) 3) (.cells #[.int .i64 0, .int .i64 0, .slice (some ⟨W.heap.size, 0, none⟩) 1 1, .slice (some ⟨W.heap.size + 1 + 1, 0, none⟩) dd dd, .slice (some ⟨W.heap.size + 1, 0, none⟩) dd dd, .int .u64 0, .int .i64 pr] 67)); refine step_append_lies _ (by rfl) (.tmp 32) (.tmp 44) 26 (by rfl) (w2.heap.size + 2) 67 i0 _ 7 104 Try.underlying26 HI0.out HZ0.out HZ1.out HZ2.out (by rfl) (by decide) (.slice (some ⟨g0, 0, none⟩) lj gc) lj R.flatten (by rfl) (own_later HR1.out (Nat.le_refl _) AL.out.2.2.2.2.1) ⟨W.heap.size + 1 + 1 + 1, 0, none⟩ 1 1 [.int .i64 0, .int .i64 0, .slice (some ⟨W.heap.size, 0, none⟩) 1 1, .slice (some ⟨W.heap.size + 1 + 1, 0, none⟩) dd dd, .slice (some ⟨W.heap.size + 1, 0, none⟩) dd dd, .int .u64 0, .int .i64 pr] (by rfl) (by rfl) (news_of AL.out.2.2.2.1) (by simp [Value.oneCell']) (by decide) HLEN.out HBYT.out (HBAS.out AL.out.2.2.2.2.1.size) (W.heap.size + 1 + 1 + 1 + 1) AL.out.2.2.2.2.2 ?_; intro g9 cap9 w9 hown9 hgrow9 hat9 hlt9; have z0 := (grown_cell9 (b := w.heap.size) (o := 0) hgrow9 (Nat.lt_of_lt_of_le hwl AL.out.2.2.2.2.1.size) HNG.out).trans (cell_low9 AL.out.2.2.2.2.1 cD); have z6 := (grown_cell9 (b := w3.heap.size) (o := 6) hgrow9 (Nat.lt_of_lt_of_le hwq AL.out.2.2.2.2.1.size) HNQ.out).trans (cell_low9 AL.out.2.2.2.2.1 cJ); have z7 := frozen9 (o := 6) hgrow9 HWE.out (Nat.lt_of_lt_of_le hwq AL.out.2.2.2.2.1.size) HNQ.out AL.out.2.2.2.2.1)
              refine hK.out _ _ ?_ (fun hHeld11 => ?_)
              · (try dsimp only); exact z0
              clear hK K
              try simp only [Act.put, List.setIfInBounds_toArray]
              clear hHeld10
              refine wpAnyH_take (i := 15) (v := ?_) rfl (by kernel_rfl) (by kernel_rfl) (by kernel_rfl) (fun _ _ _ h => h) (Or.inl ⟨by rfl, ?_⟩) (by assumption) ?_
              rotate_left
              · intro w hSw; (try dsimp only at hSw); first | (go_simp; done) | (go_simp; with_reducible rfl) | with_reducible rfl | rfl
              try simp only [Act.put]
              refine wpAnyH_ready (rs := [16]) (by kernel_rfl) (by simp) ?_
              refine AllReadyH.cons (o := { dst := none, op := Op.store 26 (Operand.tmp 46) (Operand.tmp 45), type := 0, pos := "law.go:148", after := #[{ on := 15, ground := Ground.data }, { on := 14, ground := Ground.data }, { on := 14, ground := Ground.chain }, { on := 0, ground := Ground.phase }, { on := 1, ground := Ground.phase }, { on := 2, ground := Ground.phase }, { on := 3, ground := Ground.phase }, { on := 4, ground := Ground.phase }, { on := 5, ground := Ground.phase }, { on := 6, ground := Ground.phase }, { on := 7, ground := Ground.phase }, { on := 8, ground := Ground.phase }, { on := 9, ground := Ground.phase }, { on := 10, ground := Ground.phase }, { on := 11, ground := Ground.phase }, { on := 12, ground := Ground.phase }, { on := 13, ground := Ground.phase }, { on := 14, ground := Ground.phase }], guard := none }) rfl (fun K hK => ?_) ?_
              ·go_simp
               refine hK.out _ _ ?_ (fun hHeld12 => ?_)
               · (try dsimp only); exact (cell_far9 m8).trans z0
               clear hK K
               try simp only [Act.put, List.setIfInBounds_toArray]
               clear hHeld11
               refine wpAnyH_done (by kernel_rfl) ?_ _
               clear hHeld12
               have HP9 := hide (more_leaf HFQ.out HLJ2.out HR2.out HR5.out HBW.out HBB.out HBC.out HW3.out hwq HWE.out AL.out.2.2.2.2.1 (by omega) (by omega) (by omega) AL.out.1 AL.out.2.2.1 AL.out.2.1 hown9 hgrow9 hat9 (by omega) hd3 hl12)
               go_wp2_with fail
               go_meet
               case rel => exact ⟨rfl, g9, cap9, HP9.out⟩
              exact AllReadyH.nil
             exact AllReadyH.nil
            exact AllReadyH.nil
           exact AllReadyH.nil
          exact AllReadyH.nil
         refine AllReadyH.cons (o := { dst := some 38, op := Op.makeSlice 22 (Operand.tmp 37) (Operand.tmp 37), type := 22, pos := "law.go:148", after := #[{ on := 6, ground := Ground.data }, { on := 6, ground := Ground.data }], guard := none }) rfl (fun K hK => ?_) ?_
         ·go_simp
          refine hK.out _ _ ?_ (fun hHeld13 => ?_)
          · (try dsimp only); exact cell_low9 (by repeat (first | exact Below.refl _ _ | refine Below.drew ?_ | (refine Below.alloc ?_ (by simp; try omega) _))) cD
          clear hK K
          try simp only [Act.put, List.setIfInBounds_toArray]
          clear hHeld1
          refine wpAnyH_ready (rs := [3, 10]) (by kernel_rfl) (by simp) ?_
          refine AllReadyH.cons (o := { dst := some 34, op := Op.buildSlice 43 1 #[(0, Operand.tmp 33)], type := 43, pos := "law.go:148", after := #[{ on := 2, ground := Ground.data }], guard := none }) rfl (fun K hK => ?_) ?_
          ·go_simp
           refine hK.out _ _ ?_ (fun hHeld14 => ?_)
           · (try dsimp only); exact cell_low9 (by repeat (first | exact Below.refl _ _ | refine Below.drew ?_ | (refine Below.alloc ?_ (by simp; try omega) _))) cD
           clear hK K
           try simp only [Act.put, List.setIfInBounds_toArray]
           clear hHeld13
           refine wpAnyH_take (i := 4) (oi := { dst := some 35, op := Op.build 45 #[(2, Operand.tmp 34)], type := 45, pos := "law.go:148", after := #[{ on := 3, ground := Ground.data }], guard := none }) (v := ?_) rfl (by kernel_rfl) (by kernel_rfl) (by kernel_rfl) (fun _ _ _ h => h) (Or.inl ⟨by rfl, ?_⟩) (by assumption) ?_
           rotate_left
           · intro w hSw; (try dsimp only at hSw); first | (go_simp; done) | (go_simp; with_reducible rfl) | with_reducible rfl | rfl
           try simp only [Act.put, List.setIfInBounds_toArray]
           refine wpAnyH_ready (rs := [10]) (by kernel_rfl) (by simp) ?_
           refine AllReadyH.cons (o := { dst := some 41, op := Op.makeSlice 22 (Operand.tmp 40) (Operand.tmp 40), type := 22, pos := "law.go:148", after := #[{ on := 9, ground := Ground.data }, { on := 9, ground := Ground.data }], guard := none }) rfl (fun K hK => ?_) ?_
           ·go_simp
            refine hK.out _ _ ?_ (fun hHeld15 => ?_)
            · (try dsimp only); exact cell_low9 (by repeat (first | exact Below.refl _ _ | refine Below.drew ?_ | (refine Below.alloc ?_ (by simp; try omega) _))) cD
            clear hK K
            try simp only [Act.put, List.setIfInBounds_toArray]
            clear hHeld14
            refine wpAnyH_take (i := 12) (oi := { dst := some 43, op := Op.build 67 #[(0, Operand.tmp 35), (1, Operand.tmp 38), (2, Operand.tmp 41), (4, Operand.tmp 42)], type := 67, pos := "law.go:148", after := #[{ on := 4, ground := Ground.data }, { on := 7, ground := Ground.data }, { on := 10, ground := Ground.data }, { on := 11, ground := Ground.data }], guard := none }) (v := ?_) rfl (by kernel_rfl) (by kernel_rfl) (by kernel_rfl) (fun _ _ _ h => h) (Or.inl ⟨by rfl, ?_⟩) (by assumption) ?_
            rotate_left
            · intro w hSw; (try dsimp only at hSw); first | (go_simp; done) | (go_simp; with_reducible rfl) | with_reducible rfl | rfl
            try simp only [Act.put, List.setIfInBounds_toArray]
            refine wpAnyH_ready (rs := [13]) (by kernel_rfl) (by simp) ?_
            refine AllReadyH.cons (o := { dst := some 44, op := Op.buildSlice 26 1 #[(0, Operand.tmp 43)], type := 26, pos := "law.go:148", after := #[{ on := 12, ground := Ground.data }], guard := none }) rfl (fun K hK => ?_) ?_
            ·go_simp
             refine hK.out _ _ ?_ (fun hHeld16 => ?_)
             · (try dsimp only); exact cell_low9 (by repeat (first | exact Below.refl _ _ | refine Below.drew ?_ | (refine Below.alloc ?_ (by simp; try omega) _))) cD
             clear hK K
             try simp only [Act.put, List.setIfInBounds_toArray]
             clear hHeld15
             refine wpAnyH_ready (rs := [14]) (by kernel_rfl) (by simp) ?_
             refine AllReadyH.cons (o := { dst := some 45, op := Op.call { callee := Callee.builtin Builtin.append, args := #[Operand.tmp 32, Operand.tmp 44], argTypes := #[26, 26] }, type := 26, pos := "law.go:148", after := #[{ on := 1, ground := Ground.data }, { on := 13, ground := Ground.data }], guard := none }) rfl (fun K hK => ?_) ?_
             ·(have AL := hide (al4 W (.cells (Array.replicate dd (.int .i64 0)) 3) (.cells #[.int .i64 0, .int .i64 9] 61) (.cells (Array.replicate dd (.int .i64 0)) 3) (.cells #[.int .i64 0, .int .i64 0, .slice (some ⟨W.heap.size + 1, 0, none⟩) 1 1, .slice (some ⟨W.heap.size, 0, none⟩) dd dd, .slice (some ⟨W.heap.size + 1 + 1, 0, none⟩) dd dd, .int .u64 0, .int .i64 pr] 67)); refine step_append_lies _ (by rfl) (.tmp 32) (.tmp 44) 26 (by rfl) (w2.heap.size + 2) 67 i0 _ 7 104 Try.underlying26 HI0.out HZ0.out HZ1.out HZ2.out (by rfl) (by decide) (.slice (some ⟨g0, 0, none⟩) lj gc) lj R.flatten (by rfl) (own_later HR1.out (Nat.le_refl _) AL.out.2.2.2.2.1) ⟨W.heap.size + 1 + 1 + 1, 0, none⟩ 1 1 [.int .i64 0, .int .i64 0, .slice (some ⟨W.heap.size + 1, 0, none⟩) 1 1, .slice (some ⟨W.heap.size, 0, none⟩) dd dd, .slice (some ⟨W.heap.size + 1 + 1, 0, none⟩) dd dd, .int .u64 0, .int .i64 pr] (by rfl) (by rfl) (news_of AL.out.2.2.2.1) (by simp [Value.oneCell']) (by decide) HLEN.out HBYT.out (HBAS.out AL.out.2.2.2.2.1.size) (W.heap.size + 1 + 1 + 1 + 1) AL.out.2.2.2.2.2 ?_; intro g9 cap9 w9 hown9 hgrow9 hat9 hlt9; have z0 := (grown_cell9 (b := w.heap.size) (o := 0) hgrow9 (Nat.lt_of_lt_of_le hwl AL.out.2.2.2.2.1.size) HNG.out).trans (cell_low9 AL.out.2.2.2.2.1 cD); have z6 := (grown_cell9 (b := w3.heap.size) (o := 6) hgrow9 (Nat.lt_of_lt_of_le hwq AL.out.2.2.2.2.1.size) HNQ.out).trans (cell_low9 AL.out.2.2.2.2.1 cJ); have z7 := frozen9 (o := 6) hgrow9 HWE.out (Nat.lt_of_lt_of_le hwq AL.out.2.2.2.2.1.size) HNQ.out AL.out.2.2.2.2.1)
              refine hK.out _ _ ?_ (fun hHeld17 => ?_)
              · (try dsimp only); exact z0
              clear hK K
              try simp only [Act.put, List.setIfInBounds_toArray]
              clear hHeld16
              refine wpAnyH_take (i := 15) (v := ?_) rfl (by kernel_rfl) (by kernel_rfl) (by kernel_rfl) (fun _ _ _ h => h) (Or.inl ⟨by rfl, ?_⟩) (by assumption) ?_
              rotate_left
              · intro w hSw; (try dsimp only at hSw); first | (go_simp; done) | (go_simp; with_reducible rfl) | with_reducible rfl | rfl
              try simp only [Act.put]
              refine wpAnyH_ready (rs := [16]) (by kernel_rfl) (by simp) ?_
              refine AllReadyH.cons (o := { dst := none, op := Op.store 26 (Operand.tmp 46) (Operand.tmp 45), type := 0, pos := "law.go:148", after := #[{ on := 15, ground := Ground.data }, { on := 14, ground := Ground.data }, { on := 14, ground := Ground.chain }, { on := 0, ground := Ground.phase }, { on := 1, ground := Ground.phase }, { on := 2, ground := Ground.phase }, { on := 3, ground := Ground.phase }, { on := 4, ground := Ground.phase }, { on := 5, ground := Ground.phase }, { on := 6, ground := Ground.phase }, { on := 7, ground := Ground.phase }, { on := 8, ground := Ground.phase }, { on := 9, ground := Ground.phase }, { on := 10, ground := Ground.phase }, { on := 11, ground := Ground.phase }, { on := 12, ground := Ground.phase }, { on := 13, ground := Ground.phase }, { on := 14, ground := Ground.phase }], guard := none }) rfl (fun K hK => ?_) ?_
              ·go_simp
               refine hK.out _ _ ?_ (fun hHeld18 => ?_)
               · (try dsimp only); exact (cell_far9 m8).trans z0
               clear hK K
               try simp only [Act.put, List.setIfInBounds_toArray]
               clear hHeld17
               refine wpAnyH_done (by kernel_rfl) ?_ _
               clear hHeld18
               have HP9 := hide (more_leaf HFQ.out HLJ2.out HR2.out HR5.out HBW.out HBB.out HBC.out HW3.out hwq HWE.out AL.out.2.2.2.2.1 (by omega) (by omega) (by omega) AL.out.2.1 AL.out.1 AL.out.2.2.1 hown9 hgrow9 hat9 (by omega) hd3 hl12)
               go_wp2_with fail
               go_meet
               case rel => exact ⟨rfl, g9, cap9, HP9.out⟩
              exact AllReadyH.nil
             exact AllReadyH.nil
            exact AllReadyH.nil
           exact AllReadyH.nil
          refine AllReadyH.cons (o := { dst := some 41, op := Op.makeSlice 22 (Operand.tmp 40) (Operand.tmp 40), type := 22, pos := "law.go:148", after := #[{ on := 9, ground := Ground.data }, { on := 9, ground := Ground.data }], guard := none }) rfl (fun K hK => ?_) ?_
          ·go_simp
           refine hK.out _ _ ?_ (fun hHeld19 => ?_)
           · (try dsimp only); exact cell_low9 (by repeat (first | exact Below.refl _ _ | refine Below.drew ?_ | (refine Below.alloc ?_ (by simp; try omega) _))) cD
           clear hK K
           try simp only [Act.put, List.setIfInBounds_toArray]
           clear hHeld13
           refine wpAnyH_ready (rs := [3]) (by kernel_rfl) (by simp) ?_
           refine AllReadyH.cons (o := { dst := some 34, op := Op.buildSlice 43 1 #[(0, Operand.tmp 33)], type := 43, pos := "law.go:148", after := #[{ on := 2, ground := Ground.data }], guard := none }) rfl (fun K hK => ?_) ?_
           ·go_simp
            refine hK.out _ _ ?_ (fun hHeld20 => ?_)
            · (try dsimp only); exact cell_low9 (by repeat (first | exact Below.refl _ _ | refine Below.drew ?_ | (refine Below.alloc ?_ (by simp; try omega) _))) cD
            clear hK K
            try simp only [Act.put, List.setIfInBounds_toArray]
            clear hHeld19
            refine wpAnyH_take (i := 4) (oi := { dst := some 35, op := Op.build 45 #[(2, Operand.tmp 34)], type := 45, pos := "law.go:148", after := #[{ on := 3, ground := Ground.data }], guard := none }) (v := ?_) rfl (by kernel_rfl) (by kernel_rfl) (by kernel_rfl) (fun _ _ _ h => h) (Or.inl ⟨by rfl, ?_⟩) (by assumption) ?_
            rotate_left
            · intro w hSw; (try dsimp only at hSw); first | (go_simp; done) | (go_simp; with_reducible rfl) | with_reducible rfl | rfl
            try simp only [Act.put, List.setIfInBounds_toArray]
            refine wpAnyH_take (i := 12) (oi := { dst := some 43, op := Op.build 67 #[(0, Operand.tmp 35), (1, Operand.tmp 38), (2, Operand.tmp 41), (4, Operand.tmp 42)], type := 67, pos := "law.go:148", after := #[{ on := 4, ground := Ground.data }, { on := 7, ground := Ground.data }, { on := 10, ground := Ground.data }, { on := 11, ground := Ground.data }], guard := none }) (v := ?_) rfl (by kernel_rfl) (by kernel_rfl) (by kernel_rfl) (fun _ _ _ h => h) (Or.inl ⟨by rfl, ?_⟩) (by assumption) ?_
            rotate_left
            · intro w hSw; (try dsimp only at hSw); first | (go_simp; done) | (go_simp; with_reducible rfl) | with_reducible rfl | rfl
            try simp only [Act.put, List.setIfInBounds_toArray]
            refine wpAnyH_ready (rs := [13]) (by kernel_rfl) (by simp) ?_
            refine AllReadyH.cons (o := { dst := some 44, op := Op.buildSlice 26 1 #[(0, Operand.tmp 43)], type := 26, pos := "law.go:148", after := #[{ on := 12, ground := Ground.data }], guard := none }) rfl (fun K hK => ?_) ?_
            ·go_simp
             refine hK.out _ _ ?_ (fun hHeld21 => ?_)
             · (try dsimp only); exact cell_low9 (by repeat (first | exact Below.refl _ _ | refine Below.drew ?_ | (refine Below.alloc ?_ (by simp; try omega) _))) cD
             clear hK K
             try simp only [Act.put, List.setIfInBounds_toArray]
             clear hHeld20
             refine wpAnyH_ready (rs := [14]) (by kernel_rfl) (by simp) ?_
             refine AllReadyH.cons (o := { dst := some 45, op := Op.call { callee := Callee.builtin Builtin.append, args := #[Operand.tmp 32, Operand.tmp 44], argTypes := #[26, 26] }, type := 26, pos := "law.go:148", after := #[{ on := 1, ground := Ground.data }, { on := 13, ground := Ground.data }], guard := none }) rfl (fun K hK => ?_) ?_
             ·(have AL := hide (al4 W (.cells (Array.replicate dd (.int .i64 0)) 3) (.cells (Array.replicate dd (.int .i64 0)) 3) (.cells #[.int .i64 0, .int .i64 9] 61) (.cells #[.int .i64 0, .int .i64 0, .slice (some ⟨W.heap.size + 1 + 1, 0, none⟩) 1 1, .slice (some ⟨W.heap.size, 0, none⟩) dd dd, .slice (some ⟨W.heap.size + 1, 0, none⟩) dd dd, .int .u64 0, .int .i64 pr] 67)); refine step_append_lies _ (by rfl) (.tmp 32) (.tmp 44) 26 (by rfl) (w2.heap.size + 2) 67 i0 _ 7 104 Try.underlying26 HI0.out HZ0.out HZ1.out HZ2.out (by rfl) (by decide) (.slice (some ⟨g0, 0, none⟩) lj gc) lj R.flatten (by rfl) (own_later HR1.out (Nat.le_refl _) AL.out.2.2.2.2.1) ⟨W.heap.size + 1 + 1 + 1, 0, none⟩ 1 1 [.int .i64 0, .int .i64 0, .slice (some ⟨W.heap.size + 1 + 1, 0, none⟩) 1 1, .slice (some ⟨W.heap.size, 0, none⟩) dd dd, .slice (some ⟨W.heap.size + 1, 0, none⟩) dd dd, .int .u64 0, .int .i64 pr] (by rfl) (by rfl) (news_of AL.out.2.2.2.1) (by simp [Value.oneCell']) (by decide) HLEN.out HBYT.out (HBAS.out AL.out.2.2.2.2.1.size) (W.heap.size + 1 + 1 + 1 + 1) AL.out.2.2.2.2.2 ?_; intro g9 cap9 w9 hown9 hgrow9 hat9 hlt9; have z0 := (grown_cell9 (b := w.heap.size) (o := 0) hgrow9 (Nat.lt_of_lt_of_le hwl AL.out.2.2.2.2.1.size) HNG.out).trans (cell_low9 AL.out.2.2.2.2.1 cD); have z6 := (grown_cell9 (b := w3.heap.size) (o := 6) hgrow9 (Nat.lt_of_lt_of_le hwq AL.out.2.2.2.2.1.size) HNQ.out).trans (cell_low9 AL.out.2.2.2.2.1 cJ); have z7 := frozen9 (o := 6) hgrow9 HWE.out (Nat.lt_of_lt_of_le hwq AL.out.2.2.2.2.1.size) HNQ.out AL.out.2.2.2.2.1)
              refine hK.out _ _ ?_ (fun hHeld22 => ?_)
              · (try dsimp only); exact z0
              clear hK K
              try simp only [Act.put, List.setIfInBounds_toArray]
              clear hHeld21
              refine wpAnyH_take (i := 15) (v := ?_) rfl (by kernel_rfl) (by kernel_rfl) (by kernel_rfl) (fun _ _ _ h => h) (Or.inl ⟨by rfl, ?_⟩) (by assumption) ?_
              rotate_left
              · intro w hSw; (try dsimp only at hSw); first | (go_simp; done) | (go_simp; with_reducible rfl) | with_reducible rfl | rfl
              try simp only [Act.put]
              refine wpAnyH_ready (rs := [16]) (by kernel_rfl) (by simp) ?_
              refine AllReadyH.cons (o := { dst := none, op := Op.store 26 (Operand.tmp 46) (Operand.tmp 45), type := 0, pos := "law.go:148", after := #[{ on := 15, ground := Ground.data }, { on := 14, ground := Ground.data }, { on := 14, ground := Ground.chain }, { on := 0, ground := Ground.phase }, { on := 1, ground := Ground.phase }, { on := 2, ground := Ground.phase }, { on := 3, ground := Ground.phase }, { on := 4, ground := Ground.phase }, { on := 5, ground := Ground.phase }, { on := 6, ground := Ground.phase }, { on := 7, ground := Ground.phase }, { on := 8, ground := Ground.phase }, { on := 9, ground := Ground.phase }, { on := 10, ground := Ground.phase }, { on := 11, ground := Ground.phase }, { on := 12, ground := Ground.phase }, { on := 13, ground := Ground.phase }, { on := 14, ground := Ground.phase }], guard := none }) rfl (fun K hK => ?_) ?_
              ·go_simp
               refine hK.out _ _ ?_ (fun hHeld23 => ?_)
               · (try dsimp only); exact (cell_far9 m8).trans z0
               clear hK K
               try simp only [Act.put, List.setIfInBounds_toArray]
               clear hHeld22
               refine wpAnyH_done (by kernel_rfl) ?_ _
               clear hHeld23
               have HP9 := hide (more_leaf HFQ.out HLJ2.out HR2.out HR5.out HBW.out HBB.out HBC.out HW3.out hwq HWE.out AL.out.2.2.2.2.1 (by omega) (by omega) (by omega) AL.out.2.2.1 AL.out.1 AL.out.2.1 hown9 hgrow9 hat9 (by omega) hd3 hl12)
               go_wp2_with fail
               go_meet
               case rel => exact ⟨rfl, g9, cap9, HP9.out⟩
              exact AllReadyH.nil
             exact AllReadyH.nil
            exact AllReadyH.nil
           exact AllReadyH.nil
          exact AllReadyH.nil
         refine AllReadyH.cons (o := { dst := some 41, op := Op.makeSlice 22 (Operand.tmp 40) (Operand.tmp 40), type := 22, pos := "law.go:148", after := #[{ on := 9, ground := Ground.data }, { on := 9, ground := Ground.data }], guard := none }) rfl (fun K hK => ?_) ?_
         ·go_simp
          refine hK.out _ _ ?_ (fun hHeld24 => ?_)
          · (try dsimp only); exact cell_low9 (by repeat (first | exact Below.refl _ _ | refine Below.drew ?_ | (refine Below.alloc ?_ (by simp; try omega) _))) cD
          clear hK K
          try simp only [Act.put, List.setIfInBounds_toArray]
          clear hHeld1
          refine wpAnyH_ready (rs := [3, 7]) (by kernel_rfl) (by simp) ?_
          refine AllReadyH.cons (o := { dst := some 34, op := Op.buildSlice 43 1 #[(0, Operand.tmp 33)], type := 43, pos := "law.go:148", after := #[{ on := 2, ground := Ground.data }], guard := none }) rfl (fun K hK => ?_) ?_
          ·go_simp
           refine hK.out _ _ ?_ (fun hHeld25 => ?_)
           · (try dsimp only); exact cell_low9 (by repeat (first | exact Below.refl _ _ | refine Below.drew ?_ | (refine Below.alloc ?_ (by simp; try omega) _))) cD
           clear hK K
           try simp only [Act.put, List.setIfInBounds_toArray]
           clear hHeld24
           refine wpAnyH_take (i := 4) (oi := { dst := some 35, op := Op.build 45 #[(2, Operand.tmp 34)], type := 45, pos := "law.go:148", after := #[{ on := 3, ground := Ground.data }], guard := none }) (v := ?_) rfl (by kernel_rfl) (by kernel_rfl) (by kernel_rfl) (fun _ _ _ h => h) (Or.inl ⟨by rfl, ?_⟩) (by assumption) ?_
           rotate_left
           · intro w hSw; (try dsimp only at hSw); first | (go_simp; done) | (go_simp; with_reducible rfl) | with_reducible rfl | rfl
           try simp only [Act.put, List.setIfInBounds_toArray]
           refine wpAnyH_ready (rs := [7]) (by kernel_rfl) (by simp) ?_
           refine AllReadyH.cons (o := { dst := some 38, op := Op.makeSlice 22 (Operand.tmp 37) (Operand.tmp 37), type := 22, pos := "law.go:148", after := #[{ on := 6, ground := Ground.data }, { on := 6, ground := Ground.data }], guard := none }) rfl (fun K hK => ?_) ?_
           ·go_simp
            refine hK.out _ _ ?_ (fun hHeld26 => ?_)
            · (try dsimp only); exact cell_low9 (by repeat (first | exact Below.refl _ _ | refine Below.drew ?_ | (refine Below.alloc ?_ (by simp; try omega) _))) cD
            clear hK K
            try simp only [Act.put, List.setIfInBounds_toArray]
            clear hHeld25
            refine wpAnyH_take (i := 12) (oi := { dst := some 43, op := Op.build 67 #[(0, Operand.tmp 35), (1, Operand.tmp 38), (2, Operand.tmp 41), (4, Operand.tmp 42)], type := 67, pos := "law.go:148", after := #[{ on := 4, ground := Ground.data }, { on := 7, ground := Ground.data }, { on := 10, ground := Ground.data }, { on := 11, ground := Ground.data }], guard := none }) (v := ?_) rfl (by kernel_rfl) (by kernel_rfl) (by kernel_rfl) (fun _ _ _ h => h) (Or.inl ⟨by rfl, ?_⟩) (by assumption) ?_
            rotate_left
            · intro w hSw; (try dsimp only at hSw); first | (go_simp; done) | (go_simp; with_reducible rfl) | with_reducible rfl | rfl
            try simp only [Act.put, List.setIfInBounds_toArray]
            refine wpAnyH_ready (rs := [13]) (by kernel_rfl) (by simp) ?_
            refine AllReadyH.cons (o := { dst := some 44, op := Op.buildSlice 26 1 #[(0, Operand.tmp 43)], type := 26, pos := "law.go:148", after := #[{ on := 12, ground := Ground.data }], guard := none }) rfl (fun K hK => ?_) ?_
            ·go_simp
             refine hK.out _ _ ?_ (fun hHeld27 => ?_)
             · (try dsimp only); exact cell_low9 (by repeat (first | exact Below.refl _ _ | refine Below.drew ?_ | (refine Below.alloc ?_ (by simp; try omega) _))) cD
             clear hK K
             try simp only [Act.put, List.setIfInBounds_toArray]
             clear hHeld26
             refine wpAnyH_ready (rs := [14]) (by kernel_rfl) (by simp) ?_
             refine AllReadyH.cons (o := { dst := some 45, op := Op.call { callee := Callee.builtin Builtin.append, args := #[Operand.tmp 32, Operand.tmp 44], argTypes := #[26, 26] }, type := 26, pos := "law.go:148", after := #[{ on := 1, ground := Ground.data }, { on := 13, ground := Ground.data }], guard := none }) rfl (fun K hK => ?_) ?_
             ·(have AL := hide (al4 W (.cells (Array.replicate dd (.int .i64 0)) 3) (.cells #[.int .i64 0, .int .i64 9] 61) (.cells (Array.replicate dd (.int .i64 0)) 3) (.cells #[.int .i64 0, .int .i64 0, .slice (some ⟨W.heap.size + 1, 0, none⟩) 1 1, .slice (some ⟨W.heap.size + 1 + 1, 0, none⟩) dd dd, .slice (some ⟨W.heap.size, 0, none⟩) dd dd, .int .u64 0, .int .i64 pr] 67)); refine step_append_lies _ (by rfl) (.tmp 32) (.tmp 44) 26 (by rfl) (w2.heap.size + 2) 67 i0 _ 7 104 Try.underlying26 HI0.out HZ0.out HZ1.out HZ2.out (by rfl) (by decide) (.slice (some ⟨g0, 0, none⟩) lj gc) lj R.flatten (by rfl) (own_later HR1.out (Nat.le_refl _) AL.out.2.2.2.2.1) ⟨W.heap.size + 1 + 1 + 1, 0, none⟩ 1 1 [.int .i64 0, .int .i64 0, .slice (some ⟨W.heap.size + 1, 0, none⟩) 1 1, .slice (some ⟨W.heap.size + 1 + 1, 0, none⟩) dd dd, .slice (some ⟨W.heap.size, 0, none⟩) dd dd, .int .u64 0, .int .i64 pr] (by rfl) (by rfl) (news_of AL.out.2.2.2.1) (by simp [Value.oneCell']) (by decide) HLEN.out HBYT.out (HBAS.out AL.out.2.2.2.2.1.size) (W.heap.size + 1 + 1 + 1 + 1) AL.out.2.2.2.2.2 ?_; intro g9 cap9 w9 hown9 hgrow9 hat9 hlt9; have z0 := (grown_cell9 (b := w.heap.size) (o := 0) hgrow9 (Nat.lt_of_lt_of_le hwl AL.out.2.2.2.2.1.size) HNG.out).trans (cell_low9 AL.out.2.2.2.2.1 cD); have z6 := (grown_cell9 (b := w3.heap.size) (o := 6) hgrow9 (Nat.lt_of_lt_of_le hwq AL.out.2.2.2.2.1.size) HNQ.out).trans (cell_low9 AL.out.2.2.2.2.1 cJ); have z7 := frozen9 (o := 6) hgrow9 HWE.out (Nat.lt_of_lt_of_le hwq AL.out.2.2.2.2.1.size) HNQ.out AL.out.2.2.2.2.1)
              refine hK.out _ _ ?_ (fun hHeld28 => ?_)
              · (try dsimp only); exact z0
              clear hK K
              try simp only [Act.put, List.setIfInBounds_toArray]
              clear hHeld27
              refine wpAnyH_take (i := 15) (v := ?_) rfl (by kernel_rfl) (by kernel_rfl) (by kernel_rfl) (fun _ _ _ h => h) (Or.inl ⟨by rfl, ?_⟩) (by assumption) ?_
              rotate_left
              · intro w hSw; (try dsimp only at hSw); first | (go_simp; done) | (go_simp; with_reducible rfl) | with_reducible rfl | rfl
              try simp only [Act.put]
              refine wpAnyH_ready (rs := [16]) (by kernel_rfl) (by simp) ?_
              refine AllReadyH.cons (o := { dst := none, op := Op.store 26 (Operand.tmp 46) (Operand.tmp 45), type := 0, pos := "law.go:148", after := #[{ on := 15, ground := Ground.data }, { on := 14, ground := Ground.data }, { on := 14, ground := Ground.chain }, { on := 0, ground := Ground.phase }, { on := 1, ground := Ground.phase }, { on := 2, ground := Ground.phase }, { on := 3, ground := Ground.phase }, { on := 4, ground := Ground.phase }, { on := 5, ground := Ground.phase }, { on := 6, ground := Ground.phase }, { on := 7, ground := Ground.phase }, { on := 8, ground := Ground.phase }, { on := 9, ground := Ground.phase }, { on := 10, ground := Ground.phase }, { on := 11, ground := Ground.phase }, { on := 12, ground := Ground.phase }, { on := 13, ground := Ground.phase }, { on := 14, ground := Ground.phase }], guard := none }) rfl (fun K hK => ?_) ?_
              ·go_simp
               refine hK.out _ _ ?_ (fun hHeld29 => ?_)
               · (try dsimp only); exact (cell_far9 m8).trans z0
               clear hK K
               try simp only [Act.put, List.setIfInBounds_toArray]
               clear hHeld28
               refine wpAnyH_done (by kernel_rfl) ?_ _
               clear hHeld29
               have HP9 := hide (more_leaf HFQ.out HLJ2.out HR2.out HR5.out HBW.out HBB.out HBC.out HW3.out hwq HWE.out AL.out.2.2.2.2.1 (by omega) (by omega) (by omega) AL.out.2.1 AL.out.2.2.1 AL.out.1 hown9 hgrow9 hat9 (by omega) hd3 hl12)
               go_wp2_with fail
               go_meet
               case rel => exact ⟨rfl, g9, cap9, HP9.out⟩
              exact AllReadyH.nil
             exact AllReadyH.nil
            exact AllReadyH.nil
           exact AllReadyH.nil
          refine AllReadyH.cons (o := { dst := some 38, op := Op.makeSlice 22 (Operand.tmp 37) (Operand.tmp 37), type := 22, pos := "law.go:148", after := #[{ on := 6, ground := Ground.data }, { on := 6, ground := Ground.data }], guard := none }) rfl (fun K hK => ?_) ?_
          ·go_simp
           refine hK.out _ _ ?_ (fun hHeld30 => ?_)
           · (try dsimp only); exact cell_low9 (by repeat (first | exact Below.refl _ _ | refine Below.drew ?_ | (refine Below.alloc ?_ (by simp; try omega) _))) cD
           clear hK K
           try simp only [Act.put, List.setIfInBounds_toArray]
           clear hHeld24
           refine wpAnyH_ready (rs := [3]) (by kernel_rfl) (by simp) ?_
           refine AllReadyH.cons (o := { dst := some 34, op := Op.buildSlice 43 1 #[(0, Operand.tmp 33)], type := 43, pos := "law.go:148", after := #[{ on := 2, ground := Ground.data }], guard := none }) rfl (fun K hK => ?_) ?_
           ·go_simp
            refine hK.out _ _ ?_ (fun hHeld31 => ?_)
            · (try dsimp only); exact cell_low9 (by repeat (first | exact Below.refl _ _ | refine Below.drew ?_ | (refine Below.alloc ?_ (by simp; try omega) _))) cD
            clear hK K
            try simp only [Act.put, List.setIfInBounds_toArray]
            clear hHeld30
            refine wpAnyH_take (i := 4) (oi := { dst := some 35, op := Op.build 45 #[(2, Operand.tmp 34)], type := 45, pos := "law.go:148", after := #[{ on := 3, ground := Ground.data }], guard := none }) (v := ?_) rfl (by kernel_rfl) (by kernel_rfl) (by kernel_rfl) (fun _ _ _ h => h) (Or.inl ⟨by rfl, ?_⟩) (by assumption) ?_
            rotate_left
            · intro w hSw; (try dsimp only at hSw); first | (go_simp; done) | (go_simp; with_reducible rfl) | with_reducible rfl | rfl
            try simp only [Act.put, List.setIfInBounds_toArray]
            refine wpAnyH_take (i := 12) (oi := { dst := some 43, op := Op.build 67 #[(0, Operand.tmp 35), (1, Operand.tmp 38), (2, Operand.tmp 41), (4, Operand.tmp 42)], type := 67, pos := "law.go:148", after := #[{ on := 4, ground := Ground.data }, { on := 7, ground := Ground.data }, { on := 10, ground := Ground.data }, { on := 11, ground := Ground.data }], guard := none }) (v := ?_) rfl (by kernel_rfl) (by kernel_rfl) (by kernel_rfl) (fun _ _ _ h => h) (Or.inl ⟨by rfl, ?_⟩) (by assumption) ?_
            rotate_left
            · intro w hSw; (try dsimp only at hSw); first | (go_simp; done) | (go_simp; with_reducible rfl) | with_reducible rfl | rfl
            try simp only [Act.put, List.setIfInBounds_toArray]
            refine wpAnyH_ready (rs := [13]) (by kernel_rfl) (by simp) ?_
            refine AllReadyH.cons (o := { dst := some 44, op := Op.buildSlice 26 1 #[(0, Operand.tmp 43)], type := 26, pos := "law.go:148", after := #[{ on := 12, ground := Ground.data }], guard := none }) rfl (fun K hK => ?_) ?_
            ·go_simp
             refine hK.out _ _ ?_ (fun hHeld32 => ?_)
             · (try dsimp only); exact cell_low9 (by repeat (first | exact Below.refl _ _ | refine Below.drew ?_ | (refine Below.alloc ?_ (by simp; try omega) _))) cD
             clear hK K
             try simp only [Act.put, List.setIfInBounds_toArray]
             clear hHeld31
             refine wpAnyH_ready (rs := [14]) (by kernel_rfl) (by simp) ?_
             refine AllReadyH.cons (o := { dst := some 45, op := Op.call { callee := Callee.builtin Builtin.append, args := #[Operand.tmp 32, Operand.tmp 44], argTypes := #[26, 26] }, type := 26, pos := "law.go:148", after := #[{ on := 1, ground := Ground.data }, { on := 13, ground := Ground.data }], guard := none }) rfl (fun K hK => ?_) ?_
             ·(have AL := hide (al4 W (.cells (Array.replicate dd (.int .i64 0)) 3) (.cells (Array.replicate dd (.int .i64 0)) 3) (.cells #[.int .i64 0, .int .i64 9] 61) (.cells #[.int .i64 0, .int .i64 0, .slice (some ⟨W.heap.size + 1 + 1, 0, none⟩) 1 1, .slice (some ⟨W.heap.size + 1, 0, none⟩) dd dd, .slice (some ⟨W.heap.size, 0, none⟩) dd dd, .int .u64 0, .int .i64 pr] 67)); refine step_append_lies _ (by rfl) (.tmp 32) (.tmp 44) 26 (by rfl) (w2.heap.size + 2) 67 i0 _ 7 104 Try.underlying26 HI0.out HZ0.out HZ1.out HZ2.out (by rfl) (by decide) (.slice (some ⟨g0, 0, none⟩) lj gc) lj R.flatten (by rfl) (own_later HR1.out (Nat.le_refl _) AL.out.2.2.2.2.1) ⟨W.heap.size + 1 + 1 + 1, 0, none⟩ 1 1 [.int .i64 0, .int .i64 0, .slice (some ⟨W.heap.size + 1 + 1, 0, none⟩) 1 1, .slice (some ⟨W.heap.size + 1, 0, none⟩) dd dd, .slice (some ⟨W.heap.size, 0, none⟩) dd dd, .int .u64 0, .int .i64 pr] (by rfl) (by rfl) (news_of AL.out.2.2.2.1) (by simp [Value.oneCell']) (by decide) HLEN.out HBYT.out (HBAS.out AL.out.2.2.2.2.1.size) (W.heap.size + 1 + 1 + 1 + 1) AL.out.2.2.2.2.2 ?_; intro g9 cap9 w9 hown9 hgrow9 hat9 hlt9; have z0 := (grown_cell9 (b := w.heap.size) (o := 0) hgrow9 (Nat.lt_of_lt_of_le hwl AL.out.2.2.2.2.1.size) HNG.out).trans (cell_low9 AL.out.2.2.2.2.1 cD); have z6 := (grown_cell9 (b := w3.heap.size) (o := 6) hgrow9 (Nat.lt_of_lt_of_le hwq AL.out.2.2.2.2.1.size) HNQ.out).trans (cell_low9 AL.out.2.2.2.2.1 cJ); have z7 := frozen9 (o := 6) hgrow9 HWE.out (Nat.lt_of_lt_of_le hwq AL.out.2.2.2.2.1.size) HNQ.out AL.out.2.2.2.2.1)
              refine hK.out _ _ ?_ (fun hHeld33 => ?_)
              · (try dsimp only); exact z0
              clear hK K
              try simp only [Act.put, List.setIfInBounds_toArray]
              clear hHeld32
              refine wpAnyH_take (i := 15) (v := ?_) rfl (by kernel_rfl) (by kernel_rfl) (by kernel_rfl) (fun _ _ _ h => h) (Or.inl ⟨by rfl, ?_⟩) (by assumption) ?_
              rotate_left
              · intro w hSw; (try dsimp only at hSw); first | (go_simp; done) | (go_simp; with_reducible rfl) | with_reducible rfl | rfl
              try simp only [Act.put]
              refine wpAnyH_ready (rs := [16]) (by kernel_rfl) (by simp) ?_
              refine AllReadyH.cons (o := { dst := none, op := Op.store 26 (Operand.tmp 46) (Operand.tmp 45), type := 0, pos := "law.go:148", after := #[{ on := 15, ground := Ground.data }, { on := 14, ground := Ground.data }, { on := 14, ground := Ground.chain }, { on := 0, ground := Ground.phase }, { on := 1, ground := Ground.phase }, { on := 2, ground := Ground.phase }, { on := 3, ground := Ground.phase }, { on := 4, ground := Ground.phase }, { on := 5, ground := Ground.phase }, { on := 6, ground := Ground.phase }, { on := 7, ground := Ground.phase }, { on := 8, ground := Ground.phase }, { on := 9, ground := Ground.phase }, { on := 10, ground := Ground.phase }, { on := 11, ground := Ground.phase }, { on := 12, ground := Ground.phase }, { on := 13, ground := Ground.phase }, { on := 14, ground := Ground.phase }], guard := none }) rfl (fun K hK => ?_) ?_
              ·go_simp
               refine hK.out _ _ ?_ (fun hHeld34 => ?_)
               · (try dsimp only); exact (cell_far9 m8).trans z0
               clear hK K
               try simp only [Act.put, List.setIfInBounds_toArray]
               clear hHeld33
               refine wpAnyH_done (by kernel_rfl) ?_ _
               clear hHeld34
               have HP9 := hide (more_leaf HFQ.out HLJ2.out HR2.out HR5.out HBW.out HBB.out HBC.out HW3.out hwq HWE.out AL.out.2.2.2.2.1 (by omega) (by omega) (by omega) AL.out.2.2.1 AL.out.2.1 AL.out.1 hown9 hgrow9 hat9 (by omega) hd3 hl12)
               go_wp2_with fail
               go_meet
               case rel => exact ⟨rfl, g9, cap9, HP9.out⟩
              exact AllReadyH.nil
             exact AllReadyH.nil
            exact AllReadyH.nil
           exact AllReadyH.nil
          exact AllReadyH.nil
         exact AllReadyH.nil
        refine AllReadyH.cons (o := { dst := some 34, op := Op.buildSlice 43 1 #[(0, Operand.tmp 33)], type := 43, pos := "law.go:148", after := #[{ on := 2, ground := Ground.data }], guard := none }) rfl (fun K hK => ?_) ?_
        ·go_simp
         refine hK.out _ _ ?_ (fun hHeld35 => ?_)
         · (try dsimp only); exact cell_low9 (by repeat (first | exact Below.refl _ _ | refine Below.drew ?_ | (refine Below.alloc ?_ (by simp; try omega) _))) cD
         clear hK K
         try simp only [Act.put, List.setIfInBounds_toArray]
         clear hHeld0
         refine wpAnyH_take (i := 4) (oi := { dst := some 35, op := Op.build 45 #[(2, Operand.tmp 34)], type := 45, pos := "law.go:148", after := #[{ on := 3, ground := Ground.data }], guard := none }) (v := ?_) rfl (by kernel_rfl) (by kernel_rfl) (by kernel_rfl) (fun _ _ _ h => h) (Or.inl ⟨by rfl, ?_⟩) (by assumption) ?_
         rotate_left
         · intro w hSw; (try dsimp only at hSw); first | (go_simp; done) | (go_simp; with_reducible rfl) | with_reducible rfl | rfl
         try simp only [Act.put, List.setIfInBounds_toArray]
         refine wpAnyH_ready (rs := [1, 7, 10]) (by kernel_rfl) (by simp) ?_
         refine AllReadyH.cons (o := { dst := some 32, op := Op.load 26 (Operand.tmp 31), type := 26, pos := "law.go:148", after := #[{ on := 0, ground := Ground.data }], guard := none }) rfl (fun K hK => ?_) ?_
         ·go_simp
          refine hK.out _ _ ?_ (fun hHeld36 => ?_)
          · (try dsimp only); exact cell_low9 (by repeat (first | exact Below.refl _ _ | refine Below.drew ?_ | (refine Below.alloc ?_ (by simp; try omega) _))) cD
          clear hK K
          try simp only [Act.put, List.setIfInBounds_toArray]
          clear hHeld35
          refine wpAnyH_ready (rs := [7, 10]) (by kernel_rfl) (by simp) ?_
          refine AllReadyH.cons (o := { dst := some 38, op := Op.makeSlice 22 (Operand.tmp 37) (Operand.tmp 37), type := 22, pos := "law.go:148", after := #[{ on := 6, ground := Ground.data }, { on := 6, ground := Ground.data }], guard := none }) rfl (fun K hK => ?_) ?_
          ·go_simp
           refine hK.out _ _ ?_ (fun hHeld37 => ?_)
           · (try dsimp only); exact cell_low9 (by repeat (first | exact Below.refl _ _ | refine Below.drew ?_ | (refine Below.alloc ?_ (by simp; try omega) _))) cD
           clear hK K
           try simp only [Act.put, List.setIfInBounds_toArray]
           clear hHeld36
           refine wpAnyH_ready (rs := [10]) (by kernel_rfl) (by simp) ?_
           refine AllReadyH.cons (o := { dst := some 41, op := Op.makeSlice 22 (Operand.tmp 40) (Operand.tmp 40), type := 22, pos := "law.go:148", after := #[{ on := 9, ground := Ground.data }, { on := 9, ground := Ground.data }], guard := none }) rfl (fun K hK => ?_) ?_
           ·go_simp
            refine hK.out _ _ ?_ (fun hHeld38 => ?_)
            · (try dsimp only); exact cell_low9 (by repeat (first | exact Below.refl _ _ | refine Below.drew ?_ | (refine Below.alloc ?_ (by simp; try omega) _))) cD
            clear hK K
            try simp only [Act.put, List.setIfInBounds_toArray]
            clear hHeld37
            refine wpAnyH_take (i := 12) (oi := { dst := some 43, op := Op.build 67 #[(0, Operand.tmp 35), (1, Operand.tmp 38), (2, Operand.tmp 41), (4, Operand.tmp 42)], type := 67, pos := "law.go:148", after := #[{ on := 4, ground := Ground.data }, { on := 7, ground := Ground.data }, { on := 10, ground := Ground.data }, { on := 11, ground := Ground.data }], guard := none }) (v := ?_) rfl (by kernel_rfl) (by kernel_rfl) (by kernel_rfl) (fun _ _ _ h => h) (Or.inl ⟨by rfl, ?_⟩) (by assumption) ?_
            rotate_left
            · intro w hSw; (try dsimp only at hSw); first | (go_simp; done) | (go_simp; with_reducible rfl) | with_reducible rfl | rfl
            try simp only [Act.put, List.setIfInBounds_toArray]
            refine wpAnyH_ready (rs := [13]) (by kernel_rfl) (by simp) ?_
            refine AllReadyH.cons (o := { dst := some 44, op := Op.buildSlice 26 1 #[(0, Operand.tmp 43)], type := 26, pos := "law.go:148", after := #[{ on := 12, ground := Ground.data }], guard := none }) rfl (fun K hK => ?_) ?_
            ·go_simp
             refine hK.out _ _ ?_ (fun hHeld39 => ?_)
             · (try dsimp only); exact cell_low9 (by repeat (first | exact Below.refl _ _ | refine Below.drew ?_ | (refine Below.alloc ?_ (by simp; try omega) _))) cD
             clear hK K
             try simp only [Act.put, List.setIfInBounds_toArray]
             clear hHeld38
             refine wpAnyH_ready (rs := [14]) (by kernel_rfl) (by simp) ?_
             refine AllReadyH.cons (o := { dst := some 45, op := Op.call { callee := Callee.builtin Builtin.append, args := #[Operand.tmp 32, Operand.tmp 44], argTypes := #[26, 26] }, type := 26, pos := "law.go:148", after := #[{ on := 1, ground := Ground.data }, { on := 13, ground := Ground.data }], guard := none }) rfl (fun K hK => ?_) ?_
             ·(have AL := hide (al4 W (.cells #[.int .i64 0, .int .i64 9] 61) (.cells (Array.replicate dd (.int .i64 0)) 3) (.cells (Array.replicate dd (.int .i64 0)) 3) (.cells #[.int .i64 0, .int .i64 0, .slice (some ⟨W.heap.size, 0, none⟩) 1 1, .slice (some ⟨W.heap.size + 1, 0, none⟩) dd dd, .slice (some ⟨W.heap.size + 1 + 1, 0, none⟩) dd dd, .int .u64 0, .int .i64 pr] 67)); refine step_append_lies _ (by rfl) (.tmp 32) (.tmp 44) 26 (by rfl) (w2.heap.size + 2) 67 i0 _ 7 104 Try.underlying26 HI0.out HZ0.out HZ1.out HZ2.out (by rfl) (by decide) (.slice (some ⟨g0, 0, none⟩) lj gc) lj R.flatten (by rfl) (own_later HR1.out (Nat.le_refl _) AL.out.2.2.2.2.1) ⟨W.heap.size + 1 + 1 + 1, 0, none⟩ 1 1 [.int .i64 0, .int .i64 0, .slice (some ⟨W.heap.size, 0, none⟩) 1 1, .slice (some ⟨W.heap.size + 1, 0, none⟩) dd dd, .slice (some ⟨W.heap.size + 1 + 1, 0, none⟩) dd dd, .int .u64 0, .int .i64 pr] (by rfl) (by rfl) (news_of AL.out.2.2.2.1) (by simp [Value.oneCell']) (by decide) HLEN.out HBYT.out (HBAS.out AL.out.2.2.2.2.1.size) (W.heap.size + 1 + 1 + 1 + 1) AL.out.2.2.2.2.2 ?_; intro g9 cap9 w9 hown9 hgrow9 hat9 hlt9; have z0 := (grown_cell9 (b := w.heap.size) (o := 0) hgrow9 (Nat.lt_of_lt_of_le hwl AL.out.2.2.2.2.1.size) HNG.out).trans (cell_low9 AL.out.2.2.2.2.1 cD); have z6 := (grown_cell9 (b := w3.heap.size) (o := 6) hgrow9 (Nat.lt_of_lt_of_le hwq AL.out.2.2.2.2.1.size) HNQ.out).trans (cell_low9 AL.out.2.2.2.2.1 cJ); have z7 := frozen9 (o := 6) hgrow9 HWE.out (Nat.lt_of_lt_of_le hwq AL.out.2.2.2.2.1.size) HNQ.out AL.out.2.2.2.2.1)
              refine hK.out _ _ ?_ (fun hHeld40 => ?_)
              · (try dsimp only); exact z0
              clear hK K
              try simp only [Act.put, List.setIfInBounds_toArray]
              clear hHeld39
              refine wpAnyH_take (i := 15) (v := ?_) rfl (by kernel_rfl) (by kernel_rfl) (by kernel_rfl) (fun _ _ _ h => h) (Or.inl ⟨by rfl, ?_⟩) (by assumption) ?_
              rotate_left
              · intro w hSw; (try dsimp only at hSw); first | (go_simp; done) | (go_simp; with_reducible rfl) | with_reducible rfl | rfl
              try simp only [Act.put]
              refine wpAnyH_ready (rs := [16]) (by kernel_rfl) (by simp) ?_
              refine AllReadyH.cons (o := { dst := none, op := Op.store 26 (Operand.tmp 46) (Operand.tmp 45), type := 0, pos := "law.go:148", after := #[{ on := 15, ground := Ground.data }, { on := 14, ground := Ground.data }, { on := 14, ground := Ground.chain }, { on := 0, ground := Ground.phase }, { on := 1, ground := Ground.phase }, { on := 2, ground := Ground.phase }, { on := 3, ground := Ground.phase }, { on := 4, ground := Ground.phase }, { on := 5, ground := Ground.phase }, { on := 6, ground := Ground.phase }, { on := 7, ground := Ground.phase }, { on := 8, ground := Ground.phase }, { on := 9, ground := Ground.phase }, { on := 10, ground := Ground.phase }, { on := 11, ground := Ground.phase }, { on := 12, ground := Ground.phase }, { on := 13, ground := Ground.phase }, { on := 14, ground := Ground.phase }], guard := none }) rfl (fun K hK => ?_) ?_
              ·go_simp
               refine hK.out _ _ ?_ (fun hHeld41 => ?_)
               · (try dsimp only); exact (cell_far9 m8).trans z0
               clear hK K
               try simp only [Act.put, List.setIfInBounds_toArray]
               clear hHeld40
               refine wpAnyH_done (by kernel_rfl) ?_ _
               clear hHeld41
               have HP9 := hide (more_leaf HFQ.out HLJ2.out HR2.out HR5.out HBW.out HBB.out HBC.out HW3.out hwq HWE.out AL.out.2.2.2.2.1 (by omega) (by omega) (by omega) AL.out.1 AL.out.2.1 AL.out.2.2.1 hown9 hgrow9 hat9 (by omega) hd3 hl12)
               go_wp2_with fail
               go_meet
               case rel => exact ⟨rfl, g9, cap9, HP9.out⟩
              exact AllReadyH.nil
             exact AllReadyH.nil
            exact AllReadyH.nil
           exact AllReadyH.nil
          refine AllReadyH.cons (o := { dst := some 41, op := Op.makeSlice 22 (Operand.tmp 40) (Operand.tmp 40), type := 22, pos := "law.go:148", after := #[{ on := 9, ground := Ground.data }, { on := 9, ground := Ground.data }], guard := none }) rfl (fun K hK => ?_) ?_
          ·go_simp
           refine hK.out _ _ ?_ (fun hHeld42 => ?_)
           · (try dsimp only); exact cell_low9 (by repeat (first | exact Below.refl _ _ | refine Below.drew ?_ | (refine Below.alloc ?_ (by simp; try omega) _))) cD
           clear hK K
           try simp only [Act.put, List.setIfInBounds_toArray]
           clear hHeld36
           refine wpAnyH_ready (rs := [7]) (by kernel_rfl) (by simp) ?_
           refine AllReadyH.cons (o := { dst := some 38, op := Op.makeSlice 22 (Operand.tmp 37) (Operand.tmp 37), type := 22, pos := "law.go:148", after := #[{ on := 6, ground := Ground.data }, { on := 6, ground := Ground.data }], guard := none }) rfl (fun K hK => ?_) ?_
           ·go_simp
            refine hK.out _ _ ?_ (fun hHeld43 => ?_)
            · (try dsimp only); exact cell_low9 (by repeat (first | exact Below.refl _ _ | refine Below.drew ?_ | (refine Below.alloc ?_ (by simp; try omega) _))) cD
            clear hK K
            try simp only [Act.put, List.setIfInBounds_toArray]
            clear hHeld42
            refine wpAnyH_take (i := 12) (oi := { dst := some 43, op := Op.build 67 #[(0, Operand.tmp 35), (1, Operand.tmp 38), (2, Operand.tmp 41), (4, Operand.tmp 42)], type := 67, pos := "law.go:148", after := #[{ on := 4, ground := Ground.data }, { on := 7, ground := Ground.data }, { on := 10, ground := Ground.data }, { on := 11, ground := Ground.data }], guard := none }) (v := ?_) rfl (by kernel_rfl) (by kernel_rfl) (by kernel_rfl) (fun _ _ _ h => h) (Or.inl ⟨by rfl, ?_⟩) (by assumption) ?_
            rotate_left
            · intro w hSw; (try dsimp only at hSw); first | (go_simp; done) | (go_simp; with_reducible rfl) | with_reducible rfl | rfl
            try simp only [Act.put, List.setIfInBounds_toArray]
            refine wpAnyH_ready (rs := [13]) (by kernel_rfl) (by simp) ?_
            refine AllReadyH.cons (o := { dst := some 44, op := Op.buildSlice 26 1 #[(0, Operand.tmp 43)], type := 26, pos := "law.go:148", after := #[{ on := 12, ground := Ground.data }], guard := none }) rfl (fun K hK => ?_) ?_
            ·go_simp
             refine hK.out _ _ ?_ (fun hHeld44 => ?_)
             · (try dsimp only); exact cell_low9 (by repeat (first | exact Below.refl _ _ | refine Below.drew ?_ | (refine Below.alloc ?_ (by simp; try omega) _))) cD
             clear hK K
             try simp only [Act.put, List.setIfInBounds_toArray]
             clear hHeld43
             refine wpAnyH_ready (rs := [14]) (by kernel_rfl) (by simp) ?_
             refine AllReadyH.cons (o := { dst := some 45, op := Op.call { callee := Callee.builtin Builtin.append, args := #[Operand.tmp 32, Operand.tmp 44], argTypes := #[26, 26] }, type := 26, pos := "law.go:148", after := #[{ on := 1, ground := Ground.data }, { on := 13, ground := Ground.data }], guard := none }) rfl (fun K hK => ?_) ?_
             ·(have AL := hide (al4 W (.cells #[.int .i64 0, .int .i64 9] 61) (.cells (Array.replicate dd (.int .i64 0)) 3) (.cells (Array.replicate dd (.int .i64 0)) 3) (.cells #[.int .i64 0, .int .i64 0, .slice (some ⟨W.heap.size, 0, none⟩) 1 1, .slice (some ⟨W.heap.size + 1 + 1, 0, none⟩) dd dd, .slice (some ⟨W.heap.size + 1, 0, none⟩) dd dd, .int .u64 0, .int .i64 pr] 67)); refine step_append_lies _ (by rfl) (.tmp 32) (.tmp 44) 26 (by rfl) (w2.heap.size + 2) 67 i0 _ 7 104 Try.underlying26 HI0.out HZ0.out HZ1.out HZ2.out (by rfl) (by decide) (.slice (some ⟨g0, 0, none⟩) lj gc) lj R.flatten (by rfl) (own_later HR1.out (Nat.le_refl _) AL.out.2.2.2.2.1) ⟨W.heap.size + 1 + 1 + 1, 0, none⟩ 1 1 [.int .i64 0, .int .i64 0, .slice (some ⟨W.heap.size, 0, none⟩) 1 1, .slice (some ⟨W.heap.size + 1 + 1, 0, none⟩) dd dd, .slice (some ⟨W.heap.size + 1, 0, none⟩) dd dd, .int .u64 0, .int .i64 pr] (by rfl) (by rfl) (news_of AL.out.2.2.2.1) (by simp [Value.oneCell']) (by decide) HLEN.out HBYT.out (HBAS.out AL.out.2.2.2.2.1.size) (W.heap.size + 1 + 1 + 1 + 1) AL.out.2.2.2.2.2 ?_; intro g9 cap9 w9 hown9 hgrow9 hat9 hlt9; have z0 := (grown_cell9 (b := w.heap.size) (o := 0) hgrow9 (Nat.lt_of_lt_of_le hwl AL.out.2.2.2.2.1.size) HNG.out).trans (cell_low9 AL.out.2.2.2.2.1 cD); have z6 := (grown_cell9 (b := w3.heap.size) (o := 6) hgrow9 (Nat.lt_of_lt_of_le hwq AL.out.2.2.2.2.1.size) HNQ.out).trans (cell_low9 AL.out.2.2.2.2.1 cJ); have z7 := frozen9 (o := 6) hgrow9 HWE.out (Nat.lt_of_lt_of_le hwq AL.out.2.2.2.2.1.size) HNQ.out AL.out.2.2.2.2.1)
              refine hK.out _ _ ?_ (fun hHeld45 => ?_)
              · (try dsimp only); exact z0
              clear hK K
              try simp only [Act.put, List.setIfInBounds_toArray]
              clear hHeld44
              refine wpAnyH_take (i := 15) (v := ?_) rfl (by kernel_rfl) (by kernel_rfl) (by kernel_rfl) (fun _ _ _ h => h) (Or.inl ⟨by rfl, ?_⟩) (by assumption) ?_
              rotate_left
              · intro w hSw; (try dsimp only at hSw); first | (go_simp; done) | (go_simp; with_reducible rfl) | with_reducible rfl | rfl
              try simp only [Act.put]
              refine wpAnyH_ready (rs := [16]) (by kernel_rfl) (by simp) ?_
              refine AllReadyH.cons (o := { dst := none, op := Op.store 26 (Operand.tmp 46) (Operand.tmp 45), type := 0, pos := "law.go:148", after := #[{ on := 15, ground := Ground.data }, { on := 14, ground := Ground.data }, { on := 14, ground := Ground.chain }, { on := 0, ground := Ground.phase }, { on := 1, ground := Ground.phase }, { on := 2, ground := Ground.phase }, { on := 3, ground := Ground.phase }, { on := 4, ground := Ground.phase }, { on := 5, ground := Ground.phase }, { on := 6, ground := Ground.phase }, { on := 7, ground := Ground.phase }, { on := 8, ground := Ground.phase }, { on := 9, ground := Ground.phase }, { on := 10, ground := Ground.phase }, { on := 11, ground := Ground.phase }, { on := 12, ground := Ground.phase }, { on := 13, ground := Ground.phase }, { on := 14, ground := Ground.phase }], guard := none }) rfl (fun K hK => ?_) ?_
              ·go_simp
               refine hK.out _ _ ?_ (fun hHeld46 => ?_)
               · (try dsimp only); exact (cell_far9 m8).trans z0
               clear hK K
               try simp only [Act.put, List.setIfInBounds_toArray]
               clear hHeld45
               refine wpAnyH_done (by kernel_rfl) ?_ _
               clear hHeld46
               have HP9 := hide (more_leaf HFQ.out HLJ2.out HR2.out HR5.out HBW.out HBB.out HBC.out HW3.out hwq HWE.out AL.out.2.2.2.2.1 (by omega) (by omega) (by omega) AL.out.1 AL.out.2.2.1 AL.out.2.1 hown9 hgrow9 hat9 (by omega) hd3 hl12)
               go_wp2_with fail
               go_meet
               case rel => exact ⟨rfl, g9, cap9, HP9.out⟩
              exact AllReadyH.nil
             exact AllReadyH.nil
            exact AllReadyH.nil
           exact AllReadyH.nil
          exact AllReadyH.nil
         refine AllReadyH.cons (o := { dst := some 38, op := Op.makeSlice 22 (Operand.tmp 37) (Operand.tmp 37), type := 22, pos := "law.go:148", after := #[{ on := 6, ground := Ground.data }, { on := 6, ground := Ground.data }], guard := none }) rfl (fun K hK => ?_) ?_
         ·go_simp
          refine hK.out _ _ ?_ (fun hHeld47 => ?_)
          · (try dsimp only); exact cell_low9 (by repeat (first | exact Below.refl _ _ | refine Below.drew ?_ | (refine Below.alloc ?_ (by simp; try omega) _))) cD
          clear hK K
          try simp only [Act.put, List.setIfInBounds_toArray]
          clear hHeld35
          refine wpAnyH_ready (rs := [1, 10]) (by kernel_rfl) (by simp) ?_
          refine AllReadyH.cons (o := { dst := some 32, op := Op.load 26 (Operand.tmp 31), type := 26, pos := "law.go:148", after := #[{ on := 0, ground := Ground.data }], guard := none }) rfl (fun K hK => ?_) ?_
          ·go_simp
           refine hK.out _ _ ?_ (fun hHeld48 => ?_)
           · (try dsimp only); exact cell_low9 (by repeat (first | exact Below.refl _ _ | refine Below.drew ?_ | (refine Below.alloc ?_ (by simp; try omega) _))) cD
           clear hK K
           try simp only [Act.put, List.setIfInBounds_toArray]
           clear hHeld47
           refine wpAnyH_ready (rs := [10]) (by kernel_rfl) (by simp) ?_
           refine AllReadyH.cons (o := { dst := some 41, op := Op.makeSlice 22 (Operand.tmp 40) (Operand.tmp 40), type := 22, pos := "law.go:148", after := #[{ on := 9, ground := Ground.data }, { on := 9, ground := Ground.data }], guard := none }) rfl (fun K hK => ?_) ?_
           ·go_simp
            refine hK.out _ _ ?_ (fun hHeld49 => ?_)
            · (try dsimp only); exact cell_low9 (by repeat (first | exact Below.refl _ _ | refine Below.drew ?_ | (refine Below.alloc ?_ (by simp; try omega) _))) cD
            clear hK K
            try simp only [Act.put, List.setIfInBounds_toArray]
            clear hHeld48
            refine wpAnyH_take (i := 12) (oi := { dst := some 43, op := Op.build 67 #[(0, Operand.tmp 35), (1, Operand.tmp 38), (2, Operand.tmp 41), (4, Operand.tmp 42)], type := 67, pos := "law.go:148", after := #[{ on := 4, ground := Ground.data }, { on := 7, ground := Ground.data }, { on := 10, ground := Ground.data }, { on := 11, ground := Ground.data }], guard := none }) (v := ?_) rfl (by kernel_rfl) (by kernel_rfl) (by kernel_rfl) (fun _ _ _ h => h) (Or.inl ⟨by rfl, ?_⟩) (by assumption) ?_
            rotate_left
            · intro w hSw; (try dsimp only at hSw); first | (go_simp; done) | (go_simp; with_reducible rfl) | with_reducible rfl | rfl
            try simp only [Act.put, List.setIfInBounds_toArray]
            refine wpAnyH_ready (rs := [13]) (by kernel_rfl) (by simp) ?_
            refine AllReadyH.cons (o := { dst := some 44, op := Op.buildSlice 26 1 #[(0, Operand.tmp 43)], type := 26, pos := "law.go:148", after := #[{ on := 12, ground := Ground.data }], guard := none }) rfl (fun K hK => ?_) ?_
            ·go_simp
             refine hK.out _ _ ?_ (fun hHeld50 => ?_)
             · (try dsimp only); exact cell_low9 (by repeat (first | exact Below.refl _ _ | refine Below.drew ?_ | (refine Below.alloc ?_ (by simp; try omega) _))) cD
             clear hK K
             try simp only [Act.put, List.setIfInBounds_toArray]
             clear hHeld49
             refine wpAnyH_ready (rs := [14]) (by kernel_rfl) (by simp) ?_
             refine AllReadyH.cons (o := { dst := some 45, op := Op.call { callee := Callee.builtin Builtin.append, args := #[Operand.tmp 32, Operand.tmp 44], argTypes := #[26, 26] }, type := 26, pos := "law.go:148", after := #[{ on := 1, ground := Ground.data }, { on := 13, ground := Ground.data }], guard := none }) rfl (fun K hK => ?_) ?_
             ·(have AL := hide (al4 W (.cells #[.int .i64 0, .int .i64 9] 61) (.cells (Array.replicate dd (.int .i64 0)) 3) (.cells (Array.replicate dd (.int .i64 0)) 3) (.cells #[.int .i64 0, .int .i64 0, .slice (some ⟨W.heap.size, 0, none⟩) 1 1, .slice (some ⟨W.heap.size + 1, 0, none⟩) dd dd, .slice (some ⟨W.heap.size + 1 + 1, 0, none⟩) dd dd, .int .u64 0, .int .i64 pr] 67)); refine step_append_lies _ (by rfl) (.tmp 32) (.tmp 44) 26 (by rfl) (w2.heap.size + 2) 67 i0 _ 7 104 Try.underlying26 HI0.out HZ0.out HZ1.out HZ2.out (by rfl) (by decide) (.slice (some ⟨g0, 0, none⟩) lj gc) lj R.flatten (by rfl) (own_later HR1.out (Nat.le_refl _) AL.out.2.2.2.2.1) ⟨W.heap.size + 1 + 1 + 1, 0, none⟩ 1 1 [.int .i64 0, .int .i64 0, .slice (some ⟨W.heap.size, 0, none⟩) 1 1, .slice (some ⟨W.heap.size + 1, 0, none⟩) dd dd, .slice (some ⟨W.heap.size + 1 + 1, 0, none⟩) dd dd, .int .u64 0, .int .i64 pr] (by rfl) (by rfl) (news_of AL.out.2.2.2.1) (by simp [Value.oneCell']) (by decide) HLEN.out HBYT.out (HBAS.out AL.out.2.2.2.2.1.size) (W.heap.size + 1 + 1 + 1 + 1) AL.out.2.2.2.2.2 ?_; intro g9 cap9 w9 hown9 hgrow9 hat9 hlt9; have z0 := (grown_cell9 (b := w.heap.size) (o := 0) hgrow9 (Nat.lt_of_lt_of_le hwl AL.out.2.2.2.2.1.size) HNG.out).trans (cell_low9 AL.out.2.2.2.2.1 cD); have z6 := (grown_cell9 (b := w3.heap.size) (o := 6) hgrow9 (Nat.lt_of_lt_of_le hwq AL.out.2.2.2.2.1.size) HNQ.out).trans (cell_low9 AL.out.2.2.2.2.1 cJ); have z7 := frozen9 (o := 6) hgrow9 HWE.out (Nat.lt_of_lt_of_le hwq AL.out.2.2.2.2.1.size) HNQ.out AL.out.2.2.2.2.1)
              refine hK.out _ _ ?_ (fun hHeld51 => ?_)
              · (try dsimp only); exact z0
              clear hK K
              try simp only [Act.put, List.setIfInBounds_toArray]
              clear hHeld50
              refine wpAnyH_take (i := 15) (v := ?_) rfl (by kernel_rfl) (by kernel_rfl) (by kernel_rfl) (fun _ _ _ h => h) (Or.inl ⟨by rfl, ?_⟩) (by assumption) ?_
              rotate_left
              · intro w hSw; (try dsimp only at hSw); first | (go_simp; done) | (go_simp; with_reducible rfl) | with_reducible rfl | rfl
              try simp only [Act.put]
              refine wpAnyH_ready (rs := [16]) (by kernel_rfl) (by simp) ?_
              refine AllReadyH.cons (o := { dst := none, op := Op.store 26 (Operand.tmp 46) (Operand.tmp 45), type := 0, pos := "law.go:148", after := #[{ on := 15, ground := Ground.data }, { on := 14, ground := Ground.data }, { on := 14, ground := Ground.chain }, { on := 0, ground := Ground.phase }, { on := 1, ground := Ground.phase }, { on := 2, ground := Ground.phase }, { on := 3, ground := Ground.phase }, { on := 4, ground := Ground.phase }, { on := 5, ground := Ground.phase }, { on := 6, ground := Ground.phase }, { on := 7, ground := Ground.phase }, { on := 8, ground := Ground.phase }, { on := 9, ground := Ground.phase }, { on := 10, ground := Ground.phase }, { on := 11, ground := Ground.phase }, { on := 12, ground := Ground.phase }, { on := 13, ground := Ground.phase }, { on := 14, ground := Ground.phase }], guard := none }) rfl (fun K hK => ?_) ?_
              ·go_simp
               refine hK.out _ _ ?_ (fun hHeld52 => ?_)
               · (try dsimp only); exact (cell_far9 m8).trans z0
               clear hK K
               try simp only [Act.put, List.setIfInBounds_toArray]
               clear hHeld51
               refine wpAnyH_done (by kernel_rfl) ?_ _
               clear hHeld52
               have HP9 := hide (more_leaf HFQ.out HLJ2.out HR2.out HR5.out HBW.out HBB.out HBC.out HW3.out hwq HWE.out AL.out.2.2.2.2.1 (by omega) (by omega) (by omega) AL.out.1 AL.out.2.1 AL.out.2.2.1 hown9 hgrow9 hat9 (by omega) hd3 hl12)
               go_wp2_with fail
               go_meet
               case rel => exact ⟨rfl, g9, cap9, HP9.out⟩
              exact AllReadyH.nil
             exact AllReadyH.nil
            exact AllReadyH.nil
           exact AllReadyH.nil
          refine AllReadyH.cons (o := { dst := some 41, op := Op.makeSlice 22 (Operand.tmp 40) (Operand.tmp 40), type := 22, pos := "law.go:148", after := #[{ on := 9, ground := Ground.data }, { on := 9, ground := Ground.data }], guard := none }) rfl (fun K hK => ?_) ?_
          ·go_simp
           refine hK.out _ _ ?_ (fun hHeld53 => ?_)
           · (try dsimp only); exact cell_low9 (by repeat (first | exact Below.refl _ _ | refine Below.drew ?_ | (refine Below.alloc ?_ (by simp; try omega) _))) cD
           clear hK K
           try simp only [Act.put, List.setIfInBounds_toArray]
           clear hHeld47
           refine wpAnyH_take (i := 12) (oi := { dst := some 43, op := Op.build 67 #[(0, Operand.tmp 35), (1, Operand.tmp 38), (2, Operand.tmp 41), (4, Operand.tmp 42)], type := 67, pos := "law.go:148", after := #[{ on := 4, ground := Ground.data }, { on := 7, ground := Ground.data }, { on := 10, ground := Ground.data }, { on := 11, ground := Ground.data }], guard := none }) (v := ?_) rfl (by kernel_rfl) (by kernel_rfl) (by kernel_rfl) (fun _ _ _ h => h) (Or.inl ⟨by rfl, ?_⟩) (by assumption) ?_
           rotate_left
           · intro w hSw; (try dsimp only at hSw); first | (go_simp; done) | (go_simp; with_reducible rfl) | with_reducible rfl | rfl
           try simp only [Act.put, List.setIfInBounds_toArray]
           refine wpAnyH_ready (rs := [1, 13]) (by kernel_rfl) (by simp) ?_
           refine AllReadyH.cons (o := { dst := some 32, op := Op.load 26 (Operand.tmp 31), type := 26, pos := "law.go:148", after := #[{ on := 0, ground := Ground.data }], guard := none }) rfl (fun K hK => ?_) ?_
           ·(have c6x : (((W.alloc (.cells #[.int .i64 0, .int .i64 9] 61)).alloc (.cells (Array.replicate dd (.int .i64 0)) 3)).alloc (.cells (Array.replicate dd (.int .i64 0)) 3)).cell? ⟨w3.heap.size, 6, none⟩ = some (.slice (some ⟨g0, 0, none⟩) lj gc) := cell_low9 (by repeat (first | exact Below.refl _ _ | refine Below.drew ?_ | (refine Below.alloc ?_ (by simp; try omega) _))) cJ; go_simp; clear c6x)
            refine hK.out _ _ ?_ (fun hHeld54 => ?_)
            · (try dsimp only); exact cell_low9 (by repeat (first | exact Below.refl _ _ | refine Below.drew ?_ | (refine Below.alloc ?_ (by simp; try omega) _))) cD
            clear hK K
            try simp only [Act.put, List.setIfInBounds_toArray]
            clear hHeld53
            refine wpAnyH_ready (rs := [13]) (by kernel_rfl) (by simp) ?_
            refine AllReadyH.cons (o := { dst := some 44, op := Op.buildSlice 26 1 #[(0, Operand.tmp 43)], type := 26, pos := "law.go:148", after := #[{ on := 12, ground := Ground.data }], guard := none }) rfl (fun K hK => ?_) ?_
            ·go_simp
             refine hK.out _ _ ?_ (fun hHeld55 => ?_)
             · (try dsimp only); exact cell_low9 (by repeat (first | exact Below.refl _ _ | refine Below.drew ?_ | (refine Below.alloc ?_ (by simp; try omega) _))) cD
             clear hK K
             try simp only [Act.put, List.setIfInBounds_toArray]
             clear hHeld54
             refine wpAnyH_ready (rs := [14]) (by kernel_rfl) (by simp) ?_
             refine AllReadyH.cons (o := { dst := some 45, op := Op.call { callee := Callee.builtin Builtin.append, args := #[Operand.tmp 32, Operand.tmp 44], argTypes := #[26, 26] }, type := 26, pos := "law.go:148", after := #[{ on := 1, ground := Ground.data }, { on := 13, ground := Ground.data }], guard := none }) rfl (fun K hK => ?_) ?_
             ·(have AL := hide (al4 W (.cells #[.int .i64 0, .int .i64 9] 61) (.cells (Array.replicate dd (.int .i64 0)) 3) (.cells (Array.replicate dd (.int .i64 0)) 3) (.cells #[.int .i64 0, .int .i64 0, .slice (some ⟨W.heap.size, 0, none⟩) 1 1, .slice (some ⟨W.heap.size + 1, 0, none⟩) dd dd, .slice (some ⟨W.heap.size + 1 + 1, 0, none⟩) dd dd, .int .u64 0, .int .i64 pr] 67)); refine step_append_lies _ (by rfl) (.tmp 32) (.tmp 44) 26 (by rfl) (w2.heap.size + 2) 67 i0 _ 7 104 Try.underlying26 HI0.out HZ0.out HZ1.out HZ2.out (by rfl) (by decide) (.slice (some ⟨g0, 0, none⟩) lj gc) lj R.flatten (by rfl) (own_later HR1.out (Nat.le_refl _) AL.out.2.2.2.2.1) ⟨W.heap.size + 1 + 1 + 1, 0, none⟩ 1 1 [.int .i64 0, .int .i64 0, .slice (some ⟨W.heap.size, 0, none⟩) 1 1, .slice (some ⟨W.heap.size + 1, 0, none⟩) dd dd, .slice (some ⟨W.heap.size + 1 + 1, 0, none⟩) dd dd, .int .u64 0, .int .i64 pr] (by rfl) (by rfl) (news_of AL.out.2.2.2.1) (by simp [Value.oneCell']) (by decide) HLEN.out HBYT.out (HBAS.out AL.out.2.2.2.2.1.size) (W.heap.size + 1 + 1 + 1 + 1) AL.out.2.2.2.2.2 ?_; intro g9 cap9 w9 hown9 hgrow9 hat9 hlt9; have z0 := (grown_cell9 (b := w.heap.size) (o := 0) hgrow9 (Nat.lt_of_lt_of_le hwl AL.out.2.2.2.2.1.size) HNG.out).trans (cell_low9 AL.out.2.2.2.2.1 cD); have z6 := (grown_cell9 (b := w3.heap.size) (o := 6) hgrow9 (Nat.lt_of_lt_of_le hwq AL.out.2.2.2.2.1.size) HNQ.out).trans (cell_low9 AL.out.2.2.2.2.1 cJ); have z7 := frozen9 (o := 6) hgrow9 HWE.out (Nat.lt_of_lt_of_le hwq AL.out.2.2.2.2.1.size) HNQ.out AL.out.2.2.2.2.1)
              refine hK.out _ _ ?_ (fun hHeld56 => ?_)
              · (try dsimp only); exact z0
              clear hK K
              try simp only [Act.put, List.setIfInBounds_toArray]
              clear hHeld55
              refine wpAnyH_take (i := 15) (v := ?_) rfl (by kernel_rfl) (by kernel_rfl) (by kernel_rfl) (fun _ _ _ h => h) (Or.inl ⟨by rfl, ?_⟩) (by assumption) ?_
              rotate_left
              · intro w hSw; (try dsimp only at hSw); first | (go_simp; done) | (go_simp; with_reducible rfl) | with_reducible rfl | rfl
              try simp only [Act.put]
              refine wpAnyH_ready (rs := [16]) (by kernel_rfl) (by simp) ?_
              refine AllReadyH.cons (o := { dst := none, op := Op.store 26 (Operand.tmp 46) (Operand.tmp 45), type := 0, pos := "law.go:148", after := #[{ on := 15, ground := Ground.data }, { on := 14, ground := Ground.data }, { on := 14, ground := Ground.chain }, { on := 0, ground := Ground.phase }, { on := 1, ground := Ground.phase }, { on := 2, ground := Ground.phase }, { on := 3, ground := Ground.phase }, { on := 4, ground := Ground.phase }, { on := 5, ground := Ground.phase }, { on := 6, ground := Ground.phase }, { on := 7, ground := Ground.phase }, { on := 8, ground := Ground.phase }, { on := 9, ground := Ground.phase }, { on := 10, ground := Ground.phase }, { on := 11, ground := Ground.phase }, { on := 12, ground := Ground.phase }, { on := 13, ground := Ground.phase }, { on := 14, ground := Ground.phase }], guard := none }) rfl (fun K hK => ?_) ?_
              ·go_simp
               refine hK.out _ _ ?_ (fun hHeld57 => ?_)
               · (try dsimp only); exact (cell_far9 m8).trans z0
               clear hK K
               try simp only [Act.put, List.setIfInBounds_toArray]
               clear hHeld56
               refine wpAnyH_done (by kernel_rfl) ?_ _
               clear hHeld57
               have HP9 := hide (more_leaf HFQ.out HLJ2.out HR2.out HR5.out HBW.out HBB.out HBC.out HW3.out hwq HWE.out AL.out.2.2.2.2.1 (by omega) (by omega) (by omega) AL.out.1 AL.out.2.1 AL.out.2.2.1 hown9 hgrow9 hat9 (by omega) hd3 hl12)
               go_wp2_with fail
               go_meet
               case rel => exact ⟨rfl, g9, cap9, HP9.out⟩
              exact AllReadyH.nil
             exact AllReadyH.nil
            exact AllReadyH.nil
           refine AllReadyH.cons (o := { dst := some 44, op := Op.buildSlice 26 1 #[(0, Operand.tmp 43)], type := 26, pos := "law.go:148", after := #[{ on := 12, ground := Ground.data }], guard := none }) rfl (fun K hK => ?_) ?_
           ·go_simp
            refine hK.out _ _ ?_ (fun hHeld58 => ?_)
            · (try dsimp only); exact cell_low9 (by repeat (first | exact Below.refl _ _ | refine Below.drew ?_ | (refine Below.alloc ?_ (by simp; try omega) _))) cD
            clear hK K
            try simp only [Act.put, List.setIfInBounds_toArray]
            clear hHeld53
            refine wpAnyH_ready (rs := [1]) (by kernel_rfl) (by simp) ?_
            refine AllReadyH.cons (o := { dst := some 32, op := Op.load 26 (Operand.tmp 31), type := 26, pos := "law.go:148", after := #[{ on := 0, ground := Ground.data }], guard := none }) rfl (fun K hK => ?_) ?_
            ·(have c6x : ((((W.alloc (.cells #[.int .i64 0, .int .i64 9] 61)).alloc (.cells (Array.replicate dd (.int .i64 0)) 3)).alloc (.cells (Array.replicate dd (.int .i64 0)) 3)).alloc (.cells #[.int .i64 0, .int .i64 0, .slice (some ⟨W.heap.size, 0, none⟩) 1 1, .slice (some ⟨W.heap.size + 1, 0, none⟩) dd dd, .slice (some ⟨W.heap.size + 1 + 1, 0, none⟩) dd dd, .int .u64 0, .int .i64 pr] 67)).cell? ⟨w3.heap.size, 6, none⟩ = some (.slice (some ⟨g0, 0, none⟩) lj gc) := cell_low9 (by repeat (first | exact Below.refl _ _ | refine Below.drew ?_ | (refine Below.alloc ?_ (by simp; try omega) _))) cJ; go_simp; clear c6x)
             refine hK.out _ _ ?_ (fun hHeld59 => ?_)
             · (try dsimp only); exact cell_low9 (by repeat (first | exact Below.refl _ _ | refine Below.drew ?_ | (refine Below.alloc ?_ (by simp; try omega) _))) cD
             clear hK K
             try simp only [Act.put, List.setIfInBounds_toArray]
             clear hHeld58
             refine wpAnyH_ready (rs := [14]) (by kernel_rfl) (by simp) ?_
             refine AllReadyH.cons (o := { dst := some 45, op := Op.call { callee := Callee.builtin Builtin.append, args := #[Operand.tmp 32, Operand.tmp 44], argTypes := #[26, 26] }, type := 26, pos := "law.go:148", after := #[{ on := 1, ground := Ground.data }, { on := 13, ground := Ground.data }], guard := none }) rfl (fun K hK => ?_) ?_
             ·(have AL := hide (al4 W (.cells #[.int .i64 0, .int .i64 9] 61) (.cells (Array.replicate dd (.int .i64 0)) 3) (.cells (Array.replicate dd (.int .i64 0)) 3) (.cells #[.int .i64 0, .int .i64 0, .slice (some ⟨W.heap.size, 0, none⟩) 1 1, .slice (some ⟨W.heap.size + 1, 0, none⟩) dd dd, .slice (some ⟨W.heap.size + 1 + 1, 0, none⟩) dd dd, .int .u64 0, .int .i64 pr] 67)); refine step_append_lies _ (by rfl) (.tmp 32) (.tmp 44) 26 (by rfl) (w2.heap.size + 2) 67 i0 _ 7 104 Try.underlying26 HI0.out HZ0.out HZ1.out HZ2.out (by rfl) (by decide) (.slice (some ⟨g0, 0, none⟩) lj gc) lj R.flatten (by rfl) (own_later HR1.out (Nat.le_refl _) AL.out.2.2.2.2.1) ⟨W.heap.size + 1 + 1 + 1, 0, none⟩ 1 1 [.int .i64 0, .int .i64 0, .slice (some ⟨W.heap.size, 0, none⟩) 1 1, .slice (some ⟨W.heap.size + 1, 0, none⟩) dd dd, .slice (some ⟨W.heap.size + 1 + 1, 0, none⟩) dd dd, .int .u64 0, .int .i64 pr] (by rfl) (by rfl) (news_of AL.out.2.2.2.1) (by simp [Value.oneCell']) (by decide) HLEN.out HBYT.out (HBAS.out AL.out.2.2.2.2.1.size) (W.heap.size + 1 + 1 + 1 + 1) AL.out.2.2.2.2.2 ?_; intro g9 cap9 w9 hown9 hgrow9 hat9 hlt9; have z0 := (grown_cell9 (b := w.heap.size) (o := 0) hgrow9 (Nat.lt_of_lt_of_le hwl AL.out.2.2.2.2.1.size) HNG.out).trans (cell_low9 AL.out.2.2.2.2.1 cD); have z6 := (grown_cell9 (b := w3.heap.size) (o := 6) hgrow9 (Nat.lt_of_lt_of_le hwq AL.out.2.2.2.2.1.size) HNQ.out).trans (cell_low9 AL.out.2.2.2.2.1 cJ); have z7 := frozen9 (o := 6) hgrow9 HWE.out (Nat.lt_of_lt_of_le hwq AL.out.2.2.2.2.1.size) HNQ.out AL.out.2.2.2.2.1)
              refine hK.out _ _ ?_ (fun hHeld60 => ?_)
              · (try dsimp only); exact z0
              clear hK K
              try simp only [Act.put, List.setIfInBounds_toArray]
              clear hHeld59
              refine wpAnyH_take (i := 15) (v := ?_) rfl (by kernel_rfl) (by kernel_rfl) (by kernel_rfl) (fun _ _ _ h => h) (Or.inl ⟨by rfl, ?_⟩) (by assumption) ?_
              rotate_left
              · intro w hSw; (try dsimp only at hSw); first | (go_simp; done) | (go_simp; with_reducible rfl) | with_reducible rfl | rfl
              try simp only [Act.put]
              refine wpAnyH_ready (rs := [16]) (by kernel_rfl) (by simp) ?_
              refine AllReadyH.cons (o := { dst := none, op := Op.store 26 (Operand.tmp 46) (Operand.tmp 45), type := 0, pos := "law.go:148", after := #[{ on := 15, ground := Ground.data }, { on := 14, ground := Ground.data }, { on := 14, ground := Ground.chain }, { on := 0, ground := Ground.phase }, { on := 1, ground := Ground.phase }, { on := 2, ground := Ground.phase }, { on := 3, ground := Ground.phase }, { on := 4, ground := Ground.phase }, { on := 5, ground := Ground.phase }, { on := 6, ground := Ground.phase }, { on := 7, ground := Ground.phase }, { on := 8, ground := Ground.phase }, { on := 9, ground := Ground.phase }, { on := 10, ground := Ground.phase }, { on := 11, ground := Ground.phase }, { on := 12, ground := Ground.phase }, { on := 13, ground := Ground.phase }, { on := 14, ground := Ground.phase }], guard := none }) rfl (fun K hK => ?_) ?_
              ·go_simp
               refine hK.out _ _ ?_ (fun hHeld61 => ?_)
               · (try dsimp only); exact (cell_far9 m8).trans z0
               clear hK K
               try simp only [Act.put, List.setIfInBounds_toArray]
               clear hHeld60
               refine wpAnyH_done (by kernel_rfl) ?_ _
               clear hHeld61
               have HP9 := hide (more_leaf HFQ.out HLJ2.out HR2.out HR5.out HBW.out HBB.out HBC.out HW3.out hwq HWE.out AL.out.2.2.2.2.1 (by omega) (by omega) (by omega) AL.out.1 AL.out.2.1 AL.out.2.2.1 hown9 hgrow9 hat9 (by omega) hd3 hl12)
               go_wp2_with fail
               go_meet
               case rel => exact ⟨rfl, g9, cap9, HP9.out⟩
              exact AllReadyH.nil
             exact AllReadyH.nil
            exact AllReadyH.nil
           exact AllReadyH.nil
          exact AllReadyH.nil
         refine AllReadyH.cons (o := { dst := some 41, op := Op.makeSlice 22 (Operand.tmp 40) (Operand.tmp 40), type := 22, pos := "law.go:148", after := #[{ on := 9, ground := Ground.data }, { on := 9, ground := Ground.data }], guard := none }) rfl (fun K hK => ?_) ?_
         ·go_simp
          refine hK.out _ _ ?_ (fun hHeld62 => ?_)
          · (try dsimp only); exact cell_low9 (by repeat (first | exact Below.refl _ _ | refine Below.drew ?_ | (refine Below.alloc ?_ (by simp; try omega) _))) cD
          clear hK K
          try simp only [Act.put, List.setIfInBounds_toArray]
          clear hHeld35
          refine wpAnyH_ready (rs := [1, 7]) (by kernel_rfl) (by simp) ?_
          refine AllReadyH.cons (o := { dst := some 32, op := Op.load 26 (Operand.tmp 31), type := 26, pos := "law.go:148", after := #[{ on := 0, ground := Ground.data }], guard := none }) rfl (fun K hK => ?_) ?_
          ·go_simp
           refine hK.out _ _ ?_ (fun hHeld63 => ?_)
           · (try dsimp only); exact cell_low9 (by repeat (first | exact Below.refl _ _ | refine Below.drew ?_ | (refine Below.alloc ?_ (by simp; try omega) _))) cD
           clear hK K
           try simp only [Act.put, List.setIfInBounds_toArray]
           clear hHeld62
           refine wpAnyH_ready (rs := [7]) (by kernel_rfl) (by simp) ?_
           refine AllReadyH.cons (o := { dst := some 38, op := Op.makeSlice 22 (Operand.tmp 37) (Operand.tmp 37), type := 22, pos := "law.go:148", after := #[{ on := 6, ground := Ground.data }, { on := 6, ground := Ground.data }], guard := none }) rfl (fun K hK => ?_) ?_
           ·go_simp
            refine hK.out _ _ ?_ (fun hHeld64 => ?_)
            · (try dsimp only); exact cell_low9 (by repeat (first | exact Below.refl _ _ | refine Below.drew ?_ | (refine Below.alloc ?_ (by simp; try omega) _))) cD
            clear hK K
            try simp only [Act.put, List.setIfInBounds_toArray]
            clear hHeld63
            refine wpAnyH_take (i := 12) (oi := { dst := some 43, op := Op.build 67 #[(0, Operand.tmp 35), (1, Operand.tmp 38), (2, Operand.tmp 41), (4, Operand.tmp 42)], type := 67, pos := "law.go:148", after := #[{ on := 4, ground := Ground.data }, { on := 7, ground := Ground.data }, { on := 10, ground := Ground.data }, { on := 11, ground := Ground.data }], guard := none }) (v := ?_) rfl (by kernel_rfl) (by kernel_rfl) (by kernel_rfl) (fun _ _ _ h => h) (Or.inl ⟨by rfl, ?_⟩) (by assumption) ?_
            rotate_left
            · intro w hSw; (try dsimp only at hSw); first | (go_simp; done) | (go_simp; with_reducible rfl) | with_reducible rfl | rfl
            try simp only [Act.put, List.setIfInBounds_toArray]
            refine wpAnyH_ready (rs := [13]) (by kernel_rfl) (by simp) ?_
            refine AllReadyH.cons (o := { dst := some 44, op := Op.buildSlice 26 1 #[(0, Operand.tmp 43)], type := 26, pos := "law.go:148", after := #[{ on := 12, ground := Ground.data }], guard := none }) rfl (fun K hK => ?_) ?_
            ·go_simp
             refine hK.out _ _ ?_ (fun hHeld65 => ?_)
             · (try dsimp only); exact cell_low9 (by repeat (first | exact Below.refl _ _ | refine Below.drew ?_ | (refine Below.alloc ?_ (by simp; try omega) _))) cD
             clear hK K
             try simp only [Act.put, List.setIfInBounds_toArray]
             clear hHeld64
             refine wpAnyH_ready (rs := [14]) (by kernel_rfl) (by simp) ?_
             refine AllReadyH.cons (o := { dst := some 45, op := Op.call { callee := Callee.builtin Builtin.append, args := #[Operand.tmp 32, Operand.tmp 44], argTypes := #[26, 26] }, type := 26, pos := "law.go:148", after := #[{ on := 1, ground := Ground.data }, { on := 13, ground := Ground.data }], guard := none }) rfl (fun K hK => ?_) ?_
             ·(have AL := hide (al4 W (.cells #[.int .i64 0, .int .i64 9] 61) (.cells (Array.replicate dd (.int .i64 0)) 3) (.cells (Array.replicate dd (.int .i64 0)) 3) (.cells #[.int .i64 0, .int .i64 0, .slice (some ⟨W.heap.size, 0, none⟩) 1 1, .slice (some ⟨W.heap.size + 1 + 1, 0, none⟩) dd dd, .slice (some ⟨W.heap.size + 1, 0, none⟩) dd dd, .int .u64 0, .int .i64 pr] 67)); refine step_append_lies _ (by rfl) (.tmp 32) (.tmp 44) 26 (by rfl) (w2.heap.size + 2) 67 i0 _ 7 104 Try.underlying26 HI0.out HZ0.out HZ1.out HZ2.out (by rfl) (by decide) (.slice (some ⟨g0, 0, none⟩) lj gc) lj R.flatten (by rfl) (own_later HR1.out (Nat.le_refl _) AL.out.2.2.2.2.1) ⟨W.heap.size + 1 + 1 + 1, 0, none⟩ 1 1 [.int .i64 0, .int .i64 0, .slice (some ⟨W.heap.size, 0, none⟩) 1 1, .slice (some ⟨W.heap.size + 1 + 1, 0, none⟩) dd dd, .slice (some ⟨W.heap.size + 1, 0, none⟩) dd dd, .int .u64 0, .int .i64 pr] (by rfl) (by rfl) (news_of AL.out.2.2.2.1) (by simp [Value.oneCell']) (by decide) HLEN.out HBYT.out (HBAS.out AL.out.2.2.2.2.1.size) (W.heap.size + 1 + 1 + 1 + 1) AL.out.2.2.2.2.2 ?_; intro g9 cap9 w9 hown9 hgrow9 hat9 hlt9; have z0 := (grown_cell9 (b := w.heap.size) (o := 0) hgrow9 (Nat.lt_of_lt_of_le hwl AL.out.2.2.2.2.1.size) HNG.out).trans (cell_low9 AL.out.2.2.2.2.1 cD); have z6 := (grown_cell9 (b := w3.heap.size) (o := 6) hgrow9 (Nat.lt_of_lt_of_le hwq AL.out.2.2.2.2.1.size) HNQ.out).trans (cell_low9 AL.out.2.2.2.2.1 cJ); have z7 := frozen9 (o := 6) hgrow9 HWE.out (Nat.lt_of_lt_of_le hwq AL.out.2.2.2.2.1.size) HNQ.out AL.out.2.2.2.2.1)
              refine hK.out _ _ ?_ (fun hHeld66 => ?_)
              · (try dsimp only); exact z0
              clear hK K
              try simp only [Act.put, List.setIfInBounds_toArray]
              clear hHeld65
              refine wpAnyH_take (i := 15) (v := ?_) rfl (by kernel_rfl) (by kernel_rfl) (by kernel_rfl) (fun _ _ _ h => h) (Or.inl ⟨by rfl, ?_⟩) (by assumption) ?_
              rotate_left
              · intro w hSw; (try dsimp only at hSw); first | (go_simp; done) | (go_simp; with_reducible rfl) | with_reducible rfl | rfl
              try simp only [Act.put]
              refine wpAnyH_ready (rs := [16]) (by kernel_rfl) (by simp) ?_
              refine AllReadyH.cons (o := { dst := none, op := Op.store 26 (Operand.tmp 46) (Operand.tmp 45), type := 0, pos := "law.go:148", after := #[{ on := 15, ground := Ground.data }, { on := 14, ground := Ground.data }, { on := 14, ground := Ground.chain }, { on := 0, ground := Ground.phase }, { on := 1, ground := Ground.phase }, { on := 2, ground := Ground.phase }, { on := 3, ground := Ground.phase }, { on := 4, ground := Ground.phase }, { on := 5, ground := Ground.phase }, { on := 6, ground := Ground.phase }, { on := 7, ground := Ground.phase }, { on := 8, ground := Ground.phase }, { on := 9, ground := Ground.phase }, { on := 10, ground := Ground.phase }, { on := 11, ground := Ground.phase }, { on := 12, ground := Ground.phase }, { on := 13, ground := Ground.phase }, { on := 14, ground := Ground.phase }], guard := none }) rfl (fun K hK => ?_) ?_
              ·go_simp
               refine hK.out _ _ ?_ (fun hHeld67 => ?_)
               · (try dsimp only); exact (cell_far9 m8).trans z0
               clear hK K
               try simp only [Act.put, List.setIfInBounds_toArray]
               clear hHeld66
               refine wpAnyH_done (by kernel_rfl) ?_ _
               clear hHeld67
               have HP9 := hide (more_leaf HFQ.out HLJ2.out HR2.out HR5.out HBW.out HBB.out HBC.out HW3.out hwq HWE.out AL.out.2.2.2.2.1 (by omega) (by omega) (by omega) AL.out.1 AL.out.2.2.1 AL.out.2.1 hown9 hgrow9 hat9 (by omega) hd3 hl12)
               go_wp2_with fail
               go_meet
               case rel => exact ⟨rfl, g9, cap9, HP9.out⟩
              exact AllReadyH.nil
             exact AllReadyH.nil
            exact AllReadyH.nil
           exact AllReadyH.nil
          refine AllReadyH.cons (o := { dst := some 38, op := Op.makeSlice 22 (Operand.tmp 37) (Operand.tmp 37), type := 22, pos := "law.go:148", after := #[{ on := 6, ground := Ground.data }, { on := 6, ground := Ground.data }], guard := none }) rfl (fun K hK => ?_) ?_
          ·go_simp
           refine hK.out _ _ ?_ (fun hHeld68 => ?_)
           · (try dsimp only); exact cell_low9 (by repeat (first | exact Below.refl _ _ | refine Below.drew ?_ | (refine Below.alloc ?_ (by simp; try omega) _))) cD
           clear hK K
           try simp only [Act.put, List.setIfInBounds_toArray]
           clear hHeld62
           refine wpAnyH_take (i := 12) (oi := { dst := some 43, op := Op.build 67 #[(0, Operand.tmp 35), (1, Operand.tmp 38), (2, Operand.tmp 41), (4, Operand.tmp 42)], type := 67, pos := "law.go:148", after := #[{ on := 4, ground := Ground.data }, { on := 7, ground := Ground.data }, { on := 10, ground := Ground.data }, { on := 11, ground := Ground.data }], guard := none }) (v := ?_) rfl (by kernel_rfl) (by kernel_rfl) (by kernel_rfl) (fun _ _ _ h => h) (Or.inl ⟨by rfl, ?_⟩) (by assumption) ?_
           rotate_left
           · intro w hSw; (try dsimp only at hSw); first | (go_simp; done) | (go_simp; with_reducible rfl) | with_reducible rfl | rfl
           try simp only [Act.put, List.setIfInBounds_toArray]
           refine wpAnyH_ready (rs := [1, 13]) (by kernel_rfl) (by simp) ?_
           refine AllReadyH.cons (o := { dst := some 32, op := Op.load 26 (Operand.tmp 31), type := 26, pos := "law.go:148", after := #[{ on := 0, ground := Ground.data }], guard := none }) rfl (fun K hK => ?_) ?_
           ·(have c6x : (((W.alloc (.cells #[.int .i64 0, .int .i64 9] 61)).alloc (.cells (Array.replicate dd (.int .i64 0)) 3)).alloc (.cells (Array.replicate dd (.int .i64 0)) 3)).cell? ⟨w3.heap.size, 6, none⟩ = some (.slice (some ⟨g0, 0, none⟩) lj gc) := cell_low9 (by repeat (first | exact Below.refl _ _ | refine Below.drew ?_ | (refine Below.alloc ?_ (by simp; try omega) _))) cJ; go_simp; clear c6x)
            refine hK.out _ _ ?_ (fun hHeld69 => ?_)
            · (try dsimp only); exact cell_low9 (by repeat (first | exact Below.refl _ _ | refine Below.drew ?_ | (refine Below.alloc ?_ (by simp; try omega) _))) cD
            clear hK K
            try simp only [Act.put, List.setIfInBounds_toArray]
            clear hHeld68
            refine wpAnyH_ready (rs := [13]) (by kernel_rfl) (by simp) ?_
            refine AllReadyH.cons (o := { dst := some 44, op := Op.buildSlice 26 1 #[(0, Operand.tmp 43)], type := 26, pos := "law.go:148", after := #[{ on := 12, ground := Ground.data }], guard := none }) rfl (fun K hK => ?_) ?_
            ·go_simp
             refine hK.out _ _ ?_ (fun hHeld70 => ?_)
             · (try dsimp only); exact cell_low9 (by repeat (first | exact Below.refl _ _ | refine Below.drew ?_ | (refine Below.alloc ?_ (by simp; try omega) _))) cD
             clear hK K
             try simp only [Act.put, List.setIfInBounds_toArray]
             clear hHeld69
             refine wpAnyH_ready (rs := [14]) (by kernel_rfl) (by simp) ?_
             refine AllReadyH.cons (o := { dst := some 45, op := Op.call { callee := Callee.builtin Builtin.append, args := #[Operand.tmp 32, Operand.tmp 44], argTypes := #[26, 26] }, type := 26, pos := "law.go:148", after := #[{ on := 1, ground := Ground.data }, { on := 13, ground := Ground.data }], guard := none }) rfl (fun K hK => ?_) ?_
             ·(have AL := hide (al4 W (.cells #[.int .i64 0, .int .i64 9] 61) (.cells (Array.replicate dd (.int .i64 0)) 3) (.cells (Array.replicate dd (.int .i64 0)) 3) (.cells #[.int .i64 0, .int .i64 0, .slice (some ⟨W.heap.size, 0, none⟩) 1 1, .slice (some ⟨W.heap.size + 1 + 1, 0, none⟩) dd dd, .slice (some ⟨W.heap.size + 1, 0, none⟩) dd dd, .int .u64 0, .int .i64 pr] 67)); refine step_append_lies _ (by rfl) (.tmp 32) (.tmp 44) 26 (by rfl) (w2.heap.size + 2) 67 i0 _ 7 104 Try.underlying26 HI0.out HZ0.out HZ1.out HZ2.out (by rfl) (by decide) (.slice (some ⟨g0, 0, none⟩) lj gc) lj R.flatten (by rfl) (own_later HR1.out (Nat.le_refl _) AL.out.2.2.2.2.1) ⟨W.heap.size + 1 + 1 + 1, 0, none⟩ 1 1 [.int .i64 0, .int .i64 0, .slice (some ⟨W.heap.size, 0, none⟩) 1 1, .slice (some ⟨W.heap.size + 1 + 1, 0, none⟩) dd dd, .slice (some ⟨W.heap.size + 1, 0, none⟩) dd dd, .int .u64 0, .int .i64 pr] (by rfl) (by rfl) (news_of AL.out.2.2.2.1) (by simp [Value.oneCell']) (by decide) HLEN.out HBYT.out (HBAS.out AL.out.2.2.2.2.1.size) (W.heap.size + 1 + 1 + 1 + 1) AL.out.2.2.2.2.2 ?_; intro g9 cap9 w9 hown9 hgrow9 hat9 hlt9; have z0 := (grown_cell9 (b := w.heap.size) (o := 0) hgrow9 (Nat.lt_of_lt_of_le hwl AL.out.2.2.2.2.1.size) HNG.out).trans (cell_low9 AL.out.2.2.2.2.1 cD); have z6 := (grown_cell9 (b := w3.heap.size) (o := 6) hgrow9 (Nat.lt_of_lt_of_le hwq AL.out.2.2.2.2.1.size) HNQ.out).trans (cell_low9 AL.out.2.2.2.2.1 cJ); have z7 := frozen9 (o := 6) hgrow9 HWE.out (Nat.lt_of_lt_of_le hwq AL.out.2.2.2.2.1.size) HNQ.out AL.out.2.2.2.2.1)
              refine hK.out _ _ ?_ (fun hHeld71 => ?_)
              · (try dsimp only); exact z0
              clear hK K
              try simp only [Act.put, List.setIfInBounds_toArray]
              clear hHeld70
              refine wpAnyH_take (i := 15) (v := ?_) rfl (by kernel_rfl) (by kernel_rfl) (by kernel_rfl) (fun _ _ _ h => h) (Or.inl ⟨by rfl, ?_⟩) (by assumption) ?_
              rotate_left
              · intro w hSw; (try dsimp only at hSw); first | (go_simp; done) | (go_simp; with_reducible rfl) | with_reducible rfl | rfl
              try simp only [Act.put]
              refine wpAnyH_ready (rs := [16]) (by kernel_rfl) (by simp) ?_
              refine AllReadyH.cons (o := { dst := none, op := Op.store 26 (Operand.tmp 46) (Operand.tmp 45), type := 0, pos := "law.go:148", after := #[{ on := 15, ground := Ground.data }, { on := 14, ground := Ground.data }, { on := 14, ground := Ground.chain }, { on := 0, ground := Ground.phase }, { on := 1, ground := Ground.phase }, { on := 2, ground := Ground.phase }, { on := 3, ground := Ground.phase }, { on := 4, ground := Ground.phase }, { on := 5, ground := Ground.phase }, { on := 6, ground := Ground.phase }, { on := 7, ground := Ground.phase }, { on := 8, ground := Ground.phase }, { on := 9, ground := Ground.phase }, { on := 10, ground := Ground.phase }, { on := 11, ground := Ground.phase }, { on := 12, ground := Ground.phase }, { on := 13, ground := Ground.phase }, { on := 14, ground := Ground.phase }], guard := none }) rfl (fun K hK => ?_) ?_
              ·go_simp
               refine hK.out _ _ ?_ (fun hHeld72 => ?_)
               · (try dsimp only); exact (cell_far9 m8).trans z0
               clear hK K
               try simp only [Act.put, List.setIfInBounds_toArray]
               clear hHeld71
               refine wpAnyH_done (by kernel_rfl) ?_ _
               clear hHeld72
               have HP9 := hide (more_leaf HFQ.out HLJ2.out HR2.out HR5.out HBW.out HBB.out HBC.out HW3.out hwq HWE.out AL.out.2.2.2.2.1 (by omega) (by omega) (by omega) AL.out.1 AL.out.2.2.1 AL.out.2.1 hown9 hgrow9 hat9 (by omega) hd3 hl12)
               go_wp2_with fail
               go_meet
               case rel => exact ⟨rfl, g9, cap9, HP9.out⟩
              exact AllReadyH.nil
             exact AllReadyH.nil
            exact AllReadyH.nil
           refine AllReadyH.cons (o := { dst := some 44, op := Op.buildSlice 26 1 #[(0, Operand.tmp 43)], type := 26, pos := "law.go:148", after := #[{ on := 12, ground := Ground.data }], guard := none }) rfl (fun K hK => ?_) ?_
           ·go_simp
            refine hK.out _ _ ?_ (fun hHeld73 => ?_)
            · (try dsimp only); exact cell_low9 (by repeat (first | exact Below.refl _ _ | refine Below.drew ?_ | (refine Below.alloc ?_ (by simp; try omega) _))) cD
            clear hK K
            try simp only [Act.put, List.setIfInBounds_toArray]
            clear hHeld68
            refine wpAnyH_ready (rs := [1]) (by kernel_rfl) (by simp) ?_
            refine AllReadyH.cons (o := { dst := some 32, op := Op.load 26 (Operand.tmp 31), type := 26, pos := "law.go:148", after := #[{ on := 0, ground := Ground.data }], guard := none }) rfl (fun K hK => ?_) ?_
            ·(have c6x : ((((W.alloc (.cells #[.int .i64 0, .int .i64 9] 61)).alloc (.cells (Array.replicate dd (.int .i64 0)) 3)).alloc (.cells (Array.replicate dd (.int .i64 0)) 3)).alloc (.cells #[.int .i64 0, .int .i64 0, .slice (some ⟨W.heap.size, 0, none⟩) 1 1, .slice (some ⟨W.heap.size + 1 + 1, 0, none⟩) dd dd, .slice (some ⟨W.heap.size + 1, 0, none⟩) dd dd, .int .u64 0, .int .i64 pr] 67)).cell? ⟨w3.heap.size, 6, none⟩ = some (.slice (some ⟨g0, 0, none⟩) lj gc) := cell_low9 (by repeat (first | exact Below.refl _ _ | refine Below.drew ?_ | (refine Below.alloc ?_ (by simp; try omega) _))) cJ; go_simp; clear c6x)
             refine hK.out _ _ ?_ (fun hHeld74 => ?_)
             · (try dsimp only); exact cell_low9 (by repeat (first | exact Below.refl _ _ | refine Below.drew ?_ | (refine Below.alloc ?_ (by simp; try omega) _))) cD
             clear hK K
             try simp only [Act.put, List.setIfInBounds_toArray]
             clear hHeld73
             refine wpAnyH_ready (rs := [14]) (by kernel_rfl) (by simp) ?_
             refine AllReadyH.cons (o := { dst := some 45, op := Op.call { callee := Callee.builtin Builtin.append, args := #[Operand.tmp 32, Operand.tmp 44], argTypes := #[26, 26] }, type := 26, pos := "law.go:148", after := #[{ on := 1, ground := Ground.data }, { on := 13, ground := Ground.data }], guard := none }) rfl (fun K hK => ?_) ?_
             ·(have AL := hide (al4 W (.cells #[.int .i64 0, .int .i64 9] 61) (.cells (Array.replicate dd (.int .i64 0)) 3) (.cells (Array.replicate dd (.int .i64 0)) 3) (.cells #[.int .i64 0, .int .i64 0, .slice (some ⟨W.heap.size, 0, none⟩) 1 1, .slice (some ⟨W.heap.size + 1 + 1, 0, none⟩) dd dd, .slice (some ⟨W.heap.size + 1, 0, none⟩) dd dd, .int .u64 0, .int .i64 pr] 67)); refine step_append_lies _ (by rfl) (.tmp 32) (.tmp 44) 26 (by rfl) (w2.heap.size + 2) 67 i0 _ 7 104 Try.underlying26 HI0.out HZ0.out HZ1.out HZ2.out (by rfl) (by decide) (.slice (some ⟨g0, 0, none⟩) lj gc) lj R.flatten (by rfl) (own_later HR1.out (Nat.le_refl _) AL.out.2.2.2.2.1) ⟨W.heap.size + 1 + 1 + 1, 0, none⟩ 1 1 [.int .i64 0, .int .i64 0, .slice (some ⟨W.heap.size, 0, none⟩) 1 1, .slice (some ⟨W.heap.size + 1 + 1, 0, none⟩) dd dd, .slice (some ⟨W.heap.size + 1, 0, none⟩) dd dd, .int .u64 0, .int .i64 pr] (by rfl) (by rfl) (news_of AL.out.2.2.2.1) (by simp [Value.oneCell']) (by decide) HLEN.out HBYT.out (HBAS.out AL.out.2.2.2.2.1.size) (W.heap.size + 1 + 1 + 1 + 1) AL.out.2.2.2.2.2 ?_; intro g9 cap9 w9 hown9 hgrow9 hat9 hlt9; have z0 := (grown_cell9 (b := w.heap.size) (o := 0) hgrow9 (Nat.lt_of_lt_of_le hwl AL.out.2.2.2.2.1.size) HNG.out).trans (cell_low9 AL.out.2.2.2.2.1 cD); have z6 := (grown_cell9 (b := w3.heap.size) (o := 6) hgrow9 (Nat.lt_of_lt_of_le hwq AL.out.2.2.2.2.1.size) HNQ.out).trans (cell_low9 AL.out.2.2.2.2.1 cJ); have z7 := frozen9 (o := 6) hgrow9 HWE.out (Nat.lt_of_lt_of_le hwq AL.out.2.2.2.2.1.size) HNQ.out AL.out.2.2.2.2.1)
              refine hK.out _ _ ?_ (fun hHeld75 => ?_)
              · (try dsimp only); exact z0
              clear hK K
              try simp only [Act.put, List.setIfInBounds_toArray]
              clear hHeld74
              refine wpAnyH_take (i := 15) (v := ?_) rfl (by kernel_rfl) (by kernel_rfl) (by kernel_rfl) (fun _ _ _ h => h) (Or.inl ⟨by rfl, ?_⟩) (by assumption) ?_
              rotate_left
              · intro w hSw; (try dsimp only at hSw); first | (go_simp; done) | (go_simp; with_reducible rfl) | with_reducible rfl | rfl
              try simp only [Act.put]
              refine wpAnyH_ready (rs := [16]) (by kernel_rfl) (by simp) ?_
              refine AllReadyH.cons (o := { dst := none, op := Op.store 26 (Operand.tmp 46) (Operand.tmp 45), type := 0, pos := "law.go:148", after := #[{ on := 15, ground := Ground.data }, { on := 14, ground := Ground.data }, { on := 14, ground := Ground.chain }, { on := 0, ground := Ground.phase }, { on := 1, ground := Ground.phase }, { on := 2, ground := Ground.phase }, { on := 3, ground := Ground.phase }, { on := 4, ground := Ground.phase }, { on := 5, ground := Ground.phase }, { on := 6, ground := Ground.phase }, { on := 7, ground := Ground.phase }, { on := 8, ground := Ground.phase }, { on := 9, ground := Ground.phase }, { on := 10, ground := Ground.phase }, { on := 11, ground := Ground.phase }, { on := 12, ground := Ground.phase }, { on := 13, ground := Ground.phase }, { on := 14, ground := Ground.phase }], guard := none }) rfl (fun K hK => ?_) ?_
              ·go_simp
               refine hK.out _ _ ?_ (fun hHeld76 => ?_)
               · (try dsimp only); exact (cell_far9 m8).trans z0
               clear hK K
               try simp only [Act.put, List.setIfInBounds_toArray]
               clear hHeld75
               refine wpAnyH_done (by kernel_rfl) ?_ _
               clear hHeld76
               have HP9 := hide (more_leaf HFQ.out HLJ2.out HR2.out HR5.out HBW.out HBB.out HBC.out HW3.out hwq HWE.out AL.out.2.2.2.2.1 (by omega) (by omega) (by omega) AL.out.1 AL.out.2.2.1 AL.out.2.1 hown9 hgrow9 hat9 (by omega) hd3 hl12)
               go_wp2_with fail
               go_meet
               case rel => exact ⟨rfl, g9, cap9, HP9.out⟩
              exact AllReadyH.nil
             exact AllReadyH.nil
            exact AllReadyH.nil
           exact AllReadyH.nil
          exact AllReadyH.nil
         exact AllReadyH.nil
        refine AllReadyH.cons (o := { dst := some 38, op := Op.makeSlice 22 (Operand.tmp 37) (Operand.tmp 37), type := 22, pos := "law.go:148", after := #[{ on := 6, ground := Ground.data }, { on := 6, ground := Ground.data }], guard := none }) rfl (fun K hK => ?_) ?_
        ·go_simp
         refine hK.out _ _ ?_ (fun hHeld77 => ?_)
         · (try dsimp only); exact cell_low9 (by repeat (first | exact Below.refl _ _ | refine Below.drew ?_ | (refine Below.alloc ?_ (by simp; try omega) _))) cD
         clear hK K
         try simp only [Act.put, List.setIfInBounds_toArray]
         clear hHeld0
         refine wpAnyH_ready (rs := [1, 3, 10]) (by kernel_rfl) (by simp) ?_
         refine AllReadyH.cons (o := { dst := some 32, op := Op.load 26 (Operand.tmp 31), type := 26, pos := "law.go:148", after := #[{ on := 0, ground := Ground.data }], guard := none }) rfl (fun K hK => ?_) ?_
         ·go_simp
          refine hK.out _ _ ?_ (fun hHeld78 => ?_)
          · (try dsimp only); exact cell_low9 (by repeat (first | exact Below.refl _ _ | refine Below.drew ?_ | (refine Below.alloc ?_ (by simp; try omega) _))) cD
          clear hK K
          try simp only [Act.put, List.setIfInBounds_toArray]
          clear hHeld77
          refine wpAnyH_ready (rs := [3, 10]) (by kernel_rfl) (by simp) ?_
          refine AllReadyH.cons (o := { dst := some 34, op := Op.buildSlice 43 1 #[(0, Operand.tmp 33)], type := 43, pos := "law.go:148", after := #[{ on := 2, ground := Ground.data }], guard := none }) rfl (fun K hK => ?_) ?_
          ·go_simp
           refine hK.out _ _ ?_ (fun hHeld79 => ?_)
           · (try dsimp only); exact cell_low9 (by repeat (first | exact Below.refl _ _ | refine Below.drew ?_ | (refine Below.alloc ?_ (by simp; try omega) _))) cD
           clear hK K
           try simp only [Act.put, List.setIfInBounds_toArray]
           clear hHeld78
           refine wpAnyH_take (i := 4) (oi := { dst := some 35, op := Op.build 45 #[(2, Operand.tmp 34)], type := 45, pos := "law.go:148", after := #[{ on := 3, ground := Ground.data }], guard := none }) (v := ?_) rfl (by kernel_rfl) (by kernel_rfl) (by kernel_rfl) (fun _ _ _ h => h) (Or.inl ⟨by rfl, ?_⟩) (by assumption) ?_
           rotate_left
           · intro w hSw; (try dsimp only at hSw); first | (go_simp; done) | (go_simp; with_reducible rfl) | with_reducible rfl | rfl
           try simp only [Act.put, List.setIfInBounds_toArray]
           refine wpAnyH_ready (rs := [10]) (by kernel_rfl) (by simp) ?_
           refine AllReadyH.cons (o := { dst := some 41, op := Op.makeSlice 22 (Operand.tmp 40) (Operand.tmp 40), type := 22, pos := "law.go:148", after := #[{ on := 9, ground := Ground.data }, { on := 9, ground := Ground.data }], guard := none }) rfl (fun K hK => ?_) ?_
           ·go_simp
            refine hK.out _ _ ?_ (fun hHeld80 => ?_)
            · (try dsimp only); exact cell_low9 (by repeat (first | exact Below.refl _ _ | refine Below.drew ?_ | (refine Below.alloc ?_ (by simp; try omega) _))) cD
            clear hK K
            try simp only [Act.put, List.setIfInBounds_toArray]
            clear hHeld79
            refine wpAnyH_take (i := 12) (oi := { dst := some 43, op := Op.build 67 #[(0, Operand.tmp 35), (1, Operand.tmp 38), (2, Operand.tmp 41), (4, Operand.tmp 42)], type := 67, pos := "law.go:148", after := #[{ on := 4, ground := Ground.data }, { on := 7, ground := Ground.data }, { on := 10, ground := Ground.data }, { on := 11, ground := Ground.data }], guard := none }) (v := ?_) rfl (by kernel_rfl) (by kernel_rfl) (by kernel_rfl) (fun _ _ _ h => h) (Or.inl ⟨by rfl, ?_⟩) (by assumption) ?_
            rotate_left
            · intro w hSw; (try dsimp only at hSw); first | (go_simp; done) | (go_simp; with_reducible rfl) | with_reducible rfl | rfl
            try simp only [Act.put, List.setIfInBounds_toArray]
            refine wpAnyH_ready (rs := [13]) (by kernel_rfl) (by simp) ?_
            refine AllReadyH.cons (o := { dst := some 44, op := Op.buildSlice 26 1 #[(0, Operand.tmp 43)], type := 26, pos := "law.go:148", after := #[{ on := 12, ground := Ground.data }], guard := none }) rfl (fun K hK => ?_) ?_
            ·go_simp
             refine hK.out _ _ ?_ (fun hHeld81 => ?_)
             · (try dsimp only); exact cell_low9 (by repeat (first | exact Below.refl _ _ | refine Below.drew ?_ | (refine Below.alloc ?_ (by simp; try omega) _))) cD
             clear hK K
             try simp only [Act.put, List.setIfInBounds_toArray]
             clear hHeld80
             refine wpAnyH_ready (rs := [14]) (by kernel_rfl) (by simp) ?_
             refine AllReadyH.cons (o := { dst := some 45, op := Op.call { callee := Callee.builtin Builtin.append, args := #[Operand.tmp 32, Operand.tmp 44], argTypes := #[26, 26] }, type := 26, pos := "law.go:148", after := #[{ on := 1, ground := Ground.data }, { on := 13, ground := Ground.data }], guard := none }) rfl (fun K hK => ?_) ?_
             ·(have AL := hide (al4 W (.cells (Array.replicate dd (.int .i64 0)) 3) (.cells #[.int .i64 0, .int .i64 9] 61) (.cells (Array.replicate dd (.int .i64 0)) 3) (.cells #[.int .i64 0, .int .i64 0, .slice (some ⟨W.heap.size + 1, 0, none⟩) 1 1, .slice (some ⟨W.heap.size, 0, none⟩) dd dd, .slice (some ⟨W.heap.size + 1 + 1, 0, none⟩) dd dd, .int .u64 0, .int .i64 pr] 67)); refine step_append_lies _ (by rfl) (.tmp 32) (.tmp 44) 26 (by rfl) (w2.heap.size + 2) 67 i0 _ 7 104 Try.underlying26 HI0.out HZ0.out HZ1.out HZ2.out (by rfl) (by decide) (.slice (some ⟨g0, 0, none⟩) lj gc) lj R.flatten (by rfl) (own_later HR1.out (Nat.le_refl _) AL.out.2.2.2.2.1) ⟨W.heap.size + 1 + 1 + 1, 0, none⟩ 1 1 [.int .i64 0, .int .i64 0, .slice (some ⟨W.heap.size + 1, 0, none⟩) 1 1, .slice (some ⟨W.heap.size, 0, none⟩) dd dd, .slice (some ⟨W.heap.size + 1 + 1, 0, none⟩) dd dd, .int .u64 0, .int .i64 pr] (by rfl) (by rfl) (news_of AL.out.2.2.2.1) (by simp [Value.oneCell']) (by decide) HLEN.out HBYT.out (HBAS.out AL.out.2.2.2.2.1.size) (W.heap.size + 1 + 1 + 1 + 1) AL.out.2.2.2.2.2 ?_; intro g9 cap9 w9 hown9 hgrow9 hat9 hlt9; have z0 := (grown_cell9 (b := w.heap.size) (o := 0) hgrow9 (Nat.lt_of_lt_of_le hwl AL.out.2.2.2.2.1.size) HNG.out).trans (cell_low9 AL.out.2.2.2.2.1 cD); have z6 := (grown_cell9 (b := w3.heap.size) (o := 6) hgrow9 (Nat.lt_of_lt_of_le hwq AL.out.2.2.2.2.1.size) HNQ.out).trans (cell_low9 AL.out.2.2.2.2.1 cJ); have z7 := frozen9 (o := 6) hgrow9 HWE.out (Nat.lt_of_lt_of_le hwq AL.out.2.2.2.2.1.size) HNQ.out AL.out.2.2.2.2.1)
              refine hK.out _ _ ?_ (fun hHeld82 => ?_)
              · (try dsimp only); exact z0
              clear hK K
              try simp only [Act.put, List.setIfInBounds_toArray]
              clear hHeld81
              refine wpAnyH_take (i := 15) (v := ?_) rfl (by kernel_rfl) (by kernel_rfl) (by kernel_rfl) (fun _ _ _ h => h) (Or.inl ⟨by rfl, ?_⟩) (by assumption) ?_
              rotate_left
              · intro w hSw; (try dsimp only at hSw); first | (go_simp; done) | (go_simp; with_reducible rfl) | with_reducible rfl | rfl
              try simp only [Act.put]
              refine wpAnyH_ready (rs := [16]) (by kernel_rfl) (by simp) ?_
              refine AllReadyH.cons (o := { dst := none, op := Op.store 26 (Operand.tmp 46) (Operand.tmp 45), type := 0, pos := "law.go:148", after := #[{ on := 15, ground := Ground.data }, { on := 14, ground := Ground.data }, { on := 14, ground := Ground.chain }, { on := 0, ground := Ground.phase }, { on := 1, ground := Ground.phase }, { on := 2, ground := Ground.phase }, { on := 3, ground := Ground.phase }, { on := 4, ground := Ground.phase }, { on := 5, ground := Ground.phase }, { on := 6, ground := Ground.phase }, { on := 7, ground := Ground.phase }, { on := 8, ground := Ground.phase }, { on := 9, ground := Ground.phase }, { on := 10, ground := Ground.phase }, { on := 11, ground := Ground.phase }, { on := 12, ground := Ground.phase }, { on := 13, ground := Ground.phase }, { on := 14, ground := Ground.phase }], guard := none }) rfl (fun K hK => ?_) ?_
              ·go_simp
               refine hK.out _ _ ?_ (fun hHeld83 => ?_)
               · (try dsimp only); exact (cell_far9 m8).trans z0
               clear hK K
               try simp only [Act.put, List.setIfInBounds_toArray]
               clear hHeld82
               refine wpAnyH_done (by kernel_rfl) ?_ _
               clear hHeld83
               have HP9 := hide (more_leaf HFQ.out HLJ2.out HR2.out HR5.out HBW.out HBB.out HBC.out HW3.out hwq HWE.out AL.out.2.2.2.2.1 (by omega) (by omega) (by omega) AL.out.2.1 AL.out.1 AL.out.2.2.1 hown9 hgrow9 hat9 (by omega) hd3 hl12)
               go_wp2_with fail
               go_meet
               case rel => exact ⟨rfl, g9, cap9, HP9.out⟩
              exact AllReadyH.nil
             exact AllReadyH.nil
            exact AllReadyH.nil
           exact AllReadyH.nil
          refine AllReadyH.cons (o := { dst := some 41, op := Op.makeSlice 22 (Operand.tmp 40) (Operand.tmp 40), type := 22, pos := "law.go:148", after := #[{ on := 9, ground := Ground.data }, { on := 9, ground := Ground.data }], guard := none }) rfl (fun K hK => ?_) ?_
          ·go_simp
           refine hK.out _ _ ?_ (fun hHeld84 => ?_)
           · (try dsimp only); exact cell_low9 (by repeat (first | exact Below.refl _ _ | refine Below.drew ?_ | (refine Below.alloc ?_ (by simp; try omega) _))) cD
           clear hK K
           try simp only [Act.put, List.setIfInBounds_toArray]
           clear hHeld78
           refine wpAnyH_ready (rs := [3]) (by kernel_rfl) (by simp) ?_
           refine AllReadyH.cons (o := { dst := some 34, op := Op.buildSlice 43 1 #[(0, Operand.tmp 33)], type := 43, pos := "law.go:148", after := #[{ on := 2, ground := Ground.data }], guard := none }) rfl (fun K hK => ?_) ?_
           ·go_simp
            refine hK.out _ _ ?_ (fun hHeld85 => ?_)
            · (try dsimp only); exact cell_low9 (by repeat (first | exact Below.refl _ _ | refine Below.drew ?_ | (refine Below.alloc ?_ (by simp; try omega) _))) cD
            clear hK K
            try simp only [Act.put, List.setIfInBounds_toArray]
            clear hHeld84
            refine wpAnyH_take (i := 4) (oi := { dst := some 35, op := Op.build 45 #[(2, Operand.tmp 34)], type := 45, pos := "law.go:148", after := #[{ on := 3, ground := Ground.data }], guard := none }) (v := ?_) rfl (by kernel_rfl) (by kernel_rfl) (by kernel_rfl) (fun _ _ _ h => h) (Or.inl ⟨by rfl, ?_⟩) (by assumption) ?_
            rotate_left
            · intro w hSw; (try dsimp only at hSw); first | (go_simp; done) | (go_simp; with_reducible rfl) | with_reducible rfl | rfl
            try simp only [Act.put, List.setIfInBounds_toArray]
            refine wpAnyH_take (i := 12) (oi := { dst := some 43, op := Op.build 67 #[(0, Operand.tmp 35), (1, Operand.tmp 38), (2, Operand.tmp 41), (4, Operand.tmp 42)], type := 67, pos := "law.go:148", after := #[{ on := 4, ground := Ground.data }, { on := 7, ground := Ground.data }, { on := 10, ground := Ground.data }, { on := 11, ground := Ground.data }], guard := none }) (v := ?_) rfl (by kernel_rfl) (by kernel_rfl) (by kernel_rfl) (fun _ _ _ h => h) (Or.inl ⟨by rfl, ?_⟩) (by assumption) ?_
            rotate_left
            · intro w hSw; (try dsimp only at hSw); first | (go_simp; done) | (go_simp; with_reducible rfl) | with_reducible rfl | rfl
            try simp only [Act.put, List.setIfInBounds_toArray]
            refine wpAnyH_ready (rs := [13]) (by kernel_rfl) (by simp) ?_
            refine AllReadyH.cons (o := { dst := some 44, op := Op.buildSlice 26 1 #[(0, Operand.tmp 43)], type := 26, pos := "law.go:148", after := #[{ on := 12, ground := Ground.data }], guard := none }) rfl (fun K hK => ?_) ?_
            ·go_simp
             refine hK.out _ _ ?_ (fun hHeld86 => ?_)
             · (try dsimp only); exact cell_low9 (by repeat (first | exact Below.refl _ _ | refine Below.drew ?_ | (refine Below.alloc ?_ (by simp; try omega) _))) cD
             clear hK K
             try simp only [Act.put, List.setIfInBounds_toArray]
             clear hHeld85
             refine wpAnyH_ready (rs := [14]) (by kernel_rfl) (by simp) ?_
             refine AllReadyH.cons (o := { dst := some 45, op := Op.call { callee := Callee.builtin Builtin.append, args := #[Operand.tmp 32, Operand.tmp 44], argTypes := #[26, 26] }, type := 26, pos := "law.go:148", after := #[{ on := 1, ground := Ground.data }, { on := 13, ground := Ground.data }], guard := none }) rfl (fun K hK => ?_) ?_
             ·(have AL := hide (al4 W (.cells (Array.replicate dd (.int .i64 0)) 3) (.cells (Array.replicate dd (.int .i64 0)) 3) (.cells #[.int .i64 0, .int .i64 9] 61) (.cells #[.int .i64 0, .int .i64 0, .slice (some ⟨W.heap.size + 1 + 1, 0, none⟩) 1 1, .slice (some ⟨W.heap.size, 0, none⟩) dd dd, .slice (some ⟨W.heap.size + 1, 0, none⟩) dd dd, .int .u64 0, .int .i64 pr] 67)); refine step_append_lies _ (by rfl) (.tmp 32) (.tmp 44) 26 (by rfl) (w2.heap.size + 2) 67 i0 _ 7 104 Try.underlying26 HI0.out HZ0.out HZ1.out HZ2.out (by rfl) (by decide) (.slice (some ⟨g0, 0, none⟩) lj gc) lj R.flatten (by rfl) (own_later HR1.out (Nat.le_refl _) AL.out.2.2.2.2.1) ⟨W.heap.size + 1 + 1 + 1, 0, none⟩ 1 1 [.int .i64 0, .int .i64 0, .slice (some ⟨W.heap.size + 1 + 1, 0, none⟩) 1 1, .slice (some ⟨W.heap.size, 0, none⟩) dd dd, .slice (some ⟨W.heap.size + 1, 0, none⟩) dd dd, .int .u64 0, .int .i64 pr] (by rfl) (by rfl) (news_of AL.out.2.2.2.1) (by simp [Value.oneCell']) (by decide) HLEN.out HBYT.out (HBAS.out AL.out.2.2.2.2.1.size) (W.heap.size + 1 + 1 + 1 + 1) AL.out.2.2.2.2.2 ?_; intro g9 cap9 w9 hown9 hgrow9 hat9 hlt9; have z0 := (grown_cell9 (b := w.heap.size) (o := 0) hgrow9 (Nat.lt_of_lt_of_le hwl AL.out.2.2.2.2.1.size) HNG.out).trans (cell_low9 AL.out.2.2.2.2.1 cD); have z6 := (grown_cell9 (b := w3.heap.size) (o := 6) hgrow9 (Nat.lt_of_lt_of_le hwq AL.out.2.2.2.2.1.size) HNQ.out).trans (cell_low9 AL.out.2.2.2.2.1 cJ); have z7 := frozen9 (o := 6) hgrow9 HWE.out (Nat.lt_of_lt_of_le hwq AL.out.2.2.2.2.1.size) HNQ.out AL.out.2.2.2.2.1)
              refine hK.out _ _ ?_ (fun hHeld87 => ?_)
              · (try dsimp only); exact z0
              clear hK K
              try simp only [Act.put, List.setIfInBounds_toArray]
              clear hHeld86
              refine wpAnyH_take (i := 15) (v := ?_) rfl (by kernel_rfl) (by kernel_rfl) (by kernel_rfl) (fun _ _ _ h => h) (Or.inl ⟨by rfl, ?_⟩) (by assumption) ?_
              rotate_left
              · intro w hSw; (try dsimp only at hSw); first | (go_simp; done) | (go_simp; with_reducible rfl) | with_reducible rfl | rfl
              try simp only [Act.put]
              refine wpAnyH_ready (rs := [16]) (by kernel_rfl) (by simp) ?_
              refine AllReadyH.cons (o := { dst := none, op := Op.store 26 (Operand.tmp 46) (Operand.tmp 45), type := 0, pos := "law.go:148", after := #[{ on := 15, ground := Ground.data }, { on := 14, ground := Ground.data }, { on := 14, ground := Ground.chain }, { on := 0, ground := Ground.phase }, { on := 1, ground := Ground.phase }, { on := 2, ground := Ground.phase }, { on := 3, ground := Ground.phase }, { on := 4, ground := Ground.phase }, { on := 5, ground := Ground.phase }, { on := 6, ground := Ground.phase }, { on := 7, ground := Ground.phase }, { on := 8, ground := Ground.phase }, { on := 9, ground := Ground.phase }, { on := 10, ground := Ground.phase }, { on := 11, ground := Ground.phase }, { on := 12, ground := Ground.phase }, { on := 13, ground := Ground.phase }, { on := 14, ground := Ground.phase }], guard := none }) rfl (fun K hK => ?_) ?_
              ·go_simp
               refine hK.out _ _ ?_ (fun hHeld88 => ?_)
               · (try dsimp only); exact (cell_far9 m8).trans z0
               clear hK K
               try simp only [Act.put, List.setIfInBounds_toArray]
               clear hHeld87
               refine wpAnyH_done (by kernel_rfl) ?_ _
               clear hHeld88
               have HP9 := hide (more_leaf HFQ.out HLJ2.out HR2.out HR5.out HBW.out HBB.out HBC.out HW3.out hwq HWE.out AL.out.2.2.2.2.1 (by omega) (by omega) (by omega) AL.out.2.2.1 AL.out.1 AL.out.2.1 hown9 hgrow9 hat9 (by omega) hd3 hl12)
               go_wp2_with fail
               go_meet
               case rel => exact ⟨rfl, g9, cap9, HP9.out⟩
              exact AllReadyH.nil
             exact AllReadyH.nil
            exact AllReadyH.nil
           exact AllReadyH.nil
          exact AllReadyH.nil
         refine AllReadyH.cons (o := { dst := some 34, op := Op.buildSlice 43 1 #[(0, Operand.tmp 33)], type := 43, pos := "law.go:148", after := #[{ on := 2, ground := Ground.data }], guard := none }) rfl (fun K hK => ?_) ?_
         ·go_simp
          refine hK.out _ _ ?_ (fun hHeld89 => ?_)
          · (try dsimp only); exact cell_low9 (by repeat (first | exact Below.refl _ _ | refine Below.drew ?_ | (refine Below.alloc ?_ (by simp; try omega) _))) cD
          clear hK K
          try simp only [Act.put, List.setIfInBounds_toArray]
          clear hHeld77
          refine wpAnyH_take (i := 4) (oi := { dst := some 35, op := Op.build 45 #[(2, Operand.tmp 34)], type := 45, pos := "law.go:148", after := #[{ on := 3, ground := Ground.data }], guard := none }) (v := ?_) rfl (by kernel_rfl) (by kernel_rfl) (by kernel_rfl) (fun _ _ _ h => h) (Or.inl ⟨by rfl, ?_⟩) (by assumption) ?_
          rotate_left
          · intro w hSw; (try dsimp only at hSw); first | (go_simp; done) | (go_simp; with_reducible rfl) | with_reducible rfl | rfl
          try simp only [Act.put, List.setIfInBounds_toArray]
          refine wpAnyH_ready (rs := [1, 10]) (by kernel_rfl) (by simp) ?_
          refine AllReadyH.cons (o := { dst := some 32, op := Op.load 26 (Operand.tmp 31), type := 26, pos := "law.go:148", after := #[{ on := 0, ground := Ground.data }], guard := none }) rfl (fun K hK => ?_) ?_
          ·go_simp
           refine hK.out _ _ ?_ (fun hHeld90 => ?_)
           · (try dsimp only); exact cell_low9 (by repeat (first | exact Below.refl _ _ | refine Below.drew ?_ | (refine Below.alloc ?_ (by simp; try omega) _))) cD
           clear hK K
           try simp only [Act.put, List.setIfInBounds_toArray]
           clear hHeld89
           refine wpAnyH_ready (rs := [10]) (by kernel_rfl) (by simp) ?_
           refine AllReadyH.cons (o := { dst := some 41, op := Op.makeSlice 22 (Operand.tmp 40) (Operand.tmp 40), type := 22, pos := "law.go:148", after := #[{ on := 9, ground := Ground.data }, { on := 9, ground := Ground.data }], guard := none }) rfl (fun K hK => ?_) ?_
           ·go_simp
            refine hK.out _ _ ?_ (fun hHeld91 => ?_)
            · (try dsimp only); exact cell_low9 (by repeat (first | exact Below.refl _ _ | refine Below.drew ?_ | (refine Below.alloc ?_ (by simp; try omega) _))) cD
            clear hK K
            try simp only [Act.put, List.setIfInBounds_toArray]
            clear hHeld90
            refine wpAnyH_take (i := 12) (oi := { dst := some 43, op := Op.build 67 #[(0, Operand.tmp 35), (1, Operand.tmp 38), (2, Operand.tmp 41), (4, Operand.tmp 42)], type := 67, pos := "law.go:148", after := #[{ on := 4, ground := Ground.data }, { on := 7, ground := Ground.data }, { on := 10, ground := Ground.data }, { on := 11, ground := Ground.data }], guard := none }) (v := ?_) rfl (by kernel_rfl) (by kernel_rfl) (by kernel_rfl) (fun _ _ _ h => h) (Or.inl ⟨by rfl, ?_⟩) (by assumption) ?_
            rotate_left
            · intro w hSw; (try dsimp only at hSw); first | (go_simp; done) | (go_simp; with_reducible rfl) | with_reducible rfl | rfl
            try simp only [Act.put, List.setIfInBounds_toArray]
            refine wpAnyH_ready (rs := [13]) (by kernel_rfl) (by simp) ?_
            refine AllReadyH.cons (o := { dst := some 44, op := Op.buildSlice 26 1 #[(0, Operand.tmp 43)], type := 26, pos := "law.go:148", after := #[{ on := 12, ground := Ground.data }], guard := none }) rfl (fun K hK => ?_) ?_
            ·go_simp
             refine hK.out _ _ ?_ (fun hHeld92 => ?_)
             · (try dsimp only); exact cell_low9 (by repeat (first | exact Below.refl _ _ | refine Below.drew ?_ | (refine Below.alloc ?_ (by simp; try omega) _))) cD
             clear hK K
             try simp only [Act.put, List.setIfInBounds_toArray]
             clear hHeld91
             refine wpAnyH_ready (rs := [14]) (by kernel_rfl) (by simp) ?_
             refine AllReadyH.cons (o := { dst := some 45, op := Op.call { callee := Callee.builtin Builtin.append, args := #[Operand.tmp 32, Operand.tmp 44], argTypes := #[26, 26] }, type := 26, pos := "law.go:148", after := #[{ on := 1, ground := Ground.data }, { on := 13, ground := Ground.data }], guard := none }) rfl (fun K hK => ?_) ?_
             ·(have AL := hide (al4 W (.cells (Array.replicate dd (.int .i64 0)) 3) (.cells #[.int .i64 0, .int .i64 9] 61) (.cells (Array.replicate dd (.int .i64 0)) 3) (.cells #[.int .i64 0, .int .i64 0, .slice (some ⟨W.heap.size + 1, 0, none⟩) 1 1, .slice (some ⟨W.heap.size, 0, none⟩) dd dd, .slice (some ⟨W.heap.size + 1 + 1, 0, none⟩) dd dd, .int .u64 0, .int .i64 pr] 67)); refine step_append_lies _ (by rfl) (.tmp 32) (.tmp 44) 26 (by rfl) (w2.heap.size + 2) 67 i0 _ 7 104 Try.underlying26 HI0.out HZ0.out HZ1.out HZ2.out (by rfl) (by decide) (.slice (some ⟨g0, 0, none⟩) lj gc) lj R.flatten (by rfl) (own_later HR1.out (Nat.le_refl _) AL.out.2.2.2.2.1) ⟨W.heap.size + 1 + 1 + 1, 0, none⟩ 1 1 [.int .i64 0, .int .i64 0, .slice (some ⟨W.heap.size + 1, 0, none⟩) 1 1, .slice (some ⟨W.heap.size, 0, none⟩) dd dd, .slice (some ⟨W.heap.size + 1 + 1, 0, none⟩) dd dd, .int .u64 0, .int .i64 pr] (by rfl) (by rfl) (news_of AL.out.2.2.2.1) (by simp [Value.oneCell']) (by decide) HLEN.out HBYT.out (HBAS.out AL.out.2.2.2.2.1.size) (W.heap.size + 1 + 1 + 1 + 1) AL.out.2.2.2.2.2 ?_; intro g9 cap9 w9 hown9 hgrow9 hat9 hlt9; have z0 := (grown_cell9 (b := w.heap.size) (o := 0) hgrow9 (Nat.lt_of_lt_of_le hwl AL.out.2.2.2.2.1.size) HNG.out).trans (cell_low9 AL.out.2.2.2.2.1 cD); have z6 := (grown_cell9 (b := w3.heap.size) (o := 6) hgrow9 (Nat.lt_of_lt_of_le hwq AL.out.2.2.2.2.1.size) HNQ.out).trans (cell_low9 AL.out.2.2.2.2.1 cJ); have z7 := frozen9 (o := 6) hgrow9 HWE.out (Nat.lt_of_lt_of_le hwq AL.out.2.2.2.2.1.size) HNQ.out AL.out.2.2.2.2.1)
              refine hK.out _ _ ?_ (fun hHeld93 => ?_)
              · (try dsimp only); exact z0
              clear hK K
              try simp only [Act.put, List.setIfInBounds_toArray]
              clear hHeld92
              refine wpAnyH_take (i := 15) (v := ?_) rfl (by kernel_rfl) (by kernel_rfl) (by kernel_rfl) (fun _ _ _ h => h) (Or.inl ⟨by rfl, ?_⟩) (by assumption) ?_
              rotate_left
              · intro w hSw; (try dsimp only at hSw); first | (go_simp; done) | (go_simp; with_reducible rfl) | with_reducible rfl | rfl
              try simp only [Act.put]
              refine wpAnyH_ready (rs := [16]) (by kernel_rfl) (by simp) ?_
              refine AllReadyH.cons (o := { dst := none, op := Op.store 26 (Operand.tmp 46) (Operand.tmp 45), type := 0, pos := "law.go:148", after := #[{ on := 15, ground := Ground.data }, { on := 14, ground := Ground.data }, { on := 14, ground := Ground.chain }, { on := 0, ground := Ground.phase }, { on := 1, ground := Ground.phase }, { on := 2, ground := Ground.phase }, { on := 3, ground := Ground.phase }, { on := 4, ground := Ground.phase }, { on := 5, ground := Ground.phase }, { on := 6, ground := Ground.phase }, { on := 7, ground := Ground.phase }, { on := 8, ground := Ground.phase }, { on := 9, ground := Ground.phase }, { on := 10, ground := Ground.phase }, { on := 11, ground := Ground.phase }, { on := 12, ground := Ground.phase }, { on := 13, ground := Ground.phase }, { on := 14, ground := Ground.phase }], guard := none }) rfl (fun K hK => ?_) ?_
              ·go_simp
               refine hK.out _ _ ?_ (fun hHeld94 => ?_)
               · (try dsimp only); exact (cell_far9 m8).trans z0
               clear hK K
               try simp only [Act.put, List.setIfInBounds_toArray]
               clear hHeld93
               refine wpAnyH_done (by kernel_rfl) ?_ _
               clear hHeld94
               have HP9 := hide (more_leaf HFQ.out HLJ2.out HR2.out HR5.out HBW.out HBB.out HBC.out HW3.out hwq HWE.out AL.out.2.2.2.2.1 (by omega) (by omega) (by omega) AL.out.2.1 AL.out.1 AL.out.2.2.1 hown9 hgrow9 hat9 (by omega) hd3 hl12)
               go_wp2_with fail
               go_meet
               case rel => exact ⟨rfl, g9, cap9, HP9.out⟩
              exact AllReadyH.nil
             exact AllReadyH.nil
            exact AllReadyH.nil
           exact AllReadyH.nil
          refine AllReadyH.cons (o := { dst := some 41, op := Op.makeSlice 22 (Operand.tmp 40) (Operand.tmp 40), type := 22, pos := "law.go:148", after := #[{ on := 9, ground := Ground.data }, { on := 9, ground := Ground.data }], guard := none }) rfl (fun K hK => ?_) ?_
          ·go_simp
           refine hK.out _ _ ?_ (fun hHeld95 => ?_)
           · (try dsimp only); exact cell_low9 (by repeat (first | exact Below.refl _ _ | refine Below.drew ?_ | (refine Below.alloc ?_ (by simp; try omega) _))) cD
           clear hK K
           try simp only [Act.put, List.setIfInBounds_toArray]
           clear hHeld89
           refine wpAnyH_take (i := 12) (oi := { dst := some 43, op := Op.build 67 #[(0, Operand.tmp 35), (1, Operand.tmp 38), (2, Operand.tmp 41), (4, Operand.tmp 42)], type := 67, pos := "law.go:148", after := #[{ on := 4, ground := Ground.data }, { on := 7, ground := Ground.data }, { on := 10, ground := Ground.data }, { on := 11, ground := Ground.data }], guard := none }) (v := ?_) rfl (by kernel_rfl) (by kernel_rfl) (by kernel_rfl) (fun _ _ _ h => h) (Or.inl ⟨by rfl, ?_⟩) (by assumption) ?_
           rotate_left
           · intro w hSw; (try dsimp only at hSw); first | (go_simp; done) | (go_simp; with_reducible rfl) | with_reducible rfl | rfl
           try simp only [Act.put, List.setIfInBounds_toArray]
           refine wpAnyH_ready (rs := [1, 13]) (by kernel_rfl) (by simp) ?_
           refine AllReadyH.cons (o := { dst := some 32, op := Op.load 26 (Operand.tmp 31), type := 26, pos := "law.go:148", after := #[{ on := 0, ground := Ground.data }], guard := none }) rfl (fun K hK => ?_) ?_
           ·(have c6x : (((W.alloc (.cells (Array.replicate dd (.int .i64 0)) 3)).alloc (.cells #[.int .i64 0, .int .i64 9] 61)).alloc (.cells (Array.replicate dd (.int .i64 0)) 3)).cell? ⟨w3.heap.size, 6, none⟩ = some (.slice (some ⟨g0, 0, none⟩) lj gc) := cell_low9 (by repeat (first | exact Below.refl _ _ | refine Below.drew ?_ | (refine Below.alloc ?_ (by simp; try omega) _))) cJ; go_simp; clear c6x)
            refine hK.out _ _ ?_ (fun hHeld96 => ?_)
            · (try dsimp only); exact cell_low9 (by repeat (first | exact Below.refl _ _ | refine Below.drew ?_ | (refine Below.alloc ?_ (by simp; try omega) _))) cD
            clear hK K
            try simp only [Act.put, List.setIfInBounds_toArray]
            clear hHeld95
            refine wpAnyH_ready (rs := [13]) (by kernel_rfl) (by simp) ?_
            refine AllReadyH.cons (o := { dst := some 44, op := Op.buildSlice 26 1 #[(0, Operand.tmp 43)], type := 26, pos := "law.go:148", after := #[{ on := 12, ground := Ground.data }], guard := none }) rfl (fun K hK => ?_) ?_
            ·go_simp
             refine hK.out _ _ ?_ (fun hHeld97 => ?_)
             · (try dsimp only); exact cell_low9 (by repeat (first | exact Below.refl _ _ | refine Below.drew ?_ | (refine Below.alloc ?_ (by simp; try omega) _))) cD
             clear hK K
             try simp only [Act.put, List.setIfInBounds_toArray]
             clear hHeld96
             refine wpAnyH_ready (rs := [14]) (by kernel_rfl) (by simp) ?_
             refine AllReadyH.cons (o := { dst := some 45, op := Op.call { callee := Callee.builtin Builtin.append, args := #[Operand.tmp 32, Operand.tmp 44], argTypes := #[26, 26] }, type := 26, pos := "law.go:148", after := #[{ on := 1, ground := Ground.data }, { on := 13, ground := Ground.data }], guard := none }) rfl (fun K hK => ?_) ?_
             ·(have AL := hide (al4 W (.cells (Array.replicate dd (.int .i64 0)) 3) (.cells #[.int .i64 0, .int .i64 9] 61) (.cells (Array.replicate dd (.int .i64 0)) 3) (.cells #[.int .i64 0, .int .i64 0, .slice (some ⟨W.heap.size + 1, 0, none⟩) 1 1, .slice (some ⟨W.heap.size, 0, none⟩) dd dd, .slice (some ⟨W.heap.size + 1 + 1, 0, none⟩) dd dd, .int .u64 0, .int .i64 pr] 67)); refine step_append_lies _ (by rfl) (.tmp 32) (.tmp 44) 26 (by rfl) (w2.heap.size + 2) 67 i0 _ 7 104 Try.underlying26 HI0.out HZ0.out HZ1.out HZ2.out (by rfl) (by decide) (.slice (some ⟨g0, 0, none⟩) lj gc) lj R.flatten (by rfl) (own_later HR1.out (Nat.le_refl _) AL.out.2.2.2.2.1) ⟨W.heap.size + 1 + 1 + 1, 0, none⟩ 1 1 [.int .i64 0, .int .i64 0, .slice (some ⟨W.heap.size + 1, 0, none⟩) 1 1, .slice (some ⟨W.heap.size, 0, none⟩) dd dd, .slice (some ⟨W.heap.size + 1 + 1, 0, none⟩) dd dd, .int .u64 0, .int .i64 pr] (by rfl) (by rfl) (news_of AL.out.2.2.2.1) (by simp [Value.oneCell']) (by decide) HLEN.out HBYT.out (HBAS.out AL.out.2.2.2.2.1.size) (W.heap.size + 1 + 1 + 1 + 1) AL.out.2.2.2.2.2 ?_; intro g9 cap9 w9 hown9 hgrow9 hat9 hlt9; have z0 := (grown_cell9 (b := w.heap.size) (o := 0) hgrow9 (Nat.lt_of_lt_of_le hwl AL.out.2.2.2.2.1.size) HNG.out).trans (cell_low9 AL.out.2.2.2.2.1 cD); have z6 := (grown_cell9 (b := w3.heap.size) (o := 6) hgrow9 (Nat.lt_of_lt_of_le hwq AL.out.2.2.2.2.1.size) HNQ.out).trans (cell_low9 AL.out.2.2.2.2.1 cJ); have z7 := frozen9 (o := 6) hgrow9 HWE.out (Nat.lt_of_lt_of_le hwq AL.out.2.2.2.2.1.size) HNQ.out AL.out.2.2.2.2.1)
              refine hK.out _ _ ?_ (fun hHeld98 => ?_)
              · (try dsimp only); exact z0
              clear hK K
              try simp only [Act.put, List.setIfInBounds_toArray]
              clear hHeld97
              refine wpAnyH_take (i := 15) (v := ?_) rfl (by kernel_rfl) (by kernel_rfl) (by kernel_rfl) (fun _ _ _ h => h) (Or.inl ⟨by rfl, ?_⟩) (by assumption) ?_
              rotate_left
              · intro w hSw; (try dsimp only at hSw); first | (go_simp; done) | (go_simp; with_reducible rfl) | with_reducible rfl | rfl
              try simp only [Act.put]
              refine wpAnyH_ready (rs := [16]) (by kernel_rfl) (by simp) ?_
              refine AllReadyH.cons (o := { dst := none, op := Op.store 26 (Operand.tmp 46) (Operand.tmp 45), type := 0, pos := "law.go:148", after := #[{ on := 15, ground := Ground.data }, { on := 14, ground := Ground.data }, { on := 14, ground := Ground.chain }, { on := 0, ground := Ground.phase }, { on := 1, ground := Ground.phase }, { on := 2, ground := Ground.phase }, { on := 3, ground := Ground.phase }, { on := 4, ground := Ground.phase }, { on := 5, ground := Ground.phase }, { on := 6, ground := Ground.phase }, { on := 7, ground := Ground.phase }, { on := 8, ground := Ground.phase }, { on := 9, ground := Ground.phase }, { on := 10, ground := Ground.phase }, { on := 11, ground := Ground.phase }, { on := 12, ground := Ground.phase }, { on := 13, ground := Ground.phase }, { on := 14, ground := Ground.phase }], guard := none }) rfl (fun K hK => ?_) ?_
              ·go_simp
               refine hK.out _ _ ?_ (fun hHeld99 => ?_)
               · (try dsimp only); exact (cell_far9 m8).trans z0
               clear hK K
               try simp only [Act.put, List.setIfInBounds_toArray]
               clear hHeld98
               refine wpAnyH_done (by kernel_rfl) ?_ _
               clear hHeld99
               have HP9 := hide (more_leaf HFQ.out HLJ2.out HR2.out HR5.out HBW.out HBB.out HBC.out HW3.out hwq HWE.out AL.out.2.2.2.2.1 (by omega) (by omega) (by omega) AL.out.2.1 AL.out.1 AL.out.2.2.1 hown9 hgrow9 hat9 (by omega) hd3 hl12)
               go_wp2_with fail
               go_meet
               case rel => exact ⟨rfl, g9, cap9, HP9.out⟩
              exact AllReadyH.nil
             exact AllReadyH.nil
            exact AllReadyH.nil
           refine AllReadyH.cons (o := { dst := some 44, op := Op.buildSlice 26 1 #[(0, Operand.tmp 43)], type := 26, pos := "law.go:148", after := #[{ on := 12, ground := Ground.data }], guard := none }) rfl (fun K hK => ?_) ?_
           ·go_simp
            refine hK.out _ _ ?_ (fun hHeld100 => ?_)
            · (try dsimp only); exact cell_low9 (by repeat (first | exact Below.refl _ _ | refine Below.drew ?_ | (refine Below.alloc ?_ (by simp; try omega) _))) cD
            clear hK K
            try simp only [Act.put, List.setIfInBounds_toArray]
            clear hHeld95
            refine wpAnyH_ready (rs := [1]) (by kernel_rfl) (by simp) ?_
            refine AllReadyH.cons (o := { dst := some 32, op := Op.load 26 (Operand.tmp 31), type := 26, pos := "law.go:148", after := #[{ on := 0, ground := Ground.data }], guard := none }) rfl (fun K hK => ?_) ?_
            ·(have c6x : ((((W.alloc (.cells (Array.replicate dd (.int .i64 0)) 3)).alloc (.cells #[.int .i64 0, .int .i64 9] 61)).alloc (.cells (Array.replicate dd (.int .i64 0)) 3)).alloc (.cells #[.int .i64 0, .int .i64 0, .slice (some ⟨W.heap.size + 1, 0, none⟩) 1 1, .slice (some ⟨W.heap.size, 0, none⟩) dd dd, .slice (some ⟨W.heap.size + 1 + 1, 0, none⟩) dd dd, .int .u64 0, .int .i64 pr] 67)).cell? ⟨w3.heap.size, 6, none⟩ = some (.slice (some ⟨g0, 0, none⟩) lj gc) := cell_low9 (by repeat (first | exact Below.refl _ _ | refine Below.drew ?_ | (refine Below.alloc ?_ (by simp; try omega) _))) cJ; go_simp; clear c6x)
             refine hK.out _ _ ?_ (fun hHeld101 => ?_)
             · (try dsimp only); exact cell_low9 (by repeat (first | exact Below.refl _ _ | refine Below.drew ?_ | (refine Below.alloc ?_ (by simp; try omega) _))) cD
             clear hK K
             try simp only [Act.put, List.setIfInBounds_toArray]
             clear hHeld100
             refine wpAnyH_ready (rs := [14]) (by kernel_rfl) (by simp) ?_
             refine AllReadyH.cons (o := { dst := some 45, op := Op.call { callee := Callee.builtin Builtin.append, args := #[Operand.tmp 32, Operand.tmp 44], argTypes := #[26, 26] }, type := 26, pos := "law.go:148", after := #[{ on := 1, ground := Ground.data }, { on := 13, ground := Ground.data }], guard := none }) rfl (fun K hK => ?_) ?_
             ·(have AL := hide (al4 W (.cells (Array.replicate dd (.int .i64 0)) 3) (.cells #[.int .i64 0, .int .i64 9] 61) (.cells (Array.replicate dd (.int .i64 0)) 3) (.cells #[.int .i64 0, .int .i64 0, .slice (some ⟨W.heap.size + 1, 0, none⟩) 1 1, .slice (some ⟨W.heap.size, 0, none⟩) dd dd, .slice (some ⟨W.heap.size + 1 + 1, 0, none⟩) dd dd, .int .u64 0, .int .i64 pr] 67)); refine step_append_lies _ (by rfl) (.tmp 32) (.tmp 44) 26 (by rfl) (w2.heap.size + 2) 67 i0 _ 7 104 Try.underlying26 HI0.out HZ0.out HZ1.out HZ2.out (by rfl) (by decide) (.slice (some ⟨g0, 0, none⟩) lj gc) lj R.flatten (by rfl) (own_later HR1.out (Nat.le_refl _) AL.out.2.2.2.2.1) ⟨W.heap.size + 1 + 1 + 1, 0, none⟩ 1 1 [.int .i64 0, .int .i64 0, .slice (some ⟨W.heap.size + 1, 0, none⟩) 1 1, .slice (some ⟨W.heap.size, 0, none⟩) dd dd, .slice (some ⟨W.heap.size + 1 + 1, 0, none⟩) dd dd, .int .u64 0, .int .i64 pr] (by rfl) (by rfl) (news_of AL.out.2.2.2.1) (by simp [Value.oneCell']) (by decide) HLEN.out HBYT.out (HBAS.out AL.out.2.2.2.2.1.size) (W.heap.size + 1 + 1 + 1 + 1) AL.out.2.2.2.2.2 ?_; intro g9 cap9 w9 hown9 hgrow9 hat9 hlt9; have z0 := (grown_cell9 (b := w.heap.size) (o := 0) hgrow9 (Nat.lt_of_lt_of_le hwl AL.out.2.2.2.2.1.size) HNG.out).trans (cell_low9 AL.out.2.2.2.2.1 cD); have z6 := (grown_cell9 (b := w3.heap.size) (o := 6) hgrow9 (Nat.lt_of_lt_of_le hwq AL.out.2.2.2.2.1.size) HNQ.out).trans (cell_low9 AL.out.2.2.2.2.1 cJ); have z7 := frozen9 (o := 6) hgrow9 HWE.out (Nat.lt_of_lt_of_le hwq AL.out.2.2.2.2.1.size) HNQ.out AL.out.2.2.2.2.1)
              refine hK.out _ _ ?_ (fun hHeld102 => ?_)
              · (try dsimp only); exact z0
              clear hK K
              try simp only [Act.put, List.setIfInBounds_toArray]
              clear hHeld101
              refine wpAnyH_take (i := 15) (v := ?_) rfl (by kernel_rfl) (by kernel_rfl) (by kernel_rfl) (fun _ _ _ h => h) (Or.inl ⟨by rfl, ?_⟩) (by assumption) ?_
              rotate_left
              · intro w hSw; (try dsimp only at hSw); first | (go_simp; done) | (go_simp; with_reducible rfl) | with_reducible rfl | rfl
              try simp only [Act.put]
              refine wpAnyH_ready (rs := [16]) (by kernel_rfl) (by simp) ?_
              refine AllReadyH.cons (o := { dst := none, op := Op.store 26 (Operand.tmp 46) (Operand.tmp 45), type := 0, pos := "law.go:148", after := #[{ on := 15, ground := Ground.data }, { on := 14, ground := Ground.data }, { on := 14, ground := Ground.chain }, { on := 0, ground := Ground.phase }, { on := 1, ground := Ground.phase }, { on := 2, ground := Ground.phase }, { on := 3, ground := Ground.phase }, { on := 4, ground := Ground.phase }, { on := 5, ground := Ground.phase }, { on := 6, ground := Ground.phase }, { on := 7, ground := Ground.phase }, { on := 8, ground := Ground.phase }, { on := 9, ground := Ground.phase }, { on := 10, ground := Ground.phase }, { on := 11, ground := Ground.phase }, { on := 12, ground := Ground.phase }, { on := 13, ground := Ground.phase }, { on := 14, ground := Ground.phase }], guard := none }) rfl (fun K hK => ?_) ?_
              ·go_simp
               refine hK.out _ _ ?_ (fun hHeld103 => ?_)
               · (try dsimp only); exact (cell_far9 m8).trans z0
               clear hK K
               try simp only [Act.put, List.setIfInBounds_toArray]
               clear hHeld102
               refine wpAnyH_done (by kernel_rfl) ?_ _
               clear hHeld103
               have HP9 := hide (more_leaf HFQ.out HLJ2.out HR2.out HR5.out HBW.out HBB.out HBC.out HW3.out hwq HWE.out AL.out.2.2.2.2.1 (by omega) (by omega) (by omega) AL.out.2.1 AL.out.1 AL.out.2.2.1 hown9 hgrow9 hat9 (by omega) hd3 hl12)
               go_wp2_with fail
               go_meet
               case rel => exact ⟨rfl, g9, cap9, HP9.out⟩
              exact AllReadyH.nil
             exact AllReadyH.nil
            exact AllReadyH.nil
           exact AllReadyH.nil
          exact AllReadyH.nil
         refine AllReadyH.cons (o := { dst := some 41, op := Op.makeSlice 22 (Operand.tmp 40) (Operand.tmp 40), type := 22, pos := "law.go:148", after := #[{ on := 9, ground := Ground.data }, { on := 9, ground := Ground.data }], guard := none }) rfl (fun K hK => ?_) ?_
         ·go_simp
          refine hK.out _ _ ?_ (fun hHeld104 => ?_)
          · (try dsimp only); exact cell_low9 (by repeat (first | exact Below.refl _ _ | refine Below.drew ?_ | (refine Below.alloc ?_ (by simp; try omega) _))) cD
          clear hK K
          try simp only [Act.put, List.setIfInBounds_toArray]
          clear hHeld77
          refine wpAnyH_ready (rs := [1, 3]) (by kernel_rfl) (by simp) ?_
          refine AllReadyH.cons (o := { dst := some 32, op := Op.load 26 (Operand.tmp 31), type := 26, pos := "law.go:148", after := #[{ on := 0, ground := Ground.data }], guard := none }) rfl (fun K hK => ?_) ?_
          ·go_simp
           refine hK.out _ _ ?_ (fun hHeld105 => ?_)
           · (try dsimp only); exact cell_low9 (by repeat (first | exact Below.refl _ _ | refine Below.drew ?_ | (refine Below.alloc ?_ (by simp; try omega) _))) cD
           clear hK K
           try simp only [Act.put, List.setIfInBounds_toArray]
           clear hHeld104
           refine wpAnyH_ready (rs := [3]) (by kernel_rfl) (by simp) ?_
           refine AllReadyH.cons (o := { dst := some 34, op := Op.buildSlice 43 1 #[(0, Operand.tmp 33)], type := 43, pos := "law.go:148", after := #[{ on := 2, ground := Ground.data }], guard := none }) rfl (fun K hK => ?_) ?_
           ·go_simp
            refine hK.out _ _ ?_ (fun hHeld106 => ?_)
            · (try dsimp only); exact cell_low9 (by repeat (first | exact Below.refl _ _ | refine Below.drew ?_ | (refine Below.alloc ?_ (by simp; try omega) _))) cD
            clear hK K
            try simp only [Act.put, List.setIfInBounds_toArray]
            clear hHeld105
            refine wpAnyH_take (i := 4) (oi := { dst := some 35, op := Op.build 45 #[(2, Operand.tmp 34)], type := 45, pos := "law.go:148", after := #[{ on := 3, ground := Ground.data }], guard := none }) (v := ?_) rfl (by kernel_rfl) (by kernel_rfl) (by kernel_rfl) (fun _ _ _ h => h) (Or.inl ⟨by rfl, ?_⟩) (by assumption) ?_
            rotate_left
            · intro w hSw; (try dsimp only at hSw); first | (go_simp; done) | (go_simp; with_reducible rfl) | with_reducible rfl | rfl
            try simp only [Act.put, List.setIfInBounds_toArray]
            refine wpAnyH_take (i := 12) (oi := { dst := some 43, op := Op.build 67 #[(0, Operand.tmp 35), (1, Operand.tmp 38), (2, Operand.tmp 41), (4, Operand.tmp 42)], type := 67, pos := "law.go:148", after := #[{ on := 4, ground := Ground.data }, { on := 7, ground := Ground.data }, { on := 10, ground := Ground.data }, { on := 11, ground := Ground.data }], guard := none }) (v := ?_) rfl (by kernel_rfl) (by kernel_rfl) (by kernel_rfl) (fun _ _ _ h => h) (Or.inl ⟨by rfl, ?_⟩) (by assumption) ?_
            rotate_left
            · intro w hSw; (try dsimp only at hSw); first | (go_simp; done) | (go_simp; with_reducible rfl) | with_reducible rfl | rfl
            try simp only [Act.put, List.setIfInBounds_toArray]
            refine wpAnyH_ready (rs := [13]) (by kernel_rfl) (by simp) ?_
            refine AllReadyH.cons (o := { dst := some 44, op := Op.buildSlice 26 1 #[(0, Operand.tmp 43)], type := 26, pos := "law.go:148", after := #[{ on := 12, ground := Ground.data }], guard := none }) rfl (fun K hK => ?_) ?_
            ·go_simp
             refine hK.out _ _ ?_ (fun hHeld107 => ?_)
             · (try dsimp only); exact cell_low9 (by repeat (first | exact Below.refl _ _ | refine Below.drew ?_ | (refine Below.alloc ?_ (by simp; try omega) _))) cD
             clear hK K
             try simp only [Act.put, List.setIfInBounds_toArray]
             clear hHeld106
             refine wpAnyH_ready (rs := [14]) (by kernel_rfl) (by simp) ?_
             refine AllReadyH.cons (o := { dst := some 45, op := Op.call { callee := Callee.builtin Builtin.append, args := #[Operand.tmp 32, Operand.tmp 44], argTypes := #[26, 26] }, type := 26, pos := "law.go:148", after := #[{ on := 1, ground := Ground.data }, { on := 13, ground := Ground.data }], guard := none }) rfl (fun K hK => ?_) ?_
             ·(have AL := hide (al4 W (.cells (Array.replicate dd (.int .i64 0)) 3) (.cells (Array.replicate dd (.int .i64 0)) 3) (.cells #[.int .i64 0, .int .i64 9] 61) (.cells #[.int .i64 0, .int .i64 0, .slice (some ⟨W.heap.size + 1 + 1, 0, none⟩) 1 1, .slice (some ⟨W.heap.size, 0, none⟩) dd dd, .slice (some ⟨W.heap.size + 1, 0, none⟩) dd dd, .int .u64 0, .int .i64 pr] 67)); refine step_append_lies _ (by rfl) (.tmp 32) (.tmp 44) 26 (by rfl) (w2.heap.size + 2) 67 i0 _ 7 104 Try.underlying26 HI0.out HZ0.out HZ1.out HZ2.out (by rfl) (by decide) (.slice (some ⟨g0, 0, none⟩) lj gc) lj R.flatten (by rfl) (own_later HR1.out (Nat.le_refl _) AL.out.2.2.2.2.1) ⟨W.heap.size + 1 + 1 + 1, 0, none⟩ 1 1 [.int .i64 0, .int .i64 0, .slice (some ⟨W.heap.size + 1 + 1, 0, none⟩) 1 1, .slice (some ⟨W.heap.size, 0, none⟩) dd dd, .slice (some ⟨W.heap.size + 1, 0, none⟩) dd dd, .int .u64 0, .int .i64 pr] (by rfl) (by rfl) (news_of AL.out.2.2.2.1) (by simp [Value.oneCell']) (by decide) HLEN.out HBYT.out (HBAS.out AL.out.2.2.2.2.1.size) (W.heap.size + 1 + 1 + 1 + 1) AL.out.2.2.2.2.2 ?_; intro g9 cap9 w9 hown9 hgrow9 hat9 hlt9; have z0 := (grown_cell9 (b := w.heap.size) (o := 0) hgrow9 (Nat.lt_of_lt_of_le hwl AL.out.2.2.2.2.1.size) HNG.out).trans (cell_low9 AL.out.2.2.2.2.1 cD); have z6 := (grown_cell9 (b := w3.heap.size) (o := 6) hgrow9 (Nat.lt_of_lt_of_le hwq AL.out.2.2.2.2.1.size) HNQ.out).trans (cell_low9 AL.out.2.2.2.2.1 cJ); have z7 := frozen9 (o := 6) hgrow9 HWE.out (Nat.lt_of_lt_of_le hwq AL.out.2.2.2.2.1.size) HNQ.out AL.out.2.2.2.2.1)
              refine hK.out _ _ ?_ (fun hHeld108 => ?_)
              · (try dsimp only); exact z0
              clear hK K
              try simp only [Act.put, List.setIfInBounds_toArray]
              clear hHeld107
              refine wpAnyH_take (i := 15) (v := ?_) rfl (by kernel_rfl) (by kernel_rfl) (by kernel_rfl) (fun _ _ _ h => h) (Or.inl ⟨by rfl, ?_⟩) (by assumption) ?_
              rotate_left
              · intro w hSw; (try dsimp only at hSw); first | (go_simp; done) | (go_simp; with_reducible rfl) | with_reducible rfl | rfl
              try simp only [Act.put]
              refine wpAnyH_ready (rs := [16]) (by kernel_rfl) (by simp) ?_
              refine AllReadyH.cons (o := { dst := none, op := Op.store 26 (Operand.tmp 46) (Operand.tmp 45), type := 0, pos := "law.go:148", after := #[{ on := 15, ground := Ground.data }, { on := 14, ground := Ground.data }, { on := 14, ground := Ground.chain }, { on := 0, ground := Ground.phase }, { on := 1, ground := Ground.phase }, { on := 2, ground := Ground.phase }, { on := 3, ground := Ground.phase }, { on := 4, ground := Ground.phase }, { on := 5, ground := Ground.phase }, { on := 6, ground := Ground.phase }, { on := 7, ground := Ground.phase }, { on := 8, ground := Ground.phase }, { on := 9, ground := Ground.phase }, { on := 10, ground := Ground.phase }, { on := 11, ground := Ground.phase }, { on := 12, ground := Ground.phase }, { on := 13, ground := Ground.phase }, { on := 14, ground := Ground.phase }], guard := none }) rfl (fun K hK => ?_) ?_
              ·go_simp
               refine hK.out _ _ ?_ (fun hHeld109 => ?_)
               · (try dsimp only); exact (cell_far9 m8).trans z0
               clear hK K
               try simp only [Act.put, List.setIfInBounds_toArray]
               clear hHeld108
               refine wpAnyH_done (by kernel_rfl) ?_ _
               clear hHeld109
               have HP9 := hide (more_leaf HFQ.out HLJ2.out HR2.out HR5.out HBW.out HBB.out HBC.out HW3.out hwq HWE.out AL.out.2.2.2.2.1 (by omega) (by omega) (by omega) AL.out.2.2.1 AL.out.1 AL.out.2.1 hown9 hgrow9 hat9 (by omega) hd3 hl12)
               go_wp2_with fail
               go_meet
               case rel => exact ⟨rfl, g9, cap9, HP9.out⟩
              exact AllReadyH.nil
             exact AllReadyH.nil
            exact AllReadyH.nil
           exact AllReadyH.nil
          refine AllReadyH.cons (o := { dst := some 34, op := Op.buildSlice 43 1 #[(0, Operand.tmp 33)], type := 43, pos := "law.go:148", after := #[{ on := 2, ground := Ground.data }], guard := none }) rfl (fun K hK => ?_) ?_
          ·go_simp
           refine hK.out _ _ ?_ (fun hHeld110 => ?_)
           · (try dsimp only); exact cell_low9 (by repeat (first | exact Below.refl _ _ | refine Below.drew ?_ | (refine Below.alloc ?_ (by simp; try omega) _))) cD
           clear hK K
           try simp only [Act.put, List.setIfInBounds_toArray]
           clear hHeld104
           refine wpAnyH_take (i := 4) (oi := { dst := some 35, op := Op.build 45 #[(2, Operand.tmp 34)], type := 45, pos := "law.go:148", after := #[{ on := 3, ground := Ground.data }], guard := none }) (v := ?_) rfl (by kernel_rfl) (by kernel_rfl) (by kernel_rfl) (fun _ _ _ h => h) (Or.inl ⟨by rfl, ?_⟩) (by assumption) ?_
           rotate_left
           · intro w hSw; (try dsimp only at hSw); first | (go_simp; done) | (go_simp; with_reducible rfl) | with_reducible rfl | rfl
           try simp only [Act.put, List.setIfInBounds_toArray]
           refine wpAnyH_take (i := 12) (oi := { dst := some 43, op := Op.build 67 #[(0, Operand.tmp 35), (1, Operand.tmp 38), (2, Operand.tmp 41), (4, Operand.tmp 42)], type := 67, pos := "law.go:148", after := #[{ on := 4, ground := Ground.data }, { on := 7, ground := Ground.data }, { on := 10, ground := Ground.data }, { on := 11, ground := Ground.data }], guard := none }) (v := ?_) rfl (by kernel_rfl) (by kernel_rfl) (by kernel_rfl) (fun _ _ _ h => h) (Or.inl ⟨by rfl, ?_⟩) (by assumption) ?_
           rotate_left
           · intro w hSw; (try dsimp only at hSw); first | (go_simp; done) | (go_simp; with_reducible rfl) | with_reducible rfl | rfl
           try simp only [Act.put, List.setIfInBounds_toArray]
           refine wpAnyH_ready (rs := [1, 13]) (by kernel_rfl) (by simp) ?_
           refine AllReadyH.cons (o := { dst := some 32, op := Op.load 26 (Operand.tmp 31), type := 26, pos := "law.go:148", after := #[{ on := 0, ground := Ground.data }], guard := none }) rfl (fun K hK => ?_) ?_
           ·(have c6x : (((W.alloc (.cells (Array.replicate dd (.int .i64 0)) 3)).alloc (.cells (Array.replicate dd (.int .i64 0)) 3)).alloc (.cells #[.int .i64 0, .int .i64 9] 61)).cell? ⟨w3.heap.size, 6, none⟩ = some (.slice (some ⟨g0, 0, none⟩) lj gc) := cell_low9 (by repeat (first | exact Below.refl _ _ | refine Below.drew ?_ | (refine Below.alloc ?_ (by simp; try omega) _))) cJ; go_simp; clear c6x)
            refine hK.out _ _ ?_ (fun hHeld111 => ?_)
            · (try dsimp only); exact cell_low9 (by repeat (first | exact Below.refl _ _ | refine Below.drew ?_ | (refine Below.alloc ?_ (by simp; try omega) _))) cD
            clear hK K
            try simp only [Act.put, List.setIfInBounds_toArray]
            clear hHeld110
            refine wpAnyH_ready (rs := [13]) (by kernel_rfl) (by simp) ?_
            refine AllReadyH.cons (o := { dst := some 44, op := Op.buildSlice 26 1 #[(0, Operand.tmp 43)], type := 26, pos := "law.go:148", after := #[{ on := 12, ground := Ground.data }], guard := none }) rfl (fun K hK => ?_) ?_
            ·go_simp
             refine hK.out _ _ ?_ (fun hHeld112 => ?_)
             · (try dsimp only); exact cell_low9 (by repeat (first | exact Below.refl _ _ | refine Below.drew ?_ | (refine Below.alloc ?_ (by simp; try omega) _))) cD
             clear hK K
             try simp only [Act.put, List.setIfInBounds_toArray]
             clear hHeld111
             refine wpAnyH_ready (rs := [14]) (by kernel_rfl) (by simp) ?_
             refine AllReadyH.cons (o := { dst := some 45, op := Op.call { callee := Callee.builtin Builtin.append, args := #[Operand.tmp 32, Operand.tmp 44], argTypes := #[26, 26] }, type := 26, pos := "law.go:148", after := #[{ on := 1, ground := Ground.data }, { on := 13, ground := Ground.data }], guard := none }) rfl (fun K hK => ?_) ?_
             ·(have AL := hide (al4 W (.cells (Array.replicate dd (.int .i64 0)) 3) (.cells (Array.replicate dd (.int .i64 0)) 3) (.cells #[.int .i64 0, .int .i64 9] 61) (.cells #[.int .i64 0, .int .i64 0, .slice (some ⟨W.heap.size + 1 + 1, 0, none⟩) 1 1, .slice (some ⟨W.heap.size, 0, none⟩) dd dd, .slice (some ⟨W.heap.size + 1, 0, none⟩) dd dd, .int .u64 0, .int .i64 pr] 67)); refine step_append_lies _ (by rfl) (.tmp 32) (.tmp 44) 26 (by rfl) (w2.heap.size + 2) 67 i0 _ 7 104 Try.underlying26 HI0.out HZ0.out HZ1.out HZ2.out (by rfl) (by decide) (.slice (some ⟨g0, 0, none⟩) lj gc) lj R.flatten (by rfl) (own_later HR1.out (Nat.le_refl _) AL.out.2.2.2.2.1) ⟨W.heap.size + 1 + 1 + 1, 0, none⟩ 1 1 [.int .i64 0, .int .i64 0, .slice (some ⟨W.heap.size + 1 + 1, 0, none⟩) 1 1, .slice (some ⟨W.heap.size, 0, none⟩) dd dd, .slice (some ⟨W.heap.size + 1, 0, none⟩) dd dd, .int .u64 0, .int .i64 pr] (by rfl) (by rfl) (news_of AL.out.2.2.2.1) (by simp [Value.oneCell']) (by decide) HLEN.out HBYT.out (HBAS.out AL.out.2.2.2.2.1.size) (W.heap.size + 1 + 1 + 1 + 1) AL.out.2.2.2.2.2 ?_; intro g9 cap9 w9 hown9 hgrow9 hat9 hlt9; have z0 := (grown_cell9 (b := w.heap.size) (o := 0) hgrow9 (Nat.lt_of_lt_of_le hwl AL.out.2.2.2.2.1.size) HNG.out).trans (cell_low9 AL.out.2.2.2.2.1 cD); have z6 := (grown_cell9 (b := w3.heap.size) (o := 6) hgrow9 (Nat.lt_of_lt_of_le hwq AL.out.2.2.2.2.1.size) HNQ.out).trans (cell_low9 AL.out.2.2.2.2.1 cJ); have z7 := frozen9 (o := 6) hgrow9 HWE.out (Nat.lt_of_lt_of_le hwq AL.out.2.2.2.2.1.size) HNQ.out AL.out.2.2.2.2.1)
              refine hK.out _ _ ?_ (fun hHeld113 => ?_)
              · (try dsimp only); exact z0
              clear hK K
              try simp only [Act.put, List.setIfInBounds_toArray]
              clear hHeld112
              refine wpAnyH_take (i := 15) (v := ?_) rfl (by kernel_rfl) (by kernel_rfl) (by kernel_rfl) (fun _ _ _ h => h) (Or.inl ⟨by rfl, ?_⟩) (by assumption) ?_
              rotate_left
              · intro w hSw; (try dsimp only at hSw); first | (go_simp; done) | (go_simp; with_reducible rfl) | with_reducible rfl | rfl
              try simp only [Act.put]
              refine wpAnyH_ready (rs := [16]) (by kernel_rfl) (by simp) ?_
              refine AllReadyH.cons (o := { dst := none, op := Op.store 26 (Operand.tmp 46) (Operand.tmp 45), type := 0, pos := "law.go:148", after := #[{ on := 15, ground := Ground.data }, { on := 14, ground := Ground.data }, { on := 14, ground := Ground.chain }, { on := 0, ground := Ground.phase }, { on := 1, ground := Ground.phase }, { on := 2, ground := Ground.phase }, { on := 3, ground := Ground.phase }, { on := 4, ground := Ground.phase }, { on := 5, ground := Ground.phase }, { on := 6, ground := Ground.phase }, { on := 7, ground := Ground.phase }, { on := 8, ground := Ground.phase }, { on := 9, ground := Ground.phase }, { on := 10, ground := Ground.phase }, { on := 11, ground := Ground.phase }, { on := 12, ground := Ground.phase }, { on := 13, ground := Ground.phase }, { on := 14, ground := Ground.phase }], guard := none }) rfl (fun K hK => ?_) ?_
              ·go_simp
               refine hK.out _ _ ?_ (fun hHeld114 => ?_)
               · (try dsimp only); exact (cell_far9 m8).trans z0
               clear hK K
               try simp only [Act.put, List.setIfInBounds_toArray]
               clear hHeld113
               refine wpAnyH_done (by kernel_rfl) ?_ _
               clear hHeld114
               have HP9 := hide (more_leaf HFQ.out HLJ2.out HR2.out HR5.out HBW.out HBB.out HBC.out HW3.out hwq HWE.out AL.out.2.2.2.2.1 (by omega) (by omega) (by omega) AL.out.2.2.1 AL.out.1 AL.out.2.1 hown9 hgrow9 hat9 (by omega) hd3 hl12)
               go_wp2_with fail
               go_meet
               case rel => exact ⟨rfl, g9, cap9, HP9.out⟩
              exact AllReadyH.nil
             exact AllReadyH.nil
            exact AllReadyH.nil
           refine AllReadyH.cons (o := { dst := some 44, op := Op.buildSlice 26 1 #[(0, Operand.tmp 43)], type := 26, pos := "law.go:148", after := #[{ on := 12, ground := Ground.data }], guard := none }) rfl (fun K hK => ?_) ?_
           ·go_simp
            refine hK.out _ _ ?_ (fun hHeld115 => ?_)
            · (try dsimp only); exact cell_low9 (by repeat (first | exact Below.refl _ _ | refine Below.drew ?_ | (refine Below.alloc ?_ (by simp; try omega) _))) cD
            clear hK K
            try simp only [Act.put, List.setIfInBounds_toArray]
            clear hHeld110
            refine wpAnyH_ready (rs := [1]) (by kernel_rfl) (by simp) ?_
            refine AllReadyH.cons (o := { dst := some 32, op := Op.load 26 (Operand.tmp 31), type := 26, pos := "law.go:148", after := #[{ on := 0, ground := Ground.data }], guard := none }) rfl (fun K hK => ?_) ?_
            ·(have c6x : ((((W.alloc (.cells (Array.replicate dd (.int .i64 0)) 3)).alloc (.cells (Array.replicate dd (.int .i64 0)) 3)).alloc (.cells #[.int .i64 0, .int .i64 9] 61)).alloc (.cells #[.int .i64 0, .int .i64 0, .slice (some ⟨W.heap.size + 1 + 1, 0, none⟩) 1 1, .slice (some ⟨W.heap.size, 0, none⟩) dd dd, .slice (some ⟨W.heap.size + 1, 0, none⟩) dd dd, .int .u64 0, .int .i64 pr] 67)).cell? ⟨w3.heap.size, 6, none⟩ = some (.slice (some ⟨g0, 0, none⟩) lj gc) := cell_low9 (by repeat (first | exact Below.refl _ _ | refine Below.drew ?_ | (refine Below.alloc ?_ (by simp; try omega) _))) cJ; go_simp; clear c6x)
             refine hK.out _ _ ?_ (fun hHeld116 => ?_)
             · (try dsimp only); exact cell_low9 (by repeat (first | exact Below.refl _ _ | refine Below.drew ?_ | (refine Below.alloc ?_ (by simp; try omega) _))) cD
             clear hK K
             try simp only [Act.put, List.setIfInBounds_toArray]
             clear hHeld115
             refine wpAnyH_ready (rs := [14]) (by kernel_rfl) (by simp) ?_
             refine AllReadyH.cons (o := { dst := some 45, op := Op.call { callee := Callee.builtin Builtin.append, args := #[Operand.tmp 32, Operand.tmp 44], argTypes := #[26, 26] }, type := 26, pos := "law.go:148", after := #[{ on := 1, ground := Ground.data }, { on := 13, ground := Ground.data }], guard := none }) rfl (fun K hK => ?_) ?_
             ·(have AL := hide (al4 W (.cells (Array.replicate dd (.int .i64 0)) 3) (.cells (Array.replicate dd (.int .i64 0)) 3) (.cells #[.int .i64 0, .int .i64 9] 61) (.cells #[.int .i64 0, .int .i64 0, .slice (some ⟨W.heap.size + 1 + 1, 0, none⟩) 1 1, .slice (some ⟨W.heap.size, 0, none⟩) dd dd, .slice (some ⟨W.heap.size + 1, 0, none⟩) dd dd, .int .u64 0, .int .i64 pr] 67)); refine step_append_lies _ (by rfl) (.tmp 32) (.tmp 44) 26 (by rfl) (w2.heap.size + 2) 67 i0 _ 7 104 Try.underlying26 HI0.out HZ0.out HZ1.out HZ2.out (by rfl) (by decide) (.slice (some ⟨g0, 0, none⟩) lj gc) lj R.flatten (by rfl) (own_later HR1.out (Nat.le_refl _) AL.out.2.2.2.2.1) ⟨W.heap.size + 1 + 1 + 1, 0, none⟩ 1 1 [.int .i64 0, .int .i64 0, .slice (some ⟨W.heap.size + 1 + 1, 0, none⟩) 1 1, .slice (some ⟨W.heap.size, 0, none⟩) dd dd, .slice (some ⟨W.heap.size + 1, 0, none⟩) dd dd, .int .u64 0, .int .i64 pr] (by rfl) (by rfl) (news_of AL.out.2.2.2.1) (by simp [Value.oneCell']) (by decide) HLEN.out HBYT.out (HBAS.out AL.out.2.2.2.2.1.size) (W.heap.size + 1 + 1 + 1 + 1) AL.out.2.2.2.2.2 ?_; intro g9 cap9 w9 hown9 hgrow9 hat9 hlt9; have z0 := (grown_cell9 (b := w.heap.size) (o := 0) hgrow9 (Nat.lt_of_lt_of_le hwl AL.out.2.2.2.2.1.size) HNG.out).trans (cell_low9 AL.out.2.2.2.2.1 cD); have z6 := (grown_cell9 (b := w3.heap.size) (o := 6) hgrow9 (Nat.lt_of_lt_of_le hwq AL.out.2.2.2.2.1.size) HNQ.out).trans (cell_low9 AL.out.2.2.2.2.1 cJ); have z7 := frozen9 (o := 6) hgrow9 HWE.out (Nat.lt_of_lt_of_le hwq AL.out.2.2.2.2.1.size) HNQ.out AL.out.2.2.2.2.1)
              refine hK.out _ _ ?_ (fun hHeld117 => ?_)
              · (try dsimp only); exact z0
              clear hK K
              try simp only [Act.put, List.setIfInBounds_toArray]
              clear hHeld116
              refine wpAnyH_take (i := 15) (v := ?_) rfl (by kernel_rfl) (by kernel_rfl) (by kernel_rfl) (fun _ _ _ h => h) (Or.inl ⟨by rfl, ?_⟩) (by assumption) ?_
              rotate_left
              · intro w hSw; (try dsimp only at hSw); first | (go_simp; done) | (go_simp; with_reducible rfl) | with_reducible rfl | rfl
              try simp only [Act.put]
              refine wpAnyH_ready (rs := [16]) (by kernel_rfl) (by simp) ?_
              refine AllReadyH.cons (o := { dst := none, op := Op.store 26 (Operand.tmp 46) (Operand.tmp 45), type := 0, pos := "law.go:148", after := #[{ on := 15, ground := Ground.data }, { on := 14, ground := Ground.data }, { on := 14, ground := Ground.chain }, { on := 0, ground := Ground.phase }, { on := 1, ground := Ground.phase }, { on := 2, ground := Ground.phase }, { on := 3, ground := Ground.phase }, { on := 4, ground := Ground.phase }, { on := 5, ground := Ground.phase }, { on := 6, ground := Ground.phase }, { on := 7, ground := Ground.phase }, { on := 8, ground := Ground.phase }, { on := 9, ground := Ground.phase }, { on := 10, ground := Ground.phase }, { on := 11, ground := Ground.phase }, { on := 12, ground := Ground.phase }, { on := 13, ground := Ground.phase }, { on := 14, ground := Ground.phase }], guard := none }) rfl (fun K hK => ?_) ?_
              ·go_simp
               refine hK.out _ _ ?_ (fun hHeld118 => ?_)
               · (try dsimp only); exact (cell_far9 m8).trans z0
               clear hK K
               try simp only [Act.put, List.setIfInBounds_toArray]
               clear hHeld117
               refine wpAnyH_done (by kernel_rfl) ?_ _
               clear hHeld118
               have HP9 := hide (more_leaf HFQ.out HLJ2.out HR2.out HR5.out HBW.out HBB.out HBC.out HW3.out hwq HWE.out AL.out.2.2.2.2.1 (by omega) (by omega) (by omega) AL.out.2.2.1 AL.out.1 AL.out.2.1 hown9 hgrow9 hat9 (by omega) hd3 hl12)
               go_wp2_with fail
               go_meet
               case rel => exact ⟨rfl, g9, cap9, HP9.out⟩
              exact AllReadyH.nil
             exact AllReadyH.nil
            exact AllReadyH.nil
           exact AllReadyH.nil
          exact AllReadyH.nil
         exact AllReadyH.nil
        refine AllReadyH.cons (o := { dst := some 41, op := Op.makeSlice 22 (Operand.tmp 40) (Operand.tmp 40), type := 22, pos := "law.go:148", after := #[{ on := 9, ground := Ground.data }, { on := 9, ground := Ground.data }], guard := none }) rfl (fun K hK => ?_) ?_
        ·go_simp
         refine hK.out _ _ ?_ (fun hHeld119 => ?_)
         · (try dsimp only); exact cell_low9 (by repeat (first | exact Below.refl _ _ | refine Below.drew ?_ | (refine Below.alloc ?_ (by simp; try omega) _))) cD
         clear hK K
         try simp only [Act.put, List.setIfInBounds_toArray]
         clear hHeld0
         refine wpAnyH_ready (rs := [1, 3, 7]) (by kernel_rfl) (by simp) ?_
         refine AllReadyH.cons (o := { dst := some 32, op := Op.load 26 (Operand.tmp 31), type := 26, pos := "law.go:148", after := #[{ on := 0, ground := Ground.data }], guard := none }) rfl (fun K hK => ?_) ?_
         ·go_simp
          refine hK.out _ _ ?_ (fun hHeld120 => ?_)
          · (try dsimp only); exact cell_low9 (by repeat (first | exact Below.refl _ _ | refine Below.drew ?_ | (refine Below.alloc ?_ (by simp; try omega) _))) cD
          clear hK K
          try simp only [Act.put, List.setIfInBounds_toArray]
          clear hHeld119
          refine wpAnyH_ready (rs := [3, 7]) (by kernel_rfl) (by simp) ?_
          refine AllReadyH.cons (o := { dst := some 34, op := Op.buildSlice 43 1 #[(0, Operand.tmp 33)], type := 43, pos := "law.go:148", after := #[{ on := 2, ground := Ground.data }], guard := none }) rfl (fun K hK => ?_) ?_
          ·go_simp
           refine hK.out _ _ ?_ (fun hHeld121 => ?_)
           · (try dsimp only); exact cell_low9 (by repeat (first | exact Below.refl _ _ | refine Below.drew ?_ | (refine Below.alloc ?_ (by simp; try omega) _))) cD
           clear hK K
           try simp only [Act.put, List.setIfInBounds_toArray]
           clear hHeld120
           refine wpAnyH_take (i := 4) (oi := { dst := some 35, op := Op.build 45 #[(2, Operand.tmp 34)], type := 45, pos := "law.go:148", after := #[{ on := 3, ground := Ground.data }], guard := none }) (v := ?_) rfl (by kernel_rfl) (by kernel_rfl) (by kernel_rfl) (fun _ _ _ h => h) (Or.inl ⟨by rfl, ?_⟩) (by assumption) ?_
           rotate_left
           · intro w hSw; (try dsimp only at hSw); first | (go_simp; done) | (go_simp; with_reducible rfl) | with_reducible rfl | rfl
           try simp only [Act.put, List.setIfInBounds_toArray]
           refine wpAnyH_ready (rs := [7]) (by kernel_rfl) (by simp) ?_
           refine AllReadyH.cons (o := { dst := some 38, op := Op.makeSlice 22 (Operand.tmp 37) (Operand.tmp 37), type := 22, pos := "law.go:148", after := #[{ on := 6, ground := Ground.data }, { on := 6, ground := Ground.data }], guard := none }) rfl (fun K hK => ?_) ?_
           ·go_simp
            refine hK.out _ _ ?_ (fun hHeld122 => ?_)
            · (try dsimp only); exact cell_low9 (by repeat (first | exact Below.refl _ _ | refine Below.drew ?_ | (refine Below.alloc ?_ (by simp; try omega) _))) cD
            clear hK K
            try simp only [Act.put, List.setIfInBounds_toArray]
            clear hHeld121
            refine wpAnyH_take (i := 12) (oi := { dst := some 43, op := Op.build 67 #[(0, Operand.tmp 35), (1, Operand.tmp 38), (2, Operand.tmp 41), (4, Operand.tmp 42)], type := 67, pos := "law.go:148", after := #[{ on := 4, ground := Ground.data }, { on := 7, ground := Ground.data }, { on := 10, ground := Ground.data }, { on := 11, ground := Ground.data }], guard := none }) (v := ?_) rfl (by kernel_rfl) (by kernel_rfl) (by kernel_rfl) (fun _ _ _ h => h) (Or.inl ⟨by rfl, ?_⟩) (by assumption) ?_
            rotate_left
            · intro w hSw; (try dsimp only at hSw); first | (go_simp; done) | (go_simp; with_reducible rfl) | with_reducible rfl | rfl
            try simp only [Act.put, List.setIfInBounds_toArray]
            refine wpAnyH_ready (rs := [13]) (by kernel_rfl) (by simp) ?_
            refine AllReadyH.cons (o := { dst := some 44, op := Op.buildSlice 26 1 #[(0, Operand.tmp 43)], type := 26, pos := "law.go:148", after := #[{ on := 12, ground := Ground.data }], guard := none }) rfl (fun K hK => ?_) ?_
            ·go_simp
             refine hK.out _ _ ?_ (fun hHeld123 => ?_)
             · (try dsimp only); exact cell_low9 (by repeat (first | exact Below.refl _ _ | refine Below.drew ?_ | (refine Below.alloc ?_ (by simp; try omega) _))) cD
             clear hK K
             try simp only [Act.put, List.setIfInBounds_toArray]
             clear hHeld122
             refine wpAnyH_ready (rs := [14]) (by kernel_rfl) (by simp) ?_
             refine AllReadyH.cons (o := { dst := some 45, op := Op.call { callee := Callee.builtin Builtin.append, args := #[Operand.tmp 32, Operand.tmp 44], argTypes := #[26, 26] }, type := 26, pos := "law.go:148", after := #[{ on := 1, ground := Ground.data }, { on := 13, ground := Ground.data }], guard := none }) rfl (fun K hK => ?_) ?_
             ·(have AL := hide (al4 W (.cells (Array.replicate dd (.int .i64 0)) 3) (.cells #[.int .i64 0, .int .i64 9] 61) (.cells (Array.replicate dd (.int .i64 0)) 3) (.cells #[.int .i64 0, .int .i64 0, .slice (some ⟨W.heap.size + 1, 0, none⟩) 1 1, .slice (some ⟨W.heap.size + 1 + 1, 0, none⟩) dd dd, .slice (some ⟨W.heap.size, 0, none⟩) dd dd, .int .u64 0, .int .i64 pr] 67)); refine step_append_lies _ (by rfl) (.tmp 32) (.tmp 44) 26 (by rfl) (w2.heap.size + 2) 67 i0 _ 7 104 Try.underlying26 HI0.out HZ0.out HZ1.out HZ2.out (by rfl) (by decide) (.slice (some ⟨g0, 0, none⟩) lj gc) lj R.flatten (by rfl) (own_later HR1.out (Nat.le_refl _) AL.out.2.2.2.2.1) ⟨W.heap.size + 1 + 1 + 1, 0, none⟩ 1 1 [.int .i64 0, .int .i64 0, .slice (some ⟨W.heap.size + 1, 0, none⟩) 1 1, .slice (some ⟨W.heap.size + 1 + 1, 0, none⟩) dd dd, .slice (some ⟨W.heap.size, 0, none⟩) dd dd, .int .u64 0, .int .i64 pr] (by rfl) (by rfl) (news_of AL.out.2.2.2.1) (by simp [Value.oneCell']) (by decide) HLEN.out HBYT.out (HBAS.out AL.out.2.2.2.2.1.size) (W.heap.size + 1 + 1 + 1 + 1) AL.out.2.2.2.2.2 ?_; intro g9 cap9 w9 hown9 hgrow9 hat9 hlt9; have z0 := (grown_cell9 (b := w.heap.size) (o := 0) hgrow9 (Nat.lt_of_lt_of_le hwl AL.out.2.2.2.2.1.size) HNG.out).trans (cell_low9 AL.out.2.2.2.2.1 cD); have z6 := (grown_cell9 (b := w3.heap.size) (o := 6) hgrow9 (Nat.lt_of_lt_of_le hwq AL.out.2.2.2.2.1.size) HNQ.out).trans (cell_low9 AL.out.2.2.2.2.1 cJ); have z7 := frozen9 (o := 6) hgrow9 HWE.out (Nat.lt_of_lt_of_le hwq AL.out.2.2.2.2.1.size) HNQ.out AL.out.2.2.2.2.1)
              refine hK.out _ _ ?_ (fun hHeld124 => ?_)
              · (try dsimp only); exact z0
              clear hK K
              try simp only [Act.put, List.setIfInBounds_toArray]
              clear hHeld123
              refine wpAnyH_take (i := 15) (v := ?_) rfl (by kernel_rfl) (by kernel_rfl) (by kernel_rfl) (fun _ _ _ h => h) (Or.inl ⟨by rfl, ?_⟩) (by assumption) ?_
              rotate_left
              · intro w hSw; (try dsimp only at hSw); first | (go_simp; done) | (go_simp; with_reducible rfl) | with_reducible rfl | rfl
              try simp only [Act.put]
              refine wpAnyH_ready (rs := [16]) (by kernel_rfl) (by simp) ?_
              refine AllReadyH.cons (o := { dst := none, op := Op.store 26 (Operand.tmp 46) (Operand.tmp 45), type := 0, pos := "law.go:148", after := #[{ on := 15, ground := Ground.data }, { on := 14, ground := Ground.data }, { on := 14, ground := Ground.chain }, { on := 0, ground := Ground.phase }, { on := 1, ground := Ground.phase }, { on := 2, ground := Ground.phase }, { on := 3, ground := Ground.phase }, { on := 4, ground := Ground.phase }, { on := 5, ground := Ground.phase }, { on := 6, ground := Ground.phase }, { on := 7, ground := Ground.phase }, { on := 8, ground := Ground.phase }, { on := 9, ground := Ground.phase }, { on := 10, ground := Ground.phase }, { on := 11, ground := Ground.phase }, { on := 12, ground := Ground.phase }, { on := 13, ground := Ground.phase }, { on := 14, ground := Ground.phase }], guard := none }) rfl (fun K hK => ?_) ?_
              ·go_simp
               refine hK.out _ _ ?_ (fun hHeld125 => ?_)
               · (try dsimp only); exact (cell_far9 m8).trans z0
               clear hK K
               try simp only [Act.put, List.setIfInBounds_toArray]
               clear hHeld124
               refine wpAnyH_done (by kernel_rfl) ?_ _
               clear hHeld125
               have HP9 := hide (more_leaf HFQ.out HLJ2.out HR2.out HR5.out HBW.out HBB.out HBC.out HW3.out hwq HWE.out AL.out.2.2.2.2.1 (by omega) (by omega) (by omega) AL.out.2.1 AL.out.2.2.1 AL.out.1 hown9 hgrow9 hat9 (by omega) hd3 hl12)
               go_wp2_with fail
               go_meet
               case rel => exact ⟨rfl, g9, cap9, HP9.out⟩
              exact AllReadyH.nil
             exact AllReadyH.nil
            exact AllReadyH.nil
           exact AllReadyH.nil
          refine AllReadyH.cons (o := { dst := some 38, op := Op.makeSlice 22 (Operand.tmp 37) (Operand.tmp 37), type := 22, pos := "law.go:148", after := #[{ on := 6, ground := Ground.data }, { on := 6, ground := Ground.data }], guard := none }) rfl (fun K hK => ?_) ?_
          ·go_simp
           refine hK.out _ _ ?_ (fun hHeld126 => ?_)
           · (try dsimp only); exact cell_low9 (by repeat (first | exact Below.refl _ _ | refine Below.drew ?_ | (refine Below.alloc ?_ (by simp; try omega) _))) cD
           clear hK K
           try simp only [Act.put, List.setIfInBounds_toArray]
           clear hHeld120
           refine wpAnyH_ready (rs := [3]) (by kernel_rfl) (by simp) ?_
           refine AllReadyH.cons (o := { dst := some 34, op := Op.buildSlice 43 1 #[(0, Operand.tmp 33)], type := 43, pos := "law.go:148", after := #[{ on := 2, ground := Ground.data }], guard := none }) rfl (fun K hK => ?_) ?_
           ·go_simp
            refine hK.out _ _ ?_ (fun hHeld127 => ?_)
            · (try dsimp only); exact cell_low9 (by repeat (first | exact Below.refl _ _ | refine Below.drew ?_ | (refine Below.alloc ?_ (by simp; try omega) _))) cD
            clear hK K
            try simp only [Act.put, List.setIfInBounds_toArray]
            clear hHeld126
            refine wpAnyH_take (i := 4) (oi := { dst := some 35, op := Op.build 45 #[(2, Operand.tmp 34)], type := 45, pos := "law.go:148", after := #[{ on := 3, ground := Ground.data }], guard := none }) (v := ?_) rfl (by kernel_rfl) (by kernel_rfl) (by kernel_rfl) (fun _ _ _ h => h) (Or.inl ⟨by rfl, ?_⟩) (by assumption) ?_
            rotate_left
            · intro w hSw; (try dsimp only at hSw); first | (go_simp; done) | (go_simp; with_reducible rfl) | with_reducible rfl | rfl
            try simp only [Act.put, List.setIfInBounds_toArray]
            refine wpAnyH_take (i := 12) (oi := { dst := some 43, op := Op.build 67 #[(0, Operand.tmp 35), (1, Operand.tmp 38), (2, Operand.tmp 41), (4, Operand.tmp 42)], type := 67, pos := "law.go:148", after := #[{ on := 4, ground := Ground.data }, { on := 7, ground := Ground.data }, { on := 10, ground := Ground.data }, { on := 11, ground := Ground.data }], guard := none }) (v := ?_) rfl (by kernel_rfl) (by kernel_rfl) (by kernel_rfl) (fun _ _ _ h => h) (Or.inl ⟨by rfl, ?_⟩) (by assumption) ?_
            rotate_left
            · intro w hSw; (try dsimp only at hSw); first | (go_simp; done) | (go_simp; with_reducible rfl) | with_reducible rfl | rfl
            try simp only [Act.put, List.setIfInBounds_toArray]
            refine wpAnyH_ready (rs := [13]) (by kernel_rfl) (by simp) ?_
            refine AllReadyH.cons (o := { dst := some 44, op := Op.buildSlice 26 1 #[(0, Operand.tmp 43)], type := 26, pos := "law.go:148", after := #[{ on := 12, ground := Ground.data }], guard := none }) rfl (fun K hK => ?_) ?_
            ·go_simp
             refine hK.out _ _ ?_ (fun hHeld128 => ?_)
             · (try dsimp only); exact cell_low9 (by repeat (first | exact Below.refl _ _ | refine Below.drew ?_ | (refine Below.alloc ?_ (by simp; try omega) _))) cD
             clear hK K
             try simp only [Act.put, List.setIfInBounds_toArray]
             clear hHeld127
             refine wpAnyH_ready (rs := [14]) (by kernel_rfl) (by simp) ?_
             refine AllReadyH.cons (o := { dst := some 45, op := Op.call { callee := Callee.builtin Builtin.append, args := #[Operand.tmp 32, Operand.tmp 44], argTypes := #[26, 26] }, type := 26, pos := "law.go:148", after := #[{ on := 1, ground := Ground.data }, { on := 13, ground := Ground.data }], guard := none }) rfl (fun K hK => ?_) ?_
             ·(have AL := hide (al4 W (.cells (Array.replicate dd (.int .i64 0)) 3) (.cells (Array.replicate dd (.int .i64 0)) 3) (.cells #[.int .i64 0, .int .i64 9] 61) (.cells #[.int .i64 0, .int .i64 0, .slice (some ⟨W.heap.size + 1 + 1, 0, none⟩) 1 1, .slice (some ⟨W.heap.size + 1, 0, none⟩) dd dd, .slice (some ⟨W.heap.size, 0, none⟩) dd dd, .int .u64 0, .int .i64 pr] 67)); refine step_append_lies _ (by rfl) (.tmp 32) (.tmp 44) 26 (by rfl) (w2.heap.size + 2) 67 i0 _ 7 104 Try.underlying26 HI0.out HZ0.out HZ1.out HZ2.out (by rfl) (by decide) (.slice (some ⟨g0, 0, none⟩) lj gc) lj R.flatten (by rfl) (own_later HR1.out (Nat.le_refl _) AL.out.2.2.2.2.1) ⟨W.heap.size + 1 + 1 + 1, 0, none⟩ 1 1 [.int .i64 0, .int .i64 0, .slice (some ⟨W.heap.size + 1 + 1, 0, none⟩) 1 1, .slice (some ⟨W.heap.size + 1, 0, none⟩) dd dd, .slice (some ⟨W.heap.size, 0, none⟩) dd dd, .int .u64 0, .int .i64 pr] (by rfl) (by rfl) (news_of AL.out.2.2.2.1) (by simp [Value.oneCell']) (by decide) HLEN.out HBYT.out (HBAS.out AL.out.2.2.2.2.1.size) (W.heap.size + 1 + 1 + 1 + 1) AL.out.2.2.2.2.2 ?_; intro g9 cap9 w9 hown9 hgrow9 hat9 hlt9; have z0 := (grown_cell9 (b := w.heap.size) (o := 0) hgrow9 (Nat.lt_of_lt_of_le hwl AL.out.2.2.2.2.1.size) HNG.out).trans (cell_low9 AL.out.2.2.2.2.1 cD); have z6 := (grown_cell9 (b := w3.heap.size) (o := 6) hgrow9 (Nat.lt_of_lt_of_le hwq AL.out.2.2.2.2.1.size) HNQ.out).trans (cell_low9 AL.out.2.2.2.2.1 cJ); have z7 := frozen9 (o := 6) hgrow9 HWE.out (Nat.lt_of_lt_of_le hwq AL.out.2.2.2.2.1.size) HNQ.out AL.out.2.2.2.2.1)
              refine hK.out _ _ ?_ (fun hHeld129 => ?_)
              · (try dsimp only); exact z0
              clear hK K
              try simp only [Act.put, List.setIfInBounds_toArray]
              clear hHeld128
              refine wpAnyH_take (i := 15) (v := ?_) rfl (by kernel_rfl) (by kernel_rfl) (by kernel_rfl) (fun _ _ _ h => h) (Or.inl ⟨by rfl, ?_⟩) (by assumption) ?_
              rotate_left
              · intro w hSw; (try dsimp only at hSw); first | (go_simp; done) | (go_simp; with_reducible rfl) | with_reducible rfl | rfl
              try simp only [Act.put]
              refine wpAnyH_ready (rs := [16]) (by kernel_rfl) (by simp) ?_
              refine AllReadyH.cons (o := { dst := none, op := Op.store 26 (Operand.tmp 46) (Operand.tmp 45), type := 0, pos := "law.go:148", after := #[{ on := 15, ground := Ground.data }, { on := 14, ground := Ground.data }, { on := 14, ground := Ground.chain }, { on := 0, ground := Ground.phase }, { on := 1, ground := Ground.phase }, { on := 2, ground := Ground.phase }, { on := 3, ground := Ground.phase }, { on := 4, ground := Ground.phase }, { on := 5, ground := Ground.phase }, { on := 6, ground := Ground.phase }, { on := 7, ground := Ground.phase }, { on := 8, ground := Ground.phase }, { on := 9, ground := Ground.phase }, { on := 10, ground := Ground.phase }, { on := 11, ground := Ground.phase }, { on := 12, ground := Ground.phase }, { on := 13, ground := Ground.phase }, { on := 14, ground := Ground.phase }], guard := none }) rfl (fun K hK => ?_) ?_
              ·go_simp
               refine hK.out _ _ ?_ (fun hHeld130 => ?_)
               · (try dsimp only); exact (cell_far9 m8).trans z0
               clear hK K
               try simp only [Act.put, List.setIfInBounds_toArray]
               clear hHeld129
               refine wpAnyH_done (by kernel_rfl) ?_ _
               clear hHeld130
               have HP9 := hide (more_leaf HFQ.out HLJ2.out HR2.out HR5.out HBW.out HBB.out HBC.out HW3.out hwq HWE.out AL.out.2.2.2.2.1 (by omega) (by omega) (by omega) AL.out.2.2.1 AL.out.2.1 AL.out.1 hown9 hgrow9 hat9 (by omega) hd3 hl12)
               go_wp2_with fail
               go_meet
               case rel => exact ⟨rfl, g9, cap9, HP9.out⟩
              exact AllReadyH.nil
             exact AllReadyH.nil
            exact AllReadyH.nil
           exact AllReadyH.nil
          exact AllReadyH.nil
         refine AllReadyH.cons (o := { dst := some 34, op := Op.buildSlice 43 1 #[(0, Operand.tmp 33)], type := 43, pos := "law.go:148", after := #[{ on := 2, ground := Ground.data }], guard := none }) rfl (fun K hK => ?_) ?_
         ·go_simp
          refine hK.out _ _ ?_ (fun hHeld131 => ?_)
          · (try dsimp only); exact cell_low9 (by repeat (first | exact Below.refl _ _ | refine Below.drew ?_ | (refine Below.alloc ?_ (by simp; try omega) _))) cD
          clear hK K
          try simp only [Act.put, List.setIfInBounds_toArray]
          clear hHeld119
          refine wpAnyH_take (i := 4) (oi := { dst := some 35, op := Op.build 45 #[(2, Operand.tmp 34)], type := 45, pos := "law.go:148", after := #[{ on := 3, ground := Ground.data }], guard := none }) (v := ?_) rfl (by kernel_rfl) (by kernel_rfl) (by kernel_rfl) (fun _ _ _ h => h) (Or.inl ⟨by rfl, ?_⟩) (by assumption) ?_
          rotate_left
          · intro w hSw; (try dsimp only at hSw); first | (go_simp; done) | (go_simp; with_reducible rfl) | with_reducible rfl | rfl
          try simp only [Act.put, List.setIfInBounds_toArray]
          refine wpAnyH_ready (rs := [1, 7]) (by kernel_rfl) (by simp) ?_
          refine AllReadyH.cons (o := { dst := some 32, op := Op.load 26 (Operand.tmp 31), type := 26, pos := "law.go:148", after := #[{ on := 0, ground := Ground.data }], guard := none }) rfl (fun K hK => ?_) ?_
          ·go_simp
           refine hK.out _ _ ?_ (fun hHeld132 => ?_)
           · (try dsimp only); exact cell_low9 (by repeat (first | exact Below.refl _ _ | refine Below.drew ?_ | (refine Below.alloc ?_ (by simp; try omega) _))) cD
           clear hK K
           try simp only [Act.put, List.setIfInBounds_toArray]
           clear hHeld131
           refine wpAnyH_ready (rs := [7]) (by kernel_rfl) (by simp) ?_
           refine AllReadyH.cons (o := { dst := some 38, op := Op.makeSlice 22 (Operand.tmp 37) (Operand.tmp 37), type := 22, pos := "law.go:148", after := #[{ on := 6, ground := Ground.data }, { on := 6, ground := Ground.data }], guard := none }) rfl (fun K hK => ?_) ?_
           ·go_simp
            refine hK.out _ _ ?_ (fun hHeld133 => ?_)
            · (try dsimp only); exact cell_low9 (by repeat (first | exact Below.refl _ _ | refine Below.drew ?_ | (refine Below.alloc ?_ (by simp; try omega) _))) cD
            clear hK K
            try simp only [Act.put, List.setIfInBounds_toArray]
            clear hHeld132
            refine wpAnyH_take (i := 12) (oi := { dst := some 43, op := Op.build 67 #[(0, Operand.tmp 35), (1, Operand.tmp 38), (2, Operand.tmp 41), (4, Operand.tmp 42)], type := 67, pos := "law.go:148", after := #[{ on := 4, ground := Ground.data }, { on := 7, ground := Ground.data }, { on := 10, ground := Ground.data }, { on := 11, ground := Ground.data }], guard := none }) (v := ?_) rfl (by kernel_rfl) (by kernel_rfl) (by kernel_rfl) (fun _ _ _ h => h) (Or.inl ⟨by rfl, ?_⟩) (by assumption) ?_
            rotate_left
            · intro w hSw; (try dsimp only at hSw); first | (go_simp; done) | (go_simp; with_reducible rfl) | with_reducible rfl | rfl
            try simp only [Act.put, List.setIfInBounds_toArray]
            refine wpAnyH_ready (rs := [13]) (by kernel_rfl) (by simp) ?_
            refine AllReadyH.cons (o := { dst := some 44, op := Op.buildSlice 26 1 #[(0, Operand.tmp 43)], type := 26, pos := "law.go:148", after := #[{ on := 12, ground := Ground.data }], guard := none }) rfl (fun K hK => ?_) ?_
            ·go_simp
             refine hK.out _ _ ?_ (fun hHeld134 => ?_)
             · (try dsimp only); exact cell_low9 (by repeat (first | exact Below.refl _ _ | refine Below.drew ?_ | (refine Below.alloc ?_ (by simp; try omega) _))) cD
             clear hK K
             try simp only [Act.put, List.setIfInBounds_toArray]
             clear hHeld133
             refine wpAnyH_ready (rs := [14]) (by kernel_rfl) (by simp) ?_
             refine AllReadyH.cons (o := { dst := some 45, op := Op.call { callee := Callee.builtin Builtin.append, args := #[Operand.tmp 32, Operand.tmp 44], argTypes := #[26, 26] }, type := 26, pos := "law.go:148", after := #[{ on := 1, ground := Ground.data }, { on := 13, ground := Ground.data }], guard := none }) rfl (fun K hK => ?_) ?_
             ·(have AL := hide (al4 W (.cells (Array.replicate dd (.int .i64 0)) 3) (.cells #[.int .i64 0, .int .i64 9] 61) (.cells (Array.replicate dd (.int .i64 0)) 3) (.cells #[.int .i64 0, .int .i64 0, .slice (some ⟨W.heap.size + 1, 0, none⟩) 1 1, .slice (some ⟨W.heap.size + 1 + 1, 0, none⟩) dd dd, .slice (some ⟨W.heap.size, 0, none⟩) dd dd, .int .u64 0, .int .i64 pr] 67)); refine step_append_lies _ (by rfl) (.tmp 32) (.tmp 44) 26 (by rfl) (w2.heap.size + 2) 67 i0 _ 7 104 Try.underlying26 HI0.out HZ0.out HZ1.out HZ2.out (by rfl) (by decide) (.slice (some ⟨g0, 0, none⟩) lj gc) lj R.flatten (by rfl) (own_later HR1.out (Nat.le_refl _) AL.out.2.2.2.2.1) ⟨W.heap.size + 1 + 1 + 1, 0, none⟩ 1 1 [.int .i64 0, .int .i64 0, .slice (some ⟨W.heap.size + 1, 0, none⟩) 1 1, .slice (some ⟨W.heap.size + 1 + 1, 0, none⟩) dd dd, .slice (some ⟨W.heap.size, 0, none⟩) dd dd, .int .u64 0, .int .i64 pr] (by rfl) (by rfl) (news_of AL.out.2.2.2.1) (by simp [Value.oneCell']) (by decide) HLEN.out HBYT.out (HBAS.out AL.out.2.2.2.2.1.size) (W.heap.size + 1 + 1 + 1 + 1) AL.out.2.2.2.2.2 ?_; intro g9 cap9 w9 hown9 hgrow9 hat9 hlt9; have z0 := (grown_cell9 (b := w.heap.size) (o := 0) hgrow9 (Nat.lt_of_lt_of_le hwl AL.out.2.2.2.2.1.size) HNG.out).trans (cell_low9 AL.out.2.2.2.2.1 cD); have z6 := (grown_cell9 (b := w3.heap.size) (o := 6) hgrow9 (Nat.lt_of_lt_of_le hwq AL.out.2.2.2.2.1.size) HNQ.out).trans (cell_low9 AL.out.2.2.2.2.1 cJ); have z7 := frozen9 (o := 6) hgrow9 HWE.out (Nat.lt_of_lt_of_le hwq AL.out.2.2.2.2.1.size) HNQ.out AL.out.2.2.2.2.1)
              refine hK.out _ _ ?_ (fun hHeld135 => ?_)
              · (try dsimp only); exact z0
              clear hK K
              try simp only [Act.put, List.setIfInBounds_toArray]
              clear hHeld134
              refine wpAnyH_take (i := 15) (v := ?_) rfl (by kernel_rfl) (by kernel_rfl) (by kernel_rfl) (fun _ _ _ h => h) (Or.inl ⟨by rfl, ?_⟩) (by assumption) ?_
              rotate_left
              · intro w hSw; (try dsimp only at hSw); first | (go_simp; done) | (go_simp; with_reducible rfl) | with_reducible rfl | rfl
              try simp only [Act.put]
              refine wpAnyH_ready (rs := [16]) (by kernel_rfl) (by simp) ?_
              refine AllReadyH.cons (o := { dst := none, op := Op.store 26 (Operand.tmp 46) (Operand.tmp 45), type := 0, pos := "law.go:148", after := #[{ on := 15, ground := Ground.data }, { on := 14, ground := Ground.data }, { on := 14, ground := Ground.chain }, { on := 0, ground := Ground.phase }, { on := 1, ground := Ground.phase }, { on := 2, ground := Ground.phase }, { on := 3, ground := Ground.phase }, { on := 4, ground := Ground.phase }, { on := 5, ground := Ground.phase }, { on := 6, ground := Ground.phase }, { on := 7, ground := Ground.phase }, { on := 8, ground := Ground.phase }, { on := 9, ground := Ground.phase }, { on := 10, ground := Ground.phase }, { on := 11, ground := Ground.phase }, { on := 12, ground := Ground.phase }, { on := 13, ground := Ground.phase }, { on := 14, ground := Ground.phase }], guard := none }) rfl (fun K hK => ?_) ?_
              ·go_simp
               refine hK.out _ _ ?_ (fun hHeld136 => ?_)
               · (try dsimp only); exact (cell_far9 m8).trans z0
               clear hK K
               try simp only [Act.put, List.setIfInBounds_toArray]
               clear hHeld135
               refine wpAnyH_done (by kernel_rfl) ?_ _
               clear hHeld136
               have HP9 := hide (more_leaf HFQ.out HLJ2.out HR2.out HR5.out HBW.out HBB.out HBC.out HW3.out hwq HWE.out AL.out.2.2.2.2.1 (by omega) (by omega) (by omega) AL.out.2.1 AL.out.2.2.1 AL.out.1 hown9 hgrow9 hat9 (by omega) hd3 hl12)
               go_wp2_with fail
               go_meet
               case rel => exact ⟨rfl, g9, cap9, HP9.out⟩
              exact AllReadyH.nil
             exact AllReadyH.nil
            exact AllReadyH.nil
           exact AllReadyH.nil
          refine AllReadyH.cons (o := { dst := some 38, op := Op.makeSlice 22 (Operand.tmp 37) (Operand.tmp 37), type := 22, pos := "law.go:148", after := #[{ on := 6, ground := Ground.data }, { on := 6, ground := Ground.data }], guard := none }) rfl (fun K hK => ?_) ?_
          ·go_simp
           refine hK.out _ _ ?_ (fun hHeld137 => ?_)
           · (try dsimp only); exact cell_low9 (by repeat (first | exact Below.refl _ _ | refine Below.drew ?_ | (refine Below.alloc ?_ (by simp; try omega) _))) cD
           clear hK K
           try simp only [Act.put, List.setIfInBounds_toArray]
           clear hHeld131
           refine wpAnyH_take (i := 12) (oi := { dst := some 43, op := Op.build 67 #[(0, Operand.tmp 35), (1, Operand.tmp 38), (2, Operand.tmp 41), (4, Operand.tmp 42)], type := 67, pos := "law.go:148", after := #[{ on := 4, ground := Ground.data }, { on := 7, ground := Ground.data }, { on := 10, ground := Ground.data }, { on := 11, ground := Ground.data }], guard := none }) (v := ?_) rfl (by kernel_rfl) (by kernel_rfl) (by kernel_rfl) (fun _ _ _ h => h) (Or.inl ⟨by rfl, ?_⟩) (by assumption) ?_
           rotate_left
           · intro w hSw; (try dsimp only at hSw); first | (go_simp; done) | (go_simp; with_reducible rfl) | with_reducible rfl | rfl
           try simp only [Act.put, List.setIfInBounds_toArray]
           refine wpAnyH_ready (rs := [1, 13]) (by kernel_rfl) (by simp) ?_
           refine AllReadyH.cons (o := { dst := some 32, op := Op.load 26 (Operand.tmp 31), type := 26, pos := "law.go:148", after := #[{ on := 0, ground := Ground.data }], guard := none }) rfl (fun K hK => ?_) ?_
           ·(have c6x : (((W.alloc (.cells (Array.replicate dd (.int .i64 0)) 3)).alloc (.cells #[.int .i64 0, .int .i64 9] 61)).alloc (.cells (Array.replicate dd (.int .i64 0)) 3)).cell? ⟨w3.heap.size, 6, none⟩ = some (.slice (some ⟨g0, 0, none⟩) lj gc) := cell_low9 (by repeat (first | exact Below.refl _ _ | refine Below.drew ?_ | (refine Below.alloc ?_ (by simp; try omega) _))) cJ; go_simp; clear c6x)
            refine hK.out _ _ ?_ (fun hHeld138 => ?_)
            · (try dsimp only); exact cell_low9 (by repeat (first | exact Below.refl _ _ | refine Below.drew ?_ | (refine Below.alloc ?_ (by simp; try omega) _))) cD
            clear hK K
            try simp only [Act.put, List.setIfInBounds_toArray]
            clear hHeld137
            refine wpAnyH_ready (rs := [13]) (by kernel_rfl) (by simp) ?_
            refine AllReadyH.cons (o := { dst := some 44, op := Op.buildSlice 26 1 #[(0, Operand.tmp 43)], type := 26, pos := "law.go:148", after := #[{ on := 12, ground := Ground.data }], guard := none }) rfl (fun K hK => ?_) ?_
            ·go_simp
             refine hK.out _ _ ?_ (fun hHeld139 => ?_)
             · (try dsimp only); exact cell_low9 (by repeat (first | exact Below.refl _ _ | refine Below.drew ?_ | (refine Below.alloc ?_ (by simp; try omega) _))) cD
             clear hK K
             try simp only [Act.put, List.setIfInBounds_toArray]
             clear hHeld138
             refine wpAnyH_ready (rs := [14]) (by kernel_rfl) (by simp) ?_
             refine AllReadyH.cons (o := { dst := some 45, op := Op.call { callee := Callee.builtin Builtin.append, args := #[Operand.tmp 32, Operand.tmp 44], argTypes := #[26, 26] }, type := 26, pos := "law.go:148", after := #[{ on := 1, ground := Ground.data }, { on := 13, ground := Ground.data }], guard := none }) rfl (fun K hK => ?_) ?_
             ·(have AL := hide (al4 W (.cells (Array.replicate dd (.int .i64 0)) 3) (.cells #[.int .i64 0, .int .i64 9] 61) (.cells (Array.replicate dd (.int .i64 0)) 3) (.cells #[.int .i64 0, .int .i64 0, .slice (some ⟨W.heap.size + 1, 0, none⟩) 1 1, .slice (some ⟨W.heap.size + 1 + 1, 0, none⟩) dd dd, .slice (some ⟨W.heap.size, 0, none⟩) dd dd, .int .u64 0, .int .i64 pr] 67)); refine step_append_lies _ (by rfl) (.tmp 32) (.tmp 44) 26 (by rfl) (w2.heap.size + 2) 67 i0 _ 7 104 Try.underlying26 HI0.out HZ0.out HZ1.out HZ2.out (by rfl) (by decide) (.slice (some ⟨g0, 0, none⟩) lj gc) lj R.flatten (by rfl) (own_later HR1.out (Nat.le_refl _) AL.out.2.2.2.2.1) ⟨W.heap.size + 1 + 1 + 1, 0, none⟩ 1 1 [.int .i64 0, .int .i64 0, .slice (some ⟨W.heap.size + 1, 0, none⟩) 1 1, .slice (some ⟨W.heap.size + 1 + 1, 0, none⟩) dd dd, .slice (some ⟨W.heap.size, 0, none⟩) dd dd, .int .u64 0, .int .i64 pr] (by rfl) (by rfl) (news_of AL.out.2.2.2.1) (by simp [Value.oneCell']) (by decide) HLEN.out HBYT.out (HBAS.out AL.out.2.2.2.2.1.size) (W.heap.size + 1 + 1 + 1 + 1) AL.out.2.2.2.2.2 ?_; intro g9 cap9 w9 hown9 hgrow9 hat9 hlt9; have z0 := (grown_cell9 (b := w.heap.size) (o := 0) hgrow9 (Nat.lt_of_lt_of_le hwl AL.out.2.2.2.2.1.size) HNG.out).trans (cell_low9 AL.out.2.2.2.2.1 cD); have z6 := (grown_cell9 (b := w3.heap.size) (o := 6) hgrow9 (Nat.lt_of_lt_of_le hwq AL.out.2.2.2.2.1.size) HNQ.out).trans (cell_low9 AL.out.2.2.2.2.1 cJ); have z7 := frozen9 (o := 6) hgrow9 HWE.out (Nat.lt_of_lt_of_le hwq AL.out.2.2.2.2.1.size) HNQ.out AL.out.2.2.2.2.1)
              refine hK.out _ _ ?_ (fun hHeld140 => ?_)
              · (try dsimp only); exact z0
              clear hK K
              try simp only [Act.put, List.setIfInBounds_toArray]
              clear hHeld139
              refine wpAnyH_take (i := 15) (v := ?_) rfl (by kernel_rfl) (by kernel_rfl) (by kernel_rfl) (fun _ _ _ h => h) (Or.inl ⟨by rfl, ?_⟩) (by assumption) ?_
              rotate_left
              · intro w hSw; (try dsimp only at hSw); first | (go_simp; done) | (go_simp; with_reducible rfl) | with_reducible rfl | rfl
              try simp only [Act.put]
              refine wpAnyH_ready (rs := [16]) (by kernel_rfl) (by simp) ?_
              refine AllReadyH.cons (o := { dst := none, op := Op.store 26 (Operand.tmp 46) (Operand.tmp 45), type := 0, pos := "law.go:148", after := #[{ on := 15, ground := Ground.data }, { on := 14, ground := Ground.data }, { on := 14, ground := Ground.chain }, { on := 0, ground := Ground.phase }, { on := 1, ground := Ground.phase }, { on := 2, ground := Ground.phase }, { on := 3, ground := Ground.phase }, { on := 4, ground := Ground.phase }, { on := 5, ground := Ground.phase }, { on := 6, ground := Ground.phase }, { on := 7, ground := Ground.phase }, { on := 8, ground := Ground.phase }, { on := 9, ground := Ground.phase }, { on := 10, ground := Ground.phase }, { on := 11, ground := Ground.phase }, { on := 12, ground := Ground.phase }, { on := 13, ground := Ground.phase }, { on := 14, ground := Ground.phase }], guard := none }) rfl (fun K hK => ?_) ?_
              ·go_simp
               refine hK.out _ _ ?_ (fun hHeld141 => ?_)
               · (try dsimp only); exact (cell_far9 m8).trans z0
               clear hK K
               try simp only [Act.put, List.setIfInBounds_toArray]
               clear hHeld140
               refine wpAnyH_done (by kernel_rfl) ?_ _
               clear hHeld141
               have HP9 := hide (more_leaf HFQ.out HLJ2.out HR2.out HR5.out HBW.out HBB.out HBC.out HW3.out hwq HWE.out AL.out.2.2.2.2.1 (by omega) (by omega) (by omega) AL.out.2.1 AL.out.2.2.1 AL.out.1 hown9 hgrow9 hat9 (by omega) hd3 hl12)
               go_wp2_with fail
               go_meet
               case rel => exact ⟨rfl, g9, cap9, HP9.out⟩
              exact AllReadyH.nil
             exact AllReadyH.nil
            exact AllReadyH.nil
           refine AllReadyH.cons (o := { dst := some 44, op := Op.buildSlice 26 1 #[(0, Operand.tmp 43)], type := 26, pos := "law.go:148", after := #[{ on := 12, ground := Ground.data }], guard := none }) rfl (fun K hK => ?_) ?_
           ·go_simp
            refine hK.out _ _ ?_ (fun hHeld142 => ?_)
            · (try dsimp only); exact cell_low9 (by repeat (first | exact Below.refl _ _ | refine Below.drew ?_ | (refine Below.alloc ?_ (by simp; try omega) _))) cD
            clear hK K
            try simp only [Act.put, List.setIfInBounds_toArray]
            clear hHeld137
            refine wpAnyH_ready (rs := [1]) (by kernel_rfl) (by simp) ?_
            refine AllReadyH.cons (o := { dst := some 32, op := Op.load 26 (Operand.tmp 31), type := 26, pos := "law.go:148", after := #[{ on := 0, ground := Ground.data }], guard := none }) rfl (fun K hK => ?_) ?_
            ·(have c6x : ((((W.alloc (.cells (Array.replicate dd (.int .i64 0)) 3)).alloc (.cells #[.int .i64 0, .int .i64 9] 61)).alloc (.cells (Array.replicate dd (.int .i64 0)) 3)).alloc (.cells #[.int .i64 0, .int .i64 0, .slice (some ⟨W.heap.size + 1, 0, none⟩) 1 1, .slice (some ⟨W.heap.size + 1 + 1, 0, none⟩) dd dd, .slice (some ⟨W.heap.size, 0, none⟩) dd dd, .int .u64 0, .int .i64 pr] 67)).cell? ⟨w3.heap.size, 6, none⟩ = some (.slice (some ⟨g0, 0, none⟩) lj gc) := cell_low9 (by repeat (first | exact Below.refl _ _ | refine Below.drew ?_ | (refine Below.alloc ?_ (by simp; try omega) _))) cJ; go_simp; clear c6x)
             refine hK.out _ _ ?_ (fun hHeld143 => ?_)
             · (try dsimp only); exact cell_low9 (by repeat (first | exact Below.refl _ _ | refine Below.drew ?_ | (refine Below.alloc ?_ (by simp; try omega) _))) cD
             clear hK K
             try simp only [Act.put, List.setIfInBounds_toArray]
             clear hHeld142
             refine wpAnyH_ready (rs := [14]) (by kernel_rfl) (by simp) ?_
             refine AllReadyH.cons (o := { dst := some 45, op := Op.call { callee := Callee.builtin Builtin.append, args := #[Operand.tmp 32, Operand.tmp 44], argTypes := #[26, 26] }, type := 26, pos := "law.go:148", after := #[{ on := 1, ground := Ground.data }, { on := 13, ground := Ground.data }], guard := none }) rfl (fun K hK => ?_) ?_
             ·(have AL := hide (al4 W (.cells (Array.replicate dd (.int .i64 0)) 3) (.cells #[.int .i64 0, .int .i64 9] 61) (.cells (Array.replicate dd (.int .i64 0)) 3) (.cells #[.int .i64 0, .int .i64 0, .slice (some ⟨W.heap.size + 1, 0, none⟩) 1 1, .slice (some ⟨W.heap.size + 1 + 1, 0, none⟩) dd dd, .slice (some ⟨W.heap.size, 0, none⟩) dd dd, .int .u64 0, .int .i64 pr] 67)); refine step_append_lies _ (by rfl) (.tmp 32) (.tmp 44) 26 (by rfl) (w2.heap.size + 2) 67 i0 _ 7 104 Try.underlying26 HI0.out HZ0.out HZ1.out HZ2.out (by rfl) (by decide) (.slice (some ⟨g0, 0, none⟩) lj gc) lj R.flatten (by rfl) (own_later HR1.out (Nat.le_refl _) AL.out.2.2.2.2.1) ⟨W.heap.size + 1 + 1 + 1, 0, none⟩ 1 1 [.int .i64 0, .int .i64 0, .slice (some ⟨W.heap.size + 1, 0, none⟩) 1 1, .slice (some ⟨W.heap.size + 1 + 1, 0, none⟩) dd dd, .slice (some ⟨W.heap.size, 0, none⟩) dd dd, .int .u64 0, .int .i64 pr] (by rfl) (by rfl) (news_of AL.out.2.2.2.1) (by simp [Value.oneCell']) (by decide) HLEN.out HBYT.out (HBAS.out AL.out.2.2.2.2.1.size) (W.heap.size + 1 + 1 + 1 + 1) AL.out.2.2.2.2.2 ?_; intro g9 cap9 w9 hown9 hgrow9 hat9 hlt9; have z0 := (grown_cell9 (b := w.heap.size) (o := 0) hgrow9 (Nat.lt_of_lt_of_le hwl AL.out.2.2.2.2.1.size) HNG.out).trans (cell_low9 AL.out.2.2.2.2.1 cD); have z6 := (grown_cell9 (b := w3.heap.size) (o := 6) hgrow9 (Nat.lt_of_lt_of_le hwq AL.out.2.2.2.2.1.size) HNQ.out).trans (cell_low9 AL.out.2.2.2.2.1 cJ); have z7 := frozen9 (o := 6) hgrow9 HWE.out (Nat.lt_of_lt_of_le hwq AL.out.2.2.2.2.1.size) HNQ.out AL.out.2.2.2.2.1)
              refine hK.out _ _ ?_ (fun hHeld144 => ?_)
              · (try dsimp only); exact z0
              clear hK K
              try simp only [Act.put, List.setIfInBounds_toArray]
              clear hHeld143
              refine wpAnyH_take (i := 15) (v := ?_) rfl (by kernel_rfl) (by kernel_rfl) (by kernel_rfl) (fun _ _ _ h => h) (Or.inl ⟨by rfl, ?_⟩) (by assumption) ?_
              rotate_left
              · intro w hSw; (try dsimp only at hSw); first | (go_simp; done) | (go_simp; with_reducible rfl) | with_reducible rfl | rfl
              try simp only [Act.put]
              refine wpAnyH_ready (rs := [16]) (by kernel_rfl) (by simp) ?_
              refine AllReadyH.cons (o := { dst := none, op := Op.store 26 (Operand.tmp 46) (Operand.tmp 45), type := 0, pos := "law.go:148", after := #[{ on := 15, ground := Ground.data }, { on := 14, ground := Ground.data }, { on := 14, ground := Ground.chain }, { on := 0, ground := Ground.phase }, { on := 1, ground := Ground.phase }, { on := 2, ground := Ground.phase }, { on := 3, ground := Ground.phase }, { on := 4, ground := Ground.phase }, { on := 5, ground := Ground.phase }, { on := 6, ground := Ground.phase }, { on := 7, ground := Ground.phase }, { on := 8, ground := Ground.phase }, { on := 9, ground := Ground.phase }, { on := 10, ground := Ground.phase }, { on := 11, ground := Ground.phase }, { on := 12, ground := Ground.phase }, { on := 13, ground := Ground.phase }, { on := 14, ground := Ground.phase }], guard := none }) rfl (fun K hK => ?_) ?_
              ·go_simp
               refine hK.out _ _ ?_ (fun hHeld145 => ?_)
               · (try dsimp only); exact (cell_far9 m8).trans z0
               clear hK K
               try simp only [Act.put, List.setIfInBounds_toArray]
               clear hHeld144
               refine wpAnyH_done (by kernel_rfl) ?_ _
               clear hHeld145
               have HP9 := hide (more_leaf HFQ.out HLJ2.out HR2.out HR5.out HBW.out HBB.out HBC.out HW3.out hwq HWE.out AL.out.2.2.2.2.1 (by omega) (by omega) (by omega) AL.out.2.1 AL.out.2.2.1 AL.out.1 hown9 hgrow9 hat9 (by omega) hd3 hl12)
               go_wp2_with fail
               go_meet
               case rel => exact ⟨rfl, g9, cap9, HP9.out⟩
              exact AllReadyH.nil
             exact AllReadyH.nil
            exact AllReadyH.nil
           exact AllReadyH.nil
          exact AllReadyH.nil
         refine AllReadyH.cons (o := { dst := some 38, op := Op.makeSlice 22 (Operand.tmp 37) (Operand.tmp 37), type := 22, pos := "law.go:148", after := #[{ on := 6, ground := Ground.data }, { on := 6, ground := Ground.data }], guard := none }) rfl (fun K hK => ?_) ?_
         ·go_simp
          refine hK.out _ _ ?_ (fun hHeld146 => ?_)
          · (try dsimp only); exact cell_low9 (by repeat (first | exact Below.refl _ _ | refine Below.drew ?_ | (refine Below.alloc ?_ (by simp; try omega) _))) cD
          clear hK K
          try simp only [Act.put, List.setIfInBounds_toArray]
          clear hHeld119
          refine wpAnyH_ready (rs := [1, 3]) (by kernel_rfl) (by simp) ?_
          refine AllReadyH.cons (o := { dst := some 32, op := Op.load 26 (Operand.tmp 31), type := 26, pos := "law.go:148", after := #[{ on := 0, ground := Ground.data }], guard := none }) rfl (fun K hK => ?_) ?_
          ·go_simp
           refine hK.out _ _ ?_ (fun hHeld147 => ?_)
           · (try dsimp only); exact cell_low9 (by repeat (first | exact Below.refl _ _ | refine Below.drew ?_ | (refine Below.alloc ?_ (by simp; try omega) _))) cD
           clear hK K
           try simp only [Act.put, List.setIfInBounds_toArray]
           clear hHeld146
           refine wpAnyH_ready (rs := [3]) (by kernel_rfl) (by simp) ?_
           refine AllReadyH.cons (o := { dst := some 34, op := Op.buildSlice 43 1 #[(0, Operand.tmp 33)], type := 43, pos := "law.go:148", after := #[{ on := 2, ground := Ground.data }], guard := none }) rfl (fun K hK => ?_) ?_
           ·go_simp
            refine hK.out _ _ ?_ (fun hHeld148 => ?_)
            · (try dsimp only); exact cell_low9 (by repeat (first | exact Below.refl _ _ | refine Below.drew ?_ | (refine Below.alloc ?_ (by simp; try omega) _))) cD
            clear hK K
            try simp only [Act.put, List.setIfInBounds_toArray]
            clear hHeld147
            refine wpAnyH_take (i := 4) (oi := { dst := some 35, op := Op.build 45 #[(2, Operand.tmp 34)], type := 45, pos := "law.go:148", after := #[{ on := 3, ground := Ground.data }], guard := none }) (v := ?_) rfl (by kernel_rfl) (by kernel_rfl) (by kernel_rfl) (fun _ _ _ h => h) (Or.inl ⟨by rfl, ?_⟩) (by assumption) ?_
            rotate_left
            · intro w hSw; (try dsimp only at hSw); first | (go_simp; done) | (go_simp; with_reducible rfl) | with_reducible rfl | rfl
            try simp only [Act.put, List.setIfInBounds_toArray]
            refine wpAnyH_take (i := 12) (oi := { dst := some 43, op := Op.build 67 #[(0, Operand.tmp 35), (1, Operand.tmp 38), (2, Operand.tmp 41), (4, Operand.tmp 42)], type := 67, pos := "law.go:148", after := #[{ on := 4, ground := Ground.data }, { on := 7, ground := Ground.data }, { on := 10, ground := Ground.data }, { on := 11, ground := Ground.data }], guard := none }) (v := ?_) rfl (by kernel_rfl) (by kernel_rfl) (by kernel_rfl) (fun _ _ _ h => h) (Or.inl ⟨by rfl, ?_⟩) (by assumption) ?_
            rotate_left
            · intro w hSw; (try dsimp only at hSw); first | (go_simp; done) | (go_simp; with_reducible rfl) | with_reducible rfl | rfl
            try simp only [Act.put, List.setIfInBounds_toArray]
            refine wpAnyH_ready (rs := [13]) (by kernel_rfl) (by simp) ?_
            refine AllReadyH.cons (o := { dst := some 44, op := Op.buildSlice 26 1 #[(0, Operand.tmp 43)], type := 26, pos := "law.go:148", after := #[{ on := 12, ground := Ground.data }], guard := none }) rfl (fun K hK => ?_) ?_
            ·go_simp
             refine hK.out _ _ ?_ (fun hHeld149 => ?_)
             · (try dsimp only); exact cell_low9 (by repeat (first | exact Below.refl _ _ | refine Below.drew ?_ | (refine Below.alloc ?_ (by simp; try omega) _))) cD
             clear hK K
             try simp only [Act.put, List.setIfInBounds_toArray]
             clear hHeld148
             refine wpAnyH_ready (rs := [14]) (by kernel_rfl) (by simp) ?_
             refine AllReadyH.cons (o := { dst := some 45, op := Op.call { callee := Callee.builtin Builtin.append, args := #[Operand.tmp 32, Operand.tmp 44], argTypes := #[26, 26] }, type := 26, pos := "law.go:148", after := #[{ on := 1, ground := Ground.data }, { on := 13, ground := Ground.data }], guard := none }) rfl (fun K hK => ?_) ?_
             ·(have AL := hide (al4 W (.cells (Array.replicate dd (.int .i64 0)) 3) (.cells (Array.replicate dd (.int .i64 0)) 3) (.cells #[.int .i64 0, .int .i64 9] 61) (.cells #[.int .i64 0, .int .i64 0, .slice (some ⟨W.heap.size + 1 + 1, 0, none⟩) 1 1, .slice (some ⟨W.heap.size + 1, 0, none⟩) dd dd, .slice (some ⟨W.heap.size, 0, none⟩) dd dd, .int .u64 0, .int .i64 pr] 67)); refine step_append_lies _ (by rfl) (.tmp 32) (.tmp 44) 26 (by rfl) (w2.heap.size + 2) 67 i0 _ 7 104 Try.underlying26 HI0.out HZ0.out HZ1.out HZ2.out (by rfl) (by decide) (.slice (some ⟨g0, 0, none⟩) lj gc) lj R.flatten (by rfl) (own_later HR1.out (Nat.le_refl _) AL.out.2.2.2.2.1) ⟨W.heap.size + 1 + 1 + 1, 0, none⟩ 1 1 [.int .i64 0, .int .i64 0, .slice (some ⟨W.heap.size + 1 + 1, 0, none⟩) 1 1, .slice (some ⟨W.heap.size + 1, 0, none⟩) dd dd, .slice (some ⟨W.heap.size, 0, none⟩) dd dd, .int .u64 0, .int .i64 pr] (by rfl) (by rfl) (news_of AL.out.2.2.2.1) (by simp [Value.oneCell']) (by decide) HLEN.out HBYT.out (HBAS.out AL.out.2.2.2.2.1.size) (W.heap.size + 1 + 1 + 1 + 1) AL.out.2.2.2.2.2 ?_; intro g9 cap9 w9 hown9 hgrow9 hat9 hlt9; have z0 := (grown_cell9 (b := w.heap.size) (o := 0) hgrow9 (Nat.lt_of_lt_of_le hwl AL.out.2.2.2.2.1.size) HNG.out).trans (cell_low9 AL.out.2.2.2.2.1 cD); have z6 := (grown_cell9 (b := w3.heap.size) (o := 6) hgrow9 (Nat.lt_of_lt_of_le hwq AL.out.2.2.2.2.1.size) HNQ.out).trans (cell_low9 AL.out.2.2.2.2.1 cJ); have z7 := frozen9 (o := 6) hgrow9 HWE.out (Nat.lt_of_lt_of_le hwq AL.out.2.2.2.2.1.size) HNQ.out AL.out.2.2.2.2.1)
              refine hK.out _ _ ?_ (fun hHeld150 => ?_)
              · (try dsimp only); exact z0
              clear hK K
              try simp only [Act.put, List.setIfInBounds_toArray]
              clear hHeld149
              refine wpAnyH_take (i := 15) (v := ?_) rfl (by kernel_rfl) (by kernel_rfl) (by kernel_rfl) (fun _ _ _ h => h) (Or.inl ⟨by rfl, ?_⟩) (by assumption) ?_
              rotate_left
              · intro w hSw; (try dsimp only at hSw); first | (go_simp; done) | (go_simp; with_reducible rfl) | with_reducible rfl | rfl
              try simp only [Act.put]
              refine wpAnyH_ready (rs := [16]) (by kernel_rfl) (by simp) ?_
              refine AllReadyH.cons (o := { dst := none, op := Op.store 26 (Operand.tmp 46) (Operand.tmp 45), type := 0, pos := "law.go:148", after := #[{ on := 15, ground := Ground.data }, { on := 14, ground := Ground.data }, { on := 14, ground := Ground.chain }, { on := 0, ground := Ground.phase }, { on := 1, ground := Ground.phase }, { on := 2, ground := Ground.phase }, { on := 3, ground := Ground.phase }, { on := 4, ground := Ground.phase }, { on := 5, ground := Ground.phase }, { on := 6, ground := Ground.phase }, { on := 7, ground := Ground.phase }, { on := 8, ground := Ground.phase }, { on := 9, ground := Ground.phase }, { on := 10, ground := Ground.phase }, { on := 11, ground := Ground.phase }, { on := 12, ground := Ground.phase }, { on := 13, ground := Ground.phase }, { on := 14, ground := Ground.phase }], guard := none }) rfl (fun K hK => ?_) ?_
              ·go_simp
               refine hK.out _ _ ?_ (fun hHeld151 => ?_)
               · (try dsimp only); exact (cell_far9 m8).trans z0
               clear hK K
               try simp only [Act.put, List.setIfInBounds_toArray]
               clear hHeld150
               refine wpAnyH_done (by kernel_rfl) ?_ _
               clear hHeld151
               have HP9 := hide (more_leaf HFQ.out HLJ2.out HR2.out HR5.out HBW.out HBB.out HBC.out HW3.out hwq HWE.out AL.out.2.2.2.2.1 (by omega) (by omega) (by omega) AL.out.2.2.1 AL.out.2.1 AL.out.1 hown9 hgrow9 hat9 (by omega) hd3 hl12)
               go_wp2_with fail
               go_meet
               case rel => exact ⟨rfl, g9, cap9, HP9.out⟩
              exact AllReadyH.nil
             exact AllReadyH.nil
            exact AllReadyH.nil
           exact AllReadyH.nil
          refine AllReadyH.cons (o := { dst := some 34, op := Op.buildSlice 43 1 #[(0, Operand.tmp 33)], type := 43, pos := "law.go:148", after := #[{ on := 2, ground := Ground.data }], guard := none }) rfl (fun K hK => ?_) ?_
          ·go_simp
           refine hK.out _ _ ?_ (fun hHeld152 => ?_)
           · (try dsimp only); exact cell_low9 (by repeat (first | exact Below.refl _ _ | refine Below.drew ?_ | (refine Below.alloc ?_ (by simp; try omega) _))) cD
           clear hK K
           try simp only [Act.put, List.setIfInBounds_toArray]
           clear hHeld146
           refine wpAnyH_take (i := 4) (oi := { dst := some 35, op := Op.build 45 #[(2, Operand.tmp 34)], type := 45, pos := "law.go:148", after := #[{ on := 3, ground := Ground.data }], guard := none }) (v := ?_) rfl (by kernel_rfl) (by kernel_rfl) (by kernel_rfl) (fun _ _ _ h => h) (Or.inl ⟨by rfl, ?_⟩) (by assumption) ?_
           rotate_left
           · intro w hSw; (try dsimp only at hSw); first | (go_simp; done) | (go_simp; with_reducible rfl) | with_reducible rfl | rfl
           try simp only [Act.put, List.setIfInBounds_toArray]
           refine wpAnyH_take (i := 12) (oi := { dst := some 43, op := Op.build 67 #[(0, Operand.tmp 35), (1, Operand.tmp 38), (2, Operand.tmp 41), (4, Operand.tmp 42)], type := 67, pos := "law.go:148", after := #[{ on := 4, ground := Ground.data }, { on := 7, ground := Ground.data }, { on := 10, ground := Ground.data }, { on := 11, ground := Ground.data }], guard := none }) (v := ?_) rfl (by kernel_rfl) (by kernel_rfl) (by kernel_rfl) (fun _ _ _ h => h) (Or.inl ⟨by rfl, ?_⟩) (by assumption) ?_
           rotate_left
           · intro w hSw; (try dsimp only at hSw); first | (go_simp; done) | (go_simp; with_reducible rfl) | with_reducible rfl | rfl
           try simp only [Act.put, List.setIfInBounds_toArray]
           refine wpAnyH_ready (rs := [1, 13]) (by kernel_rfl) (by simp) ?_
           refine AllReadyH.cons (o := { dst := some 32, op := Op.load 26 (Operand.tmp 31), type := 26, pos := "law.go:148", after := #[{ on := 0, ground := Ground.data }], guard := none }) rfl (fun K hK => ?_) ?_
           ·(have c6x : (((W.alloc (.cells (Array.replicate dd (.int .i64 0)) 3)).alloc (.cells (Array.replicate dd (.int .i64 0)) 3)).alloc (.cells #[.int .i64 0, .int .i64 9] 61)).cell? ⟨w3.heap.size, 6, none⟩ = some (.slice (some ⟨g0, 0, none⟩) lj gc) := cell_low9 (by repeat (first | exact Below.refl _ _ | refine Below.drew ?_ | (refine Below.alloc ?_ (by simp; try omega) _))) cJ; go_simp; clear c6x)
            refine hK.out _ _ ?_ (fun hHeld153 => ?_)
            · (try dsimp only); exact cell_low9 (by repeat (first | exact Below.refl _ _ | refine Below.drew ?_ | (refine Below.alloc ?_ (by simp; try omega) _))) cD
            clear hK K
            try simp only [Act.put, List.setIfInBounds_toArray]
            clear hHeld152
            refine wpAnyH_ready (rs := [13]) (by kernel_rfl) (by simp) ?_
            refine AllReadyH.cons (o := { dst := some 44, op := Op.buildSlice 26 1 #[(0, Operand.tmp 43)], type := 26, pos := "law.go:148", after := #[{ on := 12, ground := Ground.data }], guard := none }) rfl (fun K hK => ?_) ?_
            ·go_simp
             refine hK.out _ _ ?_ (fun hHeld154 => ?_)
             · (try dsimp only); exact cell_low9 (by repeat (first | exact Below.refl _ _ | refine Below.drew ?_ | (refine Below.alloc ?_ (by simp; try omega) _))) cD
             clear hK K
             try simp only [Act.put, List.setIfInBounds_toArray]
             clear hHeld153
             refine wpAnyH_ready (rs := [14]) (by kernel_rfl) (by simp) ?_
             refine AllReadyH.cons (o := { dst := some 45, op := Op.call { callee := Callee.builtin Builtin.append, args := #[Operand.tmp 32, Operand.tmp 44], argTypes := #[26, 26] }, type := 26, pos := "law.go:148", after := #[{ on := 1, ground := Ground.data }, { on := 13, ground := Ground.data }], guard := none }) rfl (fun K hK => ?_) ?_
             ·(have AL := hide (al4 W (.cells (Array.replicate dd (.int .i64 0)) 3) (.cells (Array.replicate dd (.int .i64 0)) 3) (.cells #[.int .i64 0, .int .i64 9] 61) (.cells #[.int .i64 0, .int .i64 0, .slice (some ⟨W.heap.size + 1 + 1, 0, none⟩) 1 1, .slice (some ⟨W.heap.size + 1, 0, none⟩) dd dd, .slice (some ⟨W.heap.size, 0, none⟩) dd dd, .int .u64 0, .int .i64 pr] 67)); refine step_append_lies _ (by rfl) (.tmp 32) (.tmp 44) 26 (by rfl) (w2.heap.size + 2) 67 i0 _ 7 104 Try.underlying26 HI0.out HZ0.out HZ1.out HZ2.out (by rfl) (by decide) (.slice (some ⟨g0, 0, none⟩) lj gc) lj R.flatten (by rfl) (own_later HR1.out (Nat.le_refl _) AL.out.2.2.2.2.1) ⟨W.heap.size + 1 + 1 + 1, 0, none⟩ 1 1 [.int .i64 0, .int .i64 0, .slice (some ⟨W.heap.size + 1 + 1, 0, none⟩) 1 1, .slice (some ⟨W.heap.size + 1, 0, none⟩) dd dd, .slice (some ⟨W.heap.size, 0, none⟩) dd dd, .int .u64 0, .int .i64 pr] (by rfl) (by rfl) (news_of AL.out.2.2.2.1) (by simp [Value.oneCell']) (by decide) HLEN.out HBYT.out (HBAS.out AL.out.2.2.2.2.1.size) (W.heap.size + 1 + 1 + 1 + 1) AL.out.2.2.2.2.2 ?_; intro g9 cap9 w9 hown9 hgrow9 hat9 hlt9; have z0 := (grown_cell9 (b := w.heap.size) (o := 0) hgrow9 (Nat.lt_of_lt_of_le hwl AL.out.2.2.2.2.1.size) HNG.out).trans (cell_low9 AL.out.2.2.2.2.1 cD); have z6 := (grown_cell9 (b := w3.heap.size) (o := 6) hgrow9 (Nat.lt_of_lt_of_le hwq AL.out.2.2.2.2.1.size) HNQ.out).trans (cell_low9 AL.out.2.2.2.2.1 cJ); have z7 := frozen9 (o := 6) hgrow9 HWE.out (Nat.lt_of_lt_of_le hwq AL.out.2.2.2.2.1.size) HNQ.out AL.out.2.2.2.2.1)
              refine hK.out _ _ ?_ (fun hHeld155 => ?_)
              · (try dsimp only); exact z0
              clear hK K
              try simp only [Act.put, List.setIfInBounds_toArray]
              clear hHeld154
              refine wpAnyH_take (i := 15) (v := ?_) rfl (by kernel_rfl) (by kernel_rfl) (by kernel_rfl) (fun _ _ _ h => h) (Or.inl ⟨by rfl, ?_⟩) (by assumption) ?_
              rotate_left
              · intro w hSw; (try dsimp only at hSw); first | (go_simp; done) | (go_simp; with_reducible rfl) | with_reducible rfl | rfl
              try simp only [Act.put]
              refine wpAnyH_ready (rs := [16]) (by kernel_rfl) (by simp) ?_
              refine AllReadyH.cons (o := { dst := none, op := Op.store 26 (Operand.tmp 46) (Operand.tmp 45), type := 0, pos := "law.go:148", after := #[{ on := 15, ground := Ground.data }, { on := 14, ground := Ground.data }, { on := 14, ground := Ground.chain }, { on := 0, ground := Ground.phase }, { on := 1, ground := Ground.phase }, { on := 2, ground := Ground.phase }, { on := 3, ground := Ground.phase }, { on := 4, ground := Ground.phase }, { on := 5, ground := Ground.phase }, { on := 6, ground := Ground.phase }, { on := 7, ground := Ground.phase }, { on := 8, ground := Ground.phase }, { on := 9, ground := Ground.phase }, { on := 10, ground := Ground.phase }, { on := 11, ground := Ground.phase }, { on := 12, ground := Ground.phase }, { on := 13, ground := Ground.phase }, { on := 14, ground := Ground.phase }], guard := none }) rfl (fun K hK => ?_) ?_
              ·go_simp
               refine hK.out _ _ ?_ (fun hHeld156 => ?_)
               · (try dsimp only); exact (cell_far9 m8).trans z0
               clear hK K
               try simp only [Act.put, List.setIfInBounds_toArray]
               clear hHeld155
               refine wpAnyH_done (by kernel_rfl) ?_ _
               clear hHeld156
               have HP9 := hide (more_leaf HFQ.out HLJ2.out HR2.out HR5.out HBW.out HBB.out HBC.out HW3.out hwq HWE.out AL.out.2.2.2.2.1 (by omega) (by omega) (by omega) AL.out.2.2.1 AL.out.2.1 AL.out.1 hown9 hgrow9 hat9 (by omega) hd3 hl12)
               go_wp2_with fail
               go_meet
               case rel => exact ⟨rfl, g9, cap9, HP9.out⟩
              exact AllReadyH.nil
             exact AllReadyH.nil
            exact AllReadyH.nil
           refine AllReadyH.cons (o := { dst := some 44, op := Op.buildSlice 26 1 #[(0, Operand.tmp 43)], type := 26, pos := "law.go:148", after := #[{ on := 12, ground := Ground.data }], guard := none }) rfl (fun K hK => ?_) ?_
           ·go_simp
            refine hK.out _ _ ?_ (fun hHeld157 => ?_)
            · (try dsimp only); exact cell_low9 (by repeat (first | exact Below.refl _ _ | refine Below.drew ?_ | (refine Below.alloc ?_ (by simp; try omega) _))) cD
            clear hK K
            try simp only [Act.put, List.setIfInBounds_toArray]
            clear hHeld152
            refine wpAnyH_ready (rs := [1]) (by kernel_rfl) (by simp) ?_
            refine AllReadyH.cons (o := { dst := some 32, op := Op.load 26 (Operand.tmp 31), type := 26, pos := "law.go:148", after := #[{ on := 0, ground := Ground.data }], guard := none }) rfl (fun K hK => ?_) ?_
            ·(have c6x : ((((W.alloc (.cells (Array.replicate dd (.int .i64 0)) 3)).alloc (.cells (Array.replicate dd (.int .i64 0)) 3)).alloc (.cells #[.int .i64 0, .int .i64 9] 61)).alloc (.cells #[.int .i64 0, .int .i64 0, .slice (some ⟨W.heap.size + 1 + 1, 0, none⟩) 1 1, .slice (some ⟨W.heap.size + 1, 0, none⟩) dd dd, .slice (some ⟨W.heap.size, 0, none⟩) dd dd, .int .u64 0, .int .i64 pr] 67)).cell? ⟨w3.heap.size, 6, none⟩ = some (.slice (some ⟨g0, 0, none⟩) lj gc) := cell_low9 (by repeat (first | exact Below.refl _ _ | refine Below.drew ?_ | (refine Below.alloc ?_ (by simp; try omega) _))) cJ; go_simp; clear c6x)
             refine hK.out _ _ ?_ (fun hHeld158 => ?_)
             · (try dsimp only); exact cell_low9 (by repeat (first | exact Below.refl _ _ | refine Below.drew ?_ | (refine Below.alloc ?_ (by simp; try omega) _))) cD
             clear hK K
             try simp only [Act.put, List.setIfInBounds_toArray]
             clear hHeld157
             refine wpAnyH_ready (rs := [14]) (by kernel_rfl) (by simp) ?_
             refine AllReadyH.cons (o := { dst := some 45, op := Op.call { callee := Callee.builtin Builtin.append, args := #[Operand.tmp 32, Operand.tmp 44], argTypes := #[26, 26] }, type := 26, pos := "law.go:148", after := #[{ on := 1, ground := Ground.data }, { on := 13, ground := Ground.data }], guard := none }) rfl (fun K hK => ?_) ?_
             ·(have AL := hide (al4 W (.cells (Array.replicate dd (.int .i64 0)) 3) (.cells (Array.replicate dd (.int .i64 0)) 3) (.cells #[.int .i64 0, .int .i64 9] 61) (.cells #[.int .i64 0, .int .i64 0, .slice (some ⟨W.heap.size + 1 + 1, 0, none⟩) 1 1, .slice (some ⟨W.heap.size + 1, 0, none⟩) dd dd, .slice (some ⟨W.heap.size, 0, none⟩) dd dd, .int .u64 0, .int .i64 pr] 67)); refine step_append_lies _ (by rfl) (.tmp 32) (.tmp 44) 26 (by rfl) (w2.heap.size + 2) 67 i0 _ 7 104 Try.underlying26 HI0.out HZ0.out HZ1.out HZ2.out (by rfl) (by decide) (.slice (some ⟨g0, 0, none⟩) lj gc) lj R.flatten (by rfl) (own_later HR1.out (Nat.le_refl _) AL.out.2.2.2.2.1) ⟨W.heap.size + 1 + 1 + 1, 0, none⟩ 1 1 [.int .i64 0, .int .i64 0, .slice (some ⟨W.heap.size + 1 + 1, 0, none⟩) 1 1, .slice (some ⟨W.heap.size + 1, 0, none⟩) dd dd, .slice (some ⟨W.heap.size, 0, none⟩) dd dd, .int .u64 0, .int .i64 pr] (by rfl) (by rfl) (news_of AL.out.2.2.2.1) (by simp [Value.oneCell']) (by decide) HLEN.out HBYT.out (HBAS.out AL.out.2.2.2.2.1.size) (W.heap.size + 1 + 1 + 1 + 1) AL.out.2.2.2.2.2 ?_; intro g9 cap9 w9 hown9 hgrow9 hat9 hlt9; have z0 := (grown_cell9 (b := w.heap.size) (o := 0) hgrow9 (Nat.lt_of_lt_of_le hwl AL.out.2.2.2.2.1.size) HNG.out).trans (cell_low9 AL.out.2.2.2.2.1 cD); have z6 := (grown_cell9 (b := w3.heap.size) (o := 6) hgrow9 (Nat.lt_of_lt_of_le hwq AL.out.2.2.2.2.1.size) HNQ.out).trans (cell_low9 AL.out.2.2.2.2.1 cJ); have z7 := frozen9 (o := 6) hgrow9 HWE.out (Nat.lt_of_lt_of_le hwq AL.out.2.2.2.2.1.size) HNQ.out AL.out.2.2.2.2.1)
              refine hK.out _ _ ?_ (fun hHeld159 => ?_)
              · (try dsimp only); exact z0
              clear hK K
              try simp only [Act.put, List.setIfInBounds_toArray]
              clear hHeld158
              refine wpAnyH_take (i := 15) (v := ?_) rfl (by kernel_rfl) (by kernel_rfl) (by kernel_rfl) (fun _ _ _ h => h) (Or.inl ⟨by rfl, ?_⟩) (by assumption) ?_
              rotate_left
              · intro w hSw; (try dsimp only at hSw); first | (go_simp; done) | (go_simp; with_reducible rfl) | with_reducible rfl | rfl
              try simp only [Act.put]
              refine wpAnyH_ready (rs := [16]) (by kernel_rfl) (by simp) ?_
              refine AllReadyH.cons (o := { dst := none, op := Op.store 26 (Operand.tmp 46) (Operand.tmp 45), type := 0, pos := "law.go:148", after := #[{ on := 15, ground := Ground.data }, { on := 14, ground := Ground.data }, { on := 14, ground := Ground.chain }, { on := 0, ground := Ground.phase }, { on := 1, ground := Ground.phase }, { on := 2, ground := Ground.phase }, { on := 3, ground := Ground.phase }, { on := 4, ground := Ground.phase }, { on := 5, ground := Ground.phase }, { on := 6, ground := Ground.phase }, { on := 7, ground := Ground.phase }, { on := 8, ground := Ground.phase }, { on := 9, ground := Ground.phase }, { on := 10, ground := Ground.phase }, { on := 11, ground := Ground.phase }, { on := 12, ground := Ground.phase }, { on := 13, ground := Ground.phase }, { on := 14, ground := Ground.phase }], guard := none }) rfl (fun K hK => ?_) ?_
              ·go_simp
               refine hK.out _ _ ?_ (fun hHeld160 => ?_)
               · (try dsimp only); exact (cell_far9 m8).trans z0
               clear hK K
               try simp only [Act.put, List.setIfInBounds_toArray]
               clear hHeld159
               refine wpAnyH_done (by kernel_rfl) ?_ _
               clear hHeld160
               have HP9 := hide (more_leaf HFQ.out HLJ2.out HR2.out HR5.out HBW.out HBB.out HBC.out HW3.out hwq HWE.out AL.out.2.2.2.2.1 (by omega) (by omega) (by omega) AL.out.2.2.1 AL.out.2.1 AL.out.1 hown9 hgrow9 hat9 (by omega) hd3 hl12)
               go_wp2_with fail
               go_meet
               case rel => exact ⟨rfl, g9, cap9, HP9.out⟩
              exact AllReadyH.nil
             exact AllReadyH.nil
            exact AllReadyH.nil
           exact AllReadyH.nil
          exact AllReadyH.nil
         exact AllReadyH.nil
        exact AllReadyH.nil
      case rest =>
        obtain ⟨wx, rfl⟩ : ∃ x, x = wc := ⟨_, rfl⟩
        obtain ⟨rfl, HX⟩ := hcut
        obtain ⟨g9, cap9, hx1, hx2, hx3⟩ := HX.out
        have HPq := hide hx1
        have HBq := hide hx2
        have HBw := hide hx3
        clear HX hx1 hx2 hx3 cD cJ fJ hmk HR1 HR2 HR5 HWE HFQ HW3 HI0 HZ0 HZ1 HZ2 um1 um2 um3 um4 um5 m0 m1 m2 m3 m4 m5 m6 m7 m8
        have HLq : Hid (w3.heap.size < wx.heap.size) := by have h9 := HBq.out 0 (by decide); exact block_lt_of_cell (show wx.cell? ⟨w3.heap.size, 0, none⟩ = some (.int .i64 dd) from h9)
        have HLp : Hid (w.heap.size < wx.heap.size) := Nat.lt_of_lt_of_le HSZ.out HBw.out.size
        obtain ⟨L, hL⟩ : ∃ L, tasksM (moreP ⟨(dd : Int), ⟨n, tL⟩, ⟨dn, dL⟩, vL, jL, sL⟩ dd pr) = L := ⟨_, rfl⟩
        have HLL := hide hL
        rw [hL] at HRS HTL
        clear hL
        have y0 : ((0 : Int) != 0) = false := by decide
        have y1 : ((pr : Int) != (pr : Int)) = false := by simp
        have y2 : ((tn : Int) + 1 == (tn : Int) + 1) = true := by simp
        have rp0 : wx.cell? ⟨w.heap.size, 0, none⟩ = some (.int .i64 dd) := (HBX.out.on HSZ.out (below_on HBw.out (Below.refl _ _))) 0 (by decide)
        have rp1 : wx.cell? ⟨w.heap.size, 1, none⟩ = some (.int .i64 n) := (HBX.out.on HSZ.out (below_on HBw.out (Below.refl _ _))) 1 (by decide)
        have rp2 : wx.cell? ⟨w.heap.size, 2, none⟩ = some (.slice ta lt tc) := (HBX.out.on HSZ.out (below_on HBw.out (Below.refl _ _))) 2 (by decide)
        have rp3 : wx.cell? ⟨w.heap.size, 3, none⟩ = some (.int .i64 dn) := (HBX.out.on HSZ.out (below_on HBw.out (Below.refl _ _))) 3 (by decide)
        have rp4 : wx.cell? ⟨w.heap.size, 4, none⟩ = some (.slice da ld dc) := (HBX.out.on HSZ.out (below_on HBw.out (Below.refl _ _))) 4 (by decide)
        have rp5 : wx.cell? ⟨w.heap.size, 5, none⟩ = some (.slice va lv vc) := (HBX.out.on HSZ.out (below_on HBw.out (Below.refl _ _))) 5 (by decide)
        have rp6 : wx.cell? ⟨w.heap.size, 6, none⟩ = some (.slice ja lj jc) := (HBX.out.on HSZ.out (below_on HBw.out (Below.refl _ _))) 6 (by decide)
        have rp7 : wx.cell? ⟨w.heap.size, 7, none⟩ = some (.slice sa ls sc) := (HBX.out.on HSZ.out (below_on HBw.out (Below.refl _ _))) 7 (by decide)
        have rq0 : wx.cell? ⟨w3.heap.size, 0, none⟩ = some (.int .i64 dd) := ((bcell (Below.refl _ _)).1 _ 0 HLq.out).trans (HBq.out 0 (by decide))
        have rq1 : wx.cell? ⟨w3.heap.size, 1, none⟩ = some (.int .i64 n) := ((bcell (Below.refl _ _)).1 _ 1 HLq.out).trans (HBq.out 1 (by decide))
        have rq2 : wx.cell? ⟨w3.heap.size, 2, none⟩ = some (.slice qa lt qc) := ((bcell (Below.refl _ _)).1 _ 2 HLq.out).trans (HBq.out 2 (by decide))
        have rq3 : wx.cell? ⟨w3.heap.size, 3, none⟩ = some (.int .i64 dn) := ((bcell (Below.refl _ _)).1 _ 3 HLq.out).trans (HBq.out 3 (by decide))
        have rq4 : wx.cell? ⟨w3.heap.size, 4, none⟩ = some (.slice ea ld ec) := ((bcell (Below.refl _ _)).1 _ 4 HLq.out).trans (HBq.out 4 (by decide))
        have rq5 : wx.cell? ⟨w3.heap.size, 5, none⟩ = some (.slice fa lv fc) := ((bcell (Below.refl _ _)).1 _ 5 HLq.out).trans (HBq.out 5 (by decide))
        have rq6 : wx.cell? ⟨w3.heap.size, 6, none⟩ = some (.slice (some ⟨g9, 0, none⟩) (lj + 1) cap9) := ((bcell (Below.refl _ _)).1 _ 6 HLq.out).trans (HBq.out 6 (by decide))
        have rq7 : wx.cell? ⟨w3.heap.size, 7, none⟩ = some (.slice ha ls hc) := ((bcell (Below.refl _ _)).1 _ 7 HLq.out).trans (HBq.out 7 (by decide))
        have l0 := HLq.out
        have l1 := HLp.out
        have l2 : ¬ w3.heap.size = wx.heap.size := by omega
        have l3 : ¬ w.heap.size = wx.heap.size := by omega
        go_wp2_with (first | (go_at_call 24; refine (tasks_any (HPq.out.on Ec.out) (by simp only [moreP, List.length_append, List.length_singleton]; have := HTN.out; have := HLJ.out; have := HLS.out; have := HN.out; omega)).mono ?_; rintro e wd ⟨tv, rfl, hr, kk⟩; rw [HLL.out] at hr; obtain ⟨ta9, tc9, rfl⟩ := hr.shape; have HRd := hide hr; clear hr; rw [HTL.out] at HRd ⊢; have Ed := hide (below_on Ec.out kk); have F0 : Hid (wd.cell? ⟨wx.heap.size, 0, none⟩ = some (.bool false)) := ((bcell kk).1 _ 0 lc).trans f0wc; have F1 : Hid (wd.cell? ⟨wx.heap.size, 1, none⟩ = some (.int .i64 lj)) := ((bcell kk).1 _ 1 lc).trans f1wc; have Ld : Hid (wx.heap.size < wd.heap.size) := (Nat.lt_of_lt_of_le lc kk.size); clear kk f0wc f1wc lc cp0 cp1 cp2 cp3 cp4 cp5 cp6 cp7 cq0 cq1 cq2 cq3 cq4 cq5 cq6 cq7) | (go_at_call 26; refine (there_any (HPE.out.on (below_on HBw.out Eb.out)) _ _).mono ?_; rintro e wc ⟨rfl, kk⟩; rw [HTH.out]; have Ec := hide (below_on Eb.out kk); have f0wc : wc.cell? ⟨wx.heap.size, 0, none⟩ = some (.bool false) := ((bcell kk).1 _ 0 lb).trans f0wb; have f1wc : wc.cell? ⟨wx.heap.size, 1, none⟩ = some (.int .i64 lj) := ((bcell kk).1 _ 1 lb).trans f1wb; have lc : wx.heap.size < wc.heap.size := (Nat.lt_of_lt_of_le lb kk.size); have cp0 : wc.cell? ⟨w.heap.size, 0, none⟩ = some (.int .i64 dd) := (HBX.out.on HSZ.out (below_on HBw.out Ec.out)) 0 (by decide); have cp1 : wc.cell? ⟨w.heap.size, 1, none⟩ = some (.int .i64 n) := (HBX.out.on HSZ.out (below_on HBw.out Ec.out)) 1 (by decide); have cp2 : wc.cell? ⟨w.heap.size, 2, none⟩ = some (.slice ta lt tc) := (HBX.out.on HSZ.out (below_on HBw.out Ec.out)) 2 (by decide); have cp3 : wc.cell? ⟨w.heap.size, 3, none⟩ = some (.int .i64 dn) := (HBX.out.on HSZ.out (below_on HBw.out Ec.out)) 3 (by decide); have cp4 : wc.cell? ⟨w.heap.size, 4, none⟩ = some (.slice da ld dc) := (HBX.out.on HSZ.out (below_on HBw.out Ec.out)) 4 (by decide); have cp5 : wc.cell? ⟨w.heap.size, 5, none⟩ = some (.slice va lv vc) := (HBX.out.on HSZ.out (below_on HBw.out Ec.out)) 5 (by decide); have cp6 : wc.cell? ⟨w.heap.size, 6, none⟩ = some (.slice ja lj jc) := (HBX.out.on HSZ.out (below_on HBw.out Ec.out)) 6 (by decide); have cp7 : wc.cell? ⟨w.heap.size, 7, none⟩ = some (.slice sa ls sc) := (HBX.out.on HSZ.out (below_on HBw.out Ec.out)) 7 (by decide); have cq0 : wc.cell? ⟨w3.heap.size, 0, none⟩ = some (.int .i64 dd) := ((bcell Ec.out).1 _ 0 HLq.out).trans (HBq.out 0 (by decide)); have cq1 : wc.cell? ⟨w3.heap.size, 1, none⟩ = some (.int .i64 n) := ((bcell Ec.out).1 _ 1 HLq.out).trans (HBq.out 1 (by decide)); have cq2 : wc.cell? ⟨w3.heap.size, 2, none⟩ = some (.slice qa lt qc) := ((bcell Ec.out).1 _ 2 HLq.out).trans (HBq.out 2 (by decide)); have cq3 : wc.cell? ⟨w3.heap.size, 3, none⟩ = some (.int .i64 dn) := ((bcell Ec.out).1 _ 3 HLq.out).trans (HBq.out 3 (by decide)); have cq4 : wc.cell? ⟨w3.heap.size, 4, none⟩ = some (.slice ea ld ec) := ((bcell Ec.out).1 _ 4 HLq.out).trans (HBq.out 4 (by decide)); have cq5 : wc.cell? ⟨w3.heap.size, 5, none⟩ = some (.slice fa lv fc) := ((bcell Ec.out).1 _ 5 HLq.out).trans (HBq.out 5 (by decide)); have cq6 : wc.cell? ⟨w3.heap.size, 6, none⟩ = some (.slice (some ⟨g9, 0, none⟩) (lj + 1) cap9) := ((bcell Ec.out).1 _ 6 HLq.out).trans (HBq.out 6 (by decide)); have cq7 : wc.cell? ⟨w3.heap.size, 7, none⟩ = some (.slice ha ls hc) := ((bcell Ec.out).1 _ 7 HLq.out).trans (HBq.out 7 (by decide)); clear kk f0wb f1wb lb bp0 bp1 bp2 bp3 bp4 bp5 bp6 bp7 bq0 bq1 bq2 bq3 bq4 bq5 bq6 bq7) | (go_at_call 28; refine (priority12_any (HPq.out.on Ea.out) _ _).mono ?_; rintro e wb ⟨rfl, kk⟩; rw [HPR.out]; have Eb := hide (below_on Ea.out kk); have f0wb : wb.cell? ⟨wx.heap.size, 0, none⟩ = some (.bool false) := ((bcell kk).1 _ 0 la).trans f0wa; have f1wb : wb.cell? ⟨wx.heap.size, 1, none⟩ = some (.int .i64 lj) := ((bcell kk).1 _ 1 la).trans f1wa; have lb : wx.heap.size < wb.heap.size := (Nat.lt_of_lt_of_le la kk.size); have bp0 : wb.cell? ⟨w.heap.size, 0, none⟩ = some (.int .i64 dd) := (HBX.out.on HSZ.out (below_on HBw.out Eb.out)) 0 (by decide); have bp1 : wb.cell? ⟨w.heap.size, 1, none⟩ = some (.int .i64 n) := (HBX.out.on HSZ.out (below_on HBw.out Eb.out)) 1 (by decide); have bp2 : wb.cell? ⟨w.heap.size, 2, none⟩ = some (.slice ta lt tc) := (HBX.out.on HSZ.out (below_on HBw.out Eb.out)) 2 (by decide); have bp3 : wb.cell? ⟨w.heap.size, 3, none⟩ = some (.int .i64 dn) := (HBX.out.on HSZ.out (below_on HBw.out Eb.out)) 3 (by decide); have bp4 : wb.cell? ⟨w.heap.size, 4, none⟩ = some (.slice da ld dc) := (HBX.out.on HSZ.out (below_on HBw.out Eb.out)) 4 (by decide); have bp5 : wb.cell? ⟨w.heap.size, 5, none⟩ = some (.slice va lv vc) := (HBX.out.on HSZ.out (below_on HBw.out Eb.out)) 5 (by decide); have bp6 : wb.cell? ⟨w.heap.size, 6, none⟩ = some (.slice ja lj jc) := (HBX.out.on HSZ.out (below_on HBw.out Eb.out)) 6 (by decide); have bp7 : wb.cell? ⟨w.heap.size, 7, none⟩ = some (.slice sa ls sc) := (HBX.out.on HSZ.out (below_on HBw.out Eb.out)) 7 (by decide); have bq0 : wb.cell? ⟨w3.heap.size, 0, none⟩ = some (.int .i64 dd) := ((bcell Eb.out).1 _ 0 HLq.out).trans (HBq.out 0 (by decide)); have bq1 : wb.cell? ⟨w3.heap.size, 1, none⟩ = some (.int .i64 n) := ((bcell Eb.out).1 _ 1 HLq.out).trans (HBq.out 1 (by decide)); have bq2 : wb.cell? ⟨w3.heap.size, 2, none⟩ = some (.slice qa lt qc) := ((bcell Eb.out).1 _ 2 HLq.out).trans (HBq.out 2 (by decide)); have bq3 : wb.cell? ⟨w3.heap.size, 3, none⟩ = some (.int .i64 dn) := ((bcell Eb.out).1 _ 3 HLq.out).trans (HBq.out 3 (by decide)); have bq4 : wb.cell? ⟨w3.heap.size, 4, none⟩ = some (.slice ea ld ec) := ((bcell Eb.out).1 _ 4 HLq.out).trans (HBq.out 4 (by decide)); have bq5 : wb.cell? ⟨w3.heap.size, 5, none⟩ = some (.slice fa lv fc) := ((bcell Eb.out).1 _ 5 HLq.out).trans (HBq.out 5 (by decide)); have bq6 : wb.cell? ⟨w3.heap.size, 6, none⟩ = some (.slice (some ⟨g9, 0, none⟩) (lj + 1) cap9) := ((bcell Eb.out).1 _ 6 HLq.out).trans (HBq.out 6 (by decide)); have bq7 : wb.cell? ⟨w3.heap.size, 7, none⟩ = some (.slice ha ls hc) := ((bcell Eb.out).1 _ 7 HLq.out).trans (HBq.out 7 (by decide)); clear kk f0wa f1wa la ap0 ap1 ap2 ap3 ap4 ap5 ap6 ap7 aq0 aq1 aq2 aq3 aq4 aq5 aq6 aq7) | (go_at_call 34; refine (check_any (HPq.out.on ((Below.refl _ _).alloc (Nat.le_refl _) _))).mono ?_; rintro e wa ⟨rfl, kk⟩; rw [HMP.out]; have Ea := hide (below_on ((Below.refl wx.heap.size wx).alloc (Nat.le_refl _) (.cells #[.bool false, .int .i64 lj] 31)) kk); have f0wa : wa.cell? ⟨wx.heap.size, 0, none⟩ = some (.bool false) := ((bcell kk).1 _ 0 (by simp)).trans (by simp [go_sem]); have f1wa : wa.cell? ⟨wx.heap.size, 1, none⟩ = some (.int .i64 lj) := ((bcell kk).1 _ 1 (by simp)).trans (by simp [go_sem]); have la : wx.heap.size < wa.heap.size := (by have := kk.size; simp at this; omega); have ap0 : wa.cell? ⟨w.heap.size, 0, none⟩ = some (.int .i64 dd) := (HBX.out.on HSZ.out (below_on HBw.out Ea.out)) 0 (by decide); have ap1 : wa.cell? ⟨w.heap.size, 1, none⟩ = some (.int .i64 n) := (HBX.out.on HSZ.out (below_on HBw.out Ea.out)) 1 (by decide); have ap2 : wa.cell? ⟨w.heap.size, 2, none⟩ = some (.slice ta lt tc) := (HBX.out.on HSZ.out (below_on HBw.out Ea.out)) 2 (by decide); have ap3 : wa.cell? ⟨w.heap.size, 3, none⟩ = some (.int .i64 dn) := (HBX.out.on HSZ.out (below_on HBw.out Ea.out)) 3 (by decide); have ap4 : wa.cell? ⟨w.heap.size, 4, none⟩ = some (.slice da ld dc) := (HBX.out.on HSZ.out (below_on HBw.out Ea.out)) 4 (by decide); have ap5 : wa.cell? ⟨w.heap.size, 5, none⟩ = some (.slice va lv vc) := (HBX.out.on HSZ.out (below_on HBw.out Ea.out)) 5 (by decide); have ap6 : wa.cell? ⟨w.heap.size, 6, none⟩ = some (.slice ja lj jc) := (HBX.out.on HSZ.out (below_on HBw.out Ea.out)) 6 (by decide); have ap7 : wa.cell? ⟨w.heap.size, 7, none⟩ = some (.slice sa ls sc) := (HBX.out.on HSZ.out (below_on HBw.out Ea.out)) 7 (by decide); have aq0 : wa.cell? ⟨w3.heap.size, 0, none⟩ = some (.int .i64 dd) := ((bcell Ea.out).1 _ 0 HLq.out).trans (HBq.out 0 (by decide)); have aq1 : wa.cell? ⟨w3.heap.size, 1, none⟩ = some (.int .i64 n) := ((bcell Ea.out).1 _ 1 HLq.out).trans (HBq.out 1 (by decide)); have aq2 : wa.cell? ⟨w3.heap.size, 2, none⟩ = some (.slice qa lt qc) := ((bcell Ea.out).1 _ 2 HLq.out).trans (HBq.out 2 (by decide)); have aq3 : wa.cell? ⟨w3.heap.size, 3, none⟩ = some (.int .i64 dn) := ((bcell Ea.out).1 _ 3 HLq.out).trans (HBq.out 3 (by decide)); have aq4 : wa.cell? ⟨w3.heap.size, 4, none⟩ = some (.slice ea ld ec) := ((bcell Ea.out).1 _ 4 HLq.out).trans (HBq.out 4 (by decide)); have aq5 : wa.cell? ⟨w3.heap.size, 5, none⟩ = some (.slice fa lv fc) := ((bcell Ea.out).1 _ 5 HLq.out).trans (HBq.out 5 (by decide)); have aq6 : wa.cell? ⟨w3.heap.size, 6, none⟩ = some (.slice (some ⟨g9, 0, none⟩) (lj + 1) cap9) := ((bcell Ea.out).1 _ 6 HLq.out).trans (HBq.out 6 (by decide)); have aq7 : wa.cell? ⟨w3.heap.size, 7, none⟩ = some (.slice ha ls hc) := ((bcell Ea.out).1 _ 7 HLq.out).trans (HBq.out 7 (by decide)); clear kk rp0 rp1 rp2 rp3 rp4 rp5 rp6 rp7 rq0 rq1 rq2 rq3 rq4 rq5 rq6 rq7 l2 l3) | fail)
        have hbig : tn + 1 ≤ 100 := by have := HN.out; omega
        go_loopw [69, 7] (fun vi vr wr => ∃ (k m : Nat) (ra : Option Addr) (rc : Nat), vi = .int .i64 k ∧ vr = .slice ra m rc ∧ k ≤ tn + 1 ∧ Hid (((L.take k).filter fun t => decide (t ≠ (false, (lj : Int)))).length = m) ∧ Hid (TRow wr wd.heap.size (.slice ra m rc) ((L.take k).filter fun t => decide (t ≠ (false, (lj : Int))))) ∧ Hid (Below wd.heap.size wd wr)) (fun vi _ _ => tn + 1 - (intOf vi).toNat)
        case atStart => exact ⟨0, 0, none, 0, rfl, rfl, Nat.zero_le _, rfl, World.ownsRow_nil _ _ _ _, Below.refl _ _⟩
        case round =>
          obtain ⟨k, m, ra, rc, rfl, rfl, hk, HM, HRW, HBr⟩ := hrel
          by_cases hkn : k < tn + 1
          · have i3 : (k : Int) < (tn : Int) + 1 := by omega
            have i4 : (0 : Int) ≤ (k : Int) := by omega
            have i4b : ¬ (tn : Int) + 1 ≤ (k : Int) := by omega
            have i4c : k < tn + 1 := hkn
            have hm100 : m ≤ 100 := by rw [← HM.out]; have h9 := List.length_filter_le (fun t => decide (t ≠ ((false, (lj : Int)) : Tsk))) (L.take k); have := List.length_take_le k L; omega
            obtain ⟨⟨s, i⟩, ht⟩ : ∃ t, L[k]? = some t := ⟨_, List.getElem?_eq_getElem (by rw [HTL.out]; exact hkn)⟩
            obtain ⟨g, e9, c1, c2, _⟩ := row_at HRd.out ht
            subst e9
            have hgl : g < wd.heap.size := HRd.out.lt2 g rfl
            simp only at c1 c2
            have d1 : wr.cell? ⟨g, k * 2, none⟩ = some (.bool s) := ((bcell HBr.out).1 _ _ hgl).trans c1
            have d2 : wr.cell? ⟨g, k * 2 + 1, none⟩ = some (.int .i64 i) := ((bcell HBr.out).1 _ _ hgl).trans c2
            have d3 : wr.cell? ⟨wx.heap.size, 0, none⟩ = some (.bool false) := ((bcell HBr.out).1 _ _ Ld.out).trans F0.out
            have d4 : wr.cell? ⟨wx.heap.size, 1, none⟩ = some (.int .i64 lj) := ((bcell HBr.out).1 _ _ Ld.out).trans F1.out
            have d5 : wx.heap.size < wr.heap.size := Nat.lt_of_lt_of_le Ld.out HBr.out.size
            have d6 : ¬ wx.heap.size = wr.heap.size := by omega
            have HT := hide ht
            have HA9 : Hid (Below wd.heap.size wd (wr.alloc (.cells #[.bool s, .int .i64 i] 31))) := HBr.out.alloc HBr.out.size _
            have HR9 : Hid (TRow (wr.alloc (.cells #[.bool s, .int .i64 i] 31)) wd.heap.size (.slice ra m rc) ((L.take k).filter fun t => decide (t ≠ (false, (lj : Int))))) := HRW.out.later (Nat.le_refl _) ((Below.refl _ _).alloc (Nat.le_refl _) _)
            have HS9 : Hid (wd.heap.size ≤ (wr.alloc (.cells #[.bool s, .int .i64 i] 31)).heap.size) := HA9.out.size
            clear c1 c2 ht hgl
            by_cases hne : ((s, i) : Tsk) = (false, (lj : Int))
            · injection hne with hs9 hi9
              subst hs9 hi9
              have j4 : ((lj : Int) == (lj : Int)) = true := by simp
              go_wp2
              go_roundw
              case rel => exact ⟨k + 1, m, ra, rc, by go_num, rfl, by omega, by show _ = _; rw [filter_step HT.out, if_pos rfl]; exact HM.out, by rw [filter_step HT.out, if_pos rfl]; exact HR9.out, HA9.out⟩
              case measure => simp [intOf]; omega
            · have HNE := hide hne
              cases s with
              | true =>
                clear hne
                go_wp2_with (at_builtin; refine app_tsk (t := (true, i)) (.tmp 76) (.tmp 78) rfl rfl rfl (by simp [go_sem]) HR9.out HM.out (by omega) HS9.out ?_; intro g1 cap1 w1' k1 k2; have K1 := hide k1; have K2 := hide (HA9.out.trans k2); clear k1 k2)
                go_roundw
                case rel => exact ⟨k + 1, m + 1, some ⟨g1, 0, none⟩, cap1, by go_num, rfl, by omega, by show _ = _; rw [filter_step HT.out, if_neg HNE.out, List.length_append, HM.out]; rfl, by rw [filter_step HT.out, if_neg HNE.out]; exact K1.out, K2.out⟩
                case measure => simp [intOf]; omega
              | false =>
                have j5 : (i == (lj : Int)) = false := by simpa using fun e => hne (by rw [e])
                clear hne
                go_wp2_with (at_builtin; refine app_tsk (t := (false, i)) (.tmp 76) (.tmp 78) rfl rfl rfl (by simp [go_sem]) HR9.out HM.out (by omega) HS9.out ?_; intro g1 cap1 w1' k1 k2; have K1 := hide k1; have K2 := hide (HA9.out.trans k2); clear k1 k2)
                go_roundw
                case rel => exact ⟨k + 1, m + 1, some ⟨g1, 0, none⟩, cap1, by go_num, rfl, by omega, by show _ = _; rw [filter_step HT.out, if_neg HNE.out, List.length_append, HM.out]; rfl, by rw [filter_step HT.out, if_neg HNE.out]; exact K1.out, K2.out⟩
                case measure => simp [intOf]; omega
          · have i3 : ¬ (k : Int) < (tn : Int) + 1 := by omega
            have hkk : k = tn + 1 := by omega
            have HW9 : Hid ((L.take k).filter (fun t => decide (t ≠ (false, (lj : Int)))) = tasksM ⟨(dd : Int), ⟨n, tL⟩, ⟨dn, dL⟩, vL, jL, sL⟩) := by show _ = _; rw [List.take_of_length_le (by rw [HTL.out]; omega)]; exact HRS.out
            rw [HW9.out] at HM HRW
            have hmt : m = tn := HM.out.symm.trans HTP.out
            subst hmt
            have HEr := hide (below_on Ed.out HBr.out)
            have HTB : Hid ((tasksM ⟨(dd : Int), ⟨n, tL⟩, ⟨dn, dL⟩, vL, jL, sL⟩).length * 16 ≤ 140737488351232) := by show _ ≤ _; rw [HM.out]; omega
            clear hkk hkn hk
            have sp0 : wr.cell? ⟨w.heap.size, 0, none⟩ = some (.int .i64 dd) := (HBX.out.on HSZ.out (below_on HBw.out HEr.out)) 0 (by decide)
            have sp1 : wr.cell? ⟨w.heap.size, 1, none⟩ = some (.int .i64 n) := (HBX.out.on HSZ.out (below_on HBw.out HEr.out)) 1 (by decide)
            have sp2 : wr.cell? ⟨w.heap.size, 2, none⟩ = some (.slice ta lt tc) := (HBX.out.on HSZ.out (below_on HBw.out HEr.out)) 2 (by decide)
            have sp3 : wr.cell? ⟨w.heap.size, 3, none⟩ = some (.int .i64 dn) := (HBX.out.on HSZ.out (below_on HBw.out HEr.out)) 3 (by decide)
            have sp4 : wr.cell? ⟨w.heap.size, 4, none⟩ = some (.slice da ld dc) := (HBX.out.on HSZ.out (below_on HBw.out HEr.out)) 4 (by decide)
            have sp5 : wr.cell? ⟨w.heap.size, 5, none⟩ = some (.slice va lv vc) := (HBX.out.on HSZ.out (below_on HBw.out HEr.out)) 5 (by decide)
            have sp6 : wr.cell? ⟨w.heap.size, 6, none⟩ = some (.slice ja lj jc) := (HBX.out.on HSZ.out (below_on HBw.out HEr.out)) 6 (by decide)
            have sp7 : wr.cell? ⟨w.heap.size, 7, none⟩ = some (.slice sa ls sc) := (HBX.out.on HSZ.out (below_on HBw.out HEr.out)) 7 (by decide)
            have sq0 : wr.cell? ⟨w3.heap.size, 0, none⟩ = some (.int .i64 dd) := ((bcell HEr.out).1 _ 0 HLq.out).trans (HBq.out 0 (by decide))
            have sq1 : wr.cell? ⟨w3.heap.size, 1, none⟩ = some (.int .i64 n) := ((bcell HEr.out).1 _ 1 HLq.out).trans (HBq.out 1 (by decide))
            have sq2 : wr.cell? ⟨w3.heap.size, 2, none⟩ = some (.slice qa lt qc) := ((bcell HEr.out).1 _ 2 HLq.out).trans (HBq.out 2 (by decide))
            have sq3 : wr.cell? ⟨w3.heap.size, 3, none⟩ = some (.int .i64 dn) := ((bcell HEr.out).1 _ 3 HLq.out).trans (HBq.out 3 (by decide))
            have sq4 : wr.cell? ⟨w3.heap.size, 4, none⟩ = some (.slice ea ld ec) := ((bcell HEr.out).1 _ 4 HLq.out).trans (HBq.out 4 (by decide))
            have sq5 : wr.cell? ⟨w3.heap.size, 5, none⟩ = some (.slice fa lv fc) := ((bcell HEr.out).1 _ 5 HLq.out).trans (HBq.out 5 (by decide))
            have sq6 : wr.cell? ⟨w3.heap.size, 6, none⟩ = some (.slice (some ⟨g9, 0, none⟩) (lj + 1) cap9) := ((bcell HEr.out).1 _ 6 HLq.out).trans (HBq.out 6 (by decide))
            have sq7 : wr.cell? ⟨w3.heap.size, 7, none⟩ = some (.slice ha ls hc) := ((bcell HEr.out).1 _ 7 HLq.out).trans (HBq.out 7 (by decide))
            go_wp2_with (first | (go_at_call 23; refine (sameTasks_any (prv_tasks HRg.out HTB.out) (prv_tasks HRf.out HTB.out)).mono ?_; rintro e wg ⟨rfl, kk⟩; have Eg := hide (below_on Ef.out kk); clear kk) | (go_at_call 24; have HMK := HMK1; clear HMK HMK1; refine (tasks_any (HPE.out.on (below_on HBw.out Ee.out)) (by have := HTN.out; have := HLJ.out; have := HLS.out; have := HN.out; simp only; omega)).mono ?_; rintro e wf ⟨tv2, rfl, hr2, kk⟩; have HRf := hide hr2; have Ef := hide (below_on Ee.out kk); have HRg := hide (HRe.out.later (Nat.le_refl _) kk); clear kk hr2 ep0 ep1 ep2 ep3 ep4 ep5 ep6 ep7 eq0 eq1 eq2 eq3 eq4 eq5 eq6 eq7) | (go_at_call 24; refine (tasks_any (HPq.out.on HEr.out) (by simp only [moreP, List.length_append, List.length_singleton]; have := HTN.out; have := HLJ.out; have := HLS.out; have := HN.out; omega)).mono ?_; rintro e we ⟨tv, rfl, hr, kk⟩; rw [HLL.out] at hr; obtain ⟨ta8, tc8, rfl⟩ := hr.shape; clear hr; rw [HTL.out]; have HMK1 : Hid True := trivial; have Ee := hide (below_on HEr.out kk); have HRe := hide (HRW.out.later (Nat.le_refl _) kk); have ep0 : we.cell? ⟨w.heap.size, 0, none⟩ = some (.int .i64 dd) := (HBX.out.on HSZ.out (below_on HBw.out Ee.out)) 0 (by decide); have ep1 : we.cell? ⟨w.heap.size, 1, none⟩ = some (.int .i64 n) := (HBX.out.on HSZ.out (below_on HBw.out Ee.out)) 1 (by decide); have ep2 : we.cell? ⟨w.heap.size, 2, none⟩ = some (.slice ta lt tc) := (HBX.out.on HSZ.out (below_on HBw.out Ee.out)) 2 (by decide); have ep3 : we.cell? ⟨w.heap.size, 3, none⟩ = some (.int .i64 dn) := (HBX.out.on HSZ.out (below_on HBw.out Ee.out)) 3 (by decide); have ep4 : we.cell? ⟨w.heap.size, 4, none⟩ = some (.slice da ld dc) := (HBX.out.on HSZ.out (below_on HBw.out Ee.out)) 4 (by decide); have ep5 : we.cell? ⟨w.heap.size, 5, none⟩ = some (.slice va lv vc) := (HBX.out.on HSZ.out (below_on HBw.out Ee.out)) 5 (by decide); have ep6 : we.cell? ⟨w.heap.size, 6, none⟩ = some (.slice ja lj jc) := (HBX.out.on HSZ.out (below_on HBw.out Ee.out)) 6 (by decide); have ep7 : we.cell? ⟨w.heap.size, 7, none⟩ = some (.slice sa ls sc) := (HBX.out.on HSZ.out (below_on HBw.out Ee.out)) 7 (by decide); have eq0 : we.cell? ⟨w3.heap.size, 0, none⟩ = some (.int .i64 dd) := ((bcell Ee.out).1 _ 0 HLq.out).trans (HBq.out 0 (by decide)); have eq1 : we.cell? ⟨w3.heap.size, 1, none⟩ = some (.int .i64 n) := ((bcell Ee.out).1 _ 1 HLq.out).trans (HBq.out 1 (by decide)); have eq2 : we.cell? ⟨w3.heap.size, 2, none⟩ = some (.slice qa lt qc) := ((bcell Ee.out).1 _ 2 HLq.out).trans (HBq.out 2 (by decide)); have eq3 : we.cell? ⟨w3.heap.size, 3, none⟩ = some (.int .i64 dn) := ((bcell Ee.out).1 _ 3 HLq.out).trans (HBq.out 3 (by decide)); have eq4 : we.cell? ⟨w3.heap.size, 4, none⟩ = some (.slice ea ld ec) := ((bcell Ee.out).1 _ 4 HLq.out).trans (HBq.out 4 (by decide)); have eq5 : we.cell? ⟨w3.heap.size, 5, none⟩ = some (.slice fa lv fc) := ((bcell Ee.out).1 _ 5 HLq.out).trans (HBq.out 5 (by decide)); have eq6 : we.cell? ⟨w3.heap.size, 6, none⟩ = some (.slice (some ⟨g9, 0, none⟩) (lj + 1) cap9) := ((bcell Ee.out).1 _ 6 HLq.out).trans (HBq.out 6 (by decide)); have eq7 : we.cell? ⟨w3.heap.size, 7, none⟩ = some (.slice ha ls hc) := ((bcell Ee.out).1 _ 7 HLq.out).trans (HBq.out 7 (by decide)); clear kk sp0 sp1 sp2 sp3 sp4 sp5 sp6 sp7 sq0 sq1 sq2 sq3 sq4 sq5 sq6 sq7) | fail)
            go_ret
            exact ⟨rfl, below_on HB0.out (below_on HBw.out Eg.out)⟩
end Go.Proofs.Ytgjpkpmikbpcnaa
