/-
  What the law ModelTasks does.
-/
import Derived.Test.YtgjpkpmikbpcnaaAwk
import Derived.Test.YtgjpkpmikbpcnaaRChk
import Derived.Test.YtgjpkpmikbpcnaaTMap
import Derived.Test.YtgjpkpmikbpcnaaTskP
import Derived.Test.YtgjpkpmikbpcnaaCpX
namespace Go.Proofs.Ytgjpkpmikbpcnaa
open Go.RowKit

theorem row_at {w : World} {base n k : Nat} {va : Option Addr} {vc : Nat} {L : List Tsk} {t : Tsk} (h : TRow w base (.slice va n vc) L) (ht : L[k]? = some t) : ∃ g, va = some ⟨g, 0, none⟩ ∧ w.cell? ⟨g, k * 2, none⟩ = some (.bool t.1) ∧ w.cell? ⟨g, k * 2 + 1, none⟩ = some (.int .i64 t.2) ∧ L.length = n := by
  have hk := (List.getElem?_eq_some_iff.1 ht).1
  rcases h.2 with ⟨e, e2⟩ | ⟨g, cap, cur, e, _⟩
  · omega
  · injection e with e1 e2 e3
    subst e1 e3
    have e2' : n = L.length := e2
    subst e2'
    have := TRow.cells h k t ht
    exact ⟨g, rfl, this.1, this.2, rfl⟩
theorem TRow.lt2 {w : World} {base : Nat} {v : Value} {L : List Tsk} (h : TRow w base v L) : ∀ g, v.ownBlock = some g → g < w.heap.size := fun g hg => (World.ownsRow.lt h g hg).2
def lastM (p : Prb) (L : List Tsk) (k : Nat) : Int := if k = 0 then 101 else prioM p (L.getD (k - 1) (false, 0))
theorem lawM_few'' {p : Prb} (h : lawM p = true) : p.js.length + p.ss.length ≤ 12 := by
  obtain ⟨_, _, _, h4, _⟩ := lawM_ok h
  unfold fewB at h4
  exact (of_decide_eq_true h4).2
theorem last_ok {p : Prb} (h : lawM p = true) {k : Nat} {t : Tsk} (ht : (tasksM p)[k]? = some t) : ¬ lastM p (tasksM p) k < prioM p t := by
  obtain ⟨hk, e⟩ := List.getElem?_eq_some_iff.1 ht
  unfold lastM
  split
  · have := prio_le h (List.mem_of_getElem? ht); omega
  · have h1 := tasksM_srt p (i := k - 1) (j := k) (by omega) hk
    rw [e] at h1
    rw [List.getD_eq_getElem?_getD, List.getElem?_eq_getElem (by omega)]
    simp only [Option.getD_some]
    omega
theorem last_succ {p : Prb} {L : List Tsk} {k : Nat} {t : Tsk} (ht : L[k]? = some t) : lastM p L (k + 1) = prioM p t := by
  unfold lastM
  rw [if_neg (by omega), Nat.add_sub_cancel, List.getD_eq_getElem?_getD, ht]
  rfl
theorem take_mem {L : List Tsk} {k : Nat} {t : Tsk} (ht : L[k]? = some t) (u : Tsk) : (if u = t then Value.bool true else .bool (decide (u ∈ L.take k))) = .bool (decide (u ∈ L.take (k + 1))) := by
  obtain ⟨hk, e⟩ := List.getElem?_eq_some_iff.1 ht
  rw [List.take_succ_eq_append_getElem hk, e]
  by_cases h : u = t
  · rw [if_pos h]; simp [h]
  · rw [if_neg h]; simp [h]
theorem not_seen {L : List Tsk} (hn : L.Nodup) {k : Nat} {t : Tsk} (ht : L[k]? = some t) : decide (t ∈ L.take k) = false := by
  obtain ⟨hk, e⟩ := List.getElem?_eq_some_iff.1 ht
  rw [decide_eq_false_iff_not]
  intro hm
  obtain ⟨j, hj, e2⟩ := List.mem_iff_getElem.1 hm
  rw [List.getElem_take] at e2
  have hjk : j < k := by have := List.length_take_le k L; omega
  have := (List.nodup_iff_pairwise_ne.1 hn)
  exact List.pairwise_iff_getElem.1 this j k (by omega) hk hjk (by rw [e2, e])
theorem task_i64 {p : Prb} {t : Tsk} (h : t ∈ tasksM p) (hf : p.js.length + p.ss.length ≤ 12) : I64 t.2 := by
  rcases tasksM_mem.1 h with ⟨i, hi, rfl⟩ | ⟨i, hi, rfl⟩ <;> exact ⟨by simp only; omega, by simp only; omega⟩
set_option maxRecDepth 100000 in
set_option maxHeartbeats 12800000 in
theorem tsksL_any {w : World} {x : PrbS} {p : Prb} (h : PrbV w x p) : Calls Try.prog 4 #[.agg (prbE p x)] w fun e w' => e = .returned (.bool true) ∧ Below w.heap.size w w' := by
  obtain ⟨ta, tc, da, dc, va, vc, ja, jc, sa, sc, rfl⟩ := h.open
  have HP := hide h
  have hv := SlV.bound h.v
  have hj := SlV.bound h.j
  have hs := SlV.bound h.s
  have ht := IntsV.bound h.t
  have hd := IntsV.bound h.d
  clear h
  obtain ⟨bb, hbb⟩ : ∃ b, lawM p = b := ⟨_, rfl⟩
  have HL := hide hbb
  clear hbb
  unfold prbE
  obtain ⟨d, ⟨n, tL⟩, ⟨dn, dL⟩, vL, jL, sL⟩ := p
  simp only at HP hv hj hs ht hd HL ⊢
  obtain ⟨lt, hlt⟩ : ∃ k, tL.length = k := ⟨_, rfl⟩
  obtain ⟨ld, hld⟩ : ∃ k, dL.length = k := ⟨_, rfl⟩
  obtain ⟨lv, hlv⟩ : ∃ k, vL.length = k := ⟨_, rfl⟩
  obtain ⟨lj, hlj⟩ : ∃ k, jL.length = k := ⟨_, rfl⟩
  obtain ⟨ls, hls⟩ : ∃ k, sL.length = k := ⟨_, rfl⟩
  have HLT := hide hlt
  have HLD := hide hld
  have HLV := hide hlv
  have HLJ := hide hlj
  have HLS := hide hls
  rw [hlt, hld, hlv, hlj, hls] at HP
  rw [hlt] at ht
  rw [hld] at hd
  rw [hlv] at hv
  rw [hlj] at hj
  rw [hls] at hs
  rw [hlt, hld, hlv, hlj, hls]
  clear hlt hld hlv hlj hls
  have HB0 : Hid (Below w.heap.size w (w.alloc (.cells #[.int .i64 d, .int .i64 n, .slice ta lt tc, .int .i64 dn, .slice da ld dc, .slice va lv vc, .slice ja lj jc, .slice sa ls sc] 29))) := (Below.refl _ _).alloc (Nat.le_refl _) _
  have HPE : Hid (PrbV (w.alloc (.cells #[.int .i64 d, .int .i64 n, .slice ta lt tc, .int .i64 dn, .slice da ld dc, .slice va lv vc, .slice ja lj jc, .slice sa ls sc] 29)) ⟨.slice ta lt tc, .slice da ld dc, .slice va lv vc, .slice ja lj jc, .slice sa ls sc⟩ ⟨d, ⟨n, tL⟩, ⟨dn, dL⟩, vL, jL, sL⟩) := HP.out.on HB0.out
  have HBX : Hid (BoxP (w.alloc (.cells #[.int .i64 d, .int .i64 n, .slice ta lt tc, .int .i64 dn, .slice da ld dc, .slice va lv vc, .slice ja lj jc, .slice sa ls sc] 29)) w.heap.size ⟨d, ⟨n, tL⟩, ⟨dn, dL⟩, vL, jL, sL⟩ ⟨.slice ta lt tc, .slice da ld dc, .slice va lv vc, .slice ja lj jc, .slice sa ls sc⟩) := fun j hj => by
    have hr := heap_alloc_new w (.cells #[.int .i64 d, .int .i64 n, .slice ta lt tc, .int .i64 dn, .slice da ld dc, .slice va lv vc, .slice ja lj jc, .slice sa ls sc] 29)
    rw [cell_of_row _ _ _ _ _ _ hr]
    rfl
  have HSZ : Hid (w.heap.size < (w.alloc (.cells #[.int .i64 d, .int .i64 n, .slice ta lt tc, .int .i64 dn, .slice da ld dc, .slice va lv vc, .slice ja lj jc, .slice sa ls sc] 29)).heap.size) := by show _ < _; simp
  cases bb with
  | false =>
    go_enter Try.func4, Try.ntmps4
    go_wp2_with (first | (go_at_call 16; refine (lawful12_any (HPE.out.on B1.out)).mono ?_; rintro e w2 ⟨rfl, k2⟩; rw [HL.out]; have B2 := hide (below_on B1.out k2); clear k2 hc1 hf1; have w2c0 : w2.cell? ⟨w.heap.size, 0, none⟩ = some (.int .i64 d) := (HBX.out.on HSZ.out B2.out) 0 (by decide); have w2c1 : w2.cell? ⟨w.heap.size, 1, none⟩ = some (.int .i64 n) := (HBX.out.on HSZ.out B2.out) 1 (by decide); have w2c2 : w2.cell? ⟨w.heap.size, 2, none⟩ = some (.slice ta lt tc) := (HBX.out.on HSZ.out B2.out) 2 (by decide); have w2c3 : w2.cell? ⟨w.heap.size, 3, none⟩ = some (.int .i64 dn) := (HBX.out.on HSZ.out B2.out) 3 (by decide); have w2c4 : w2.cell? ⟨w.heap.size, 4, none⟩ = some (.slice da ld dc) := (HBX.out.on HSZ.out B2.out) 4 (by decide); have w2c5 : w2.cell? ⟨w.heap.size, 5, none⟩ = some (.slice va lv vc) := (HBX.out.on HSZ.out B2.out) 5 (by decide); have w2c6 : w2.cell? ⟨w.heap.size, 6, none⟩ = some (.slice ja lj jc) := (HBX.out.on HSZ.out B2.out) 6 (by decide); have w2c7 : w2.cell? ⟨w.heap.size, 7, none⟩ = some (.slice sa ls sc) := (HBX.out.on HSZ.out B2.out) 7 (by decide)) | (go_at_call 15; refine (awake_any _).mono ?_; rintro e w1 ⟨rfl, k1⟩; have B1 := hide k1; obtain ⟨hc1, hf1⟩ := bcell k1; clear k1) | fail)
    go_ret
    exact ⟨rfl, below_on HB0.out B2.out⟩
  | true =>
    have HF : Hid (jL.length + sL.length ≤ 12) := lawM_few'' HL.out
    obtain ⟨L, hL⟩ : ∃ L, tasksM ⟨d, ⟨n, tL⟩, ⟨dn, dL⟩, vL, jL, sL⟩ = L := ⟨_, rfl⟩
    have HLL := hide hL
    obtain ⟨tn, htn⟩ : ∃ k, lj + ls = k := ⟨_, rfl⟩
    have HTN := hide htn
    have HTL : Hid ((tasksM ⟨d, ⟨n, tL⟩, ⟨dn, dL⟩, vL, jL, sL⟩).length = tn) := by show _ = _; rw [tasksM_len, ← htn, ← HLJ.out, ← HLS.out]
    have htn2 : tn ≤ 12 := by rw [← htn, ← HLJ.out, ← HLS.out]; exact HF.out
    have htn3 : (lj : Int) + (ls : Int) = (tn : Int) := by omega
    clear htn hL
    have hmm := @run_makeMap Try.prog
    go_enter Try.func4, Try.ntmps4
    go_wp2_with (first | (go_at_call 24; refine (tasks_any HQ3.out HF.out).mono ?_; rintro e w4 ⟨lv4, rfl, R4, k4⟩; have B4 := hide (below_on B3.out k4); have HR4 := hide R4; obtain ⟨la, lc, rfl⟩ := R4.shape; rw [HTL.out] at HR4 ⊢; clear R4 k4 w3c0 w3c1 w3c2 w3c3 w3c4 w3c5 w3c6 w3c7; have w4c0 : w4.cell? ⟨w.heap.size, 0, none⟩ = some (.int .i64 d) := (HBX.out.on HSZ.out B4.out) 0 (by decide); have w4c1 : w4.cell? ⟨w.heap.size, 1, none⟩ = some (.int .i64 n) := (HBX.out.on HSZ.out B4.out) 1 (by decide); have w4c2 : w4.cell? ⟨w.heap.size, 2, none⟩ = some (.slice ta lt tc) := (HBX.out.on HSZ.out B4.out) 2 (by decide); have w4c3 : w4.cell? ⟨w.heap.size, 3, none⟩ = some (.int .i64 dn) := (HBX.out.on HSZ.out B4.out) 3 (by decide); have w4c4 : w4.cell? ⟨w.heap.size, 4, none⟩ = some (.slice da ld dc) := (HBX.out.on HSZ.out B4.out) 4 (by decide); have w4c5 : w4.cell? ⟨w.heap.size, 5, none⟩ = some (.slice va lv vc) := (HBX.out.on HSZ.out B4.out) 5 (by decide); have w4c6 : w4.cell? ⟨w.heap.size, 6, none⟩ = some (.slice ja lj jc) := (HBX.out.on HSZ.out B4.out) 6 (by decide); have w4c7 : w4.cell? ⟨w.heap.size, 7, none⟩ = some (.slice sa ls sc) := (HBX.out.on HSZ.out B4.out) 7 (by decide)) | (go_at_call 17; refine (copied_any (HPE.out.on B2.out)).mono ?_; rintro e w3 ⟨X3, rfl, P3, k3⟩; have HQ3 := hide P3.prb; have B3 := hide (below_on B2.out k3); clear P3 k3 w2c0 w2c1 w2c2 w2c3 w2c4 w2c5 w2c6 w2c7; have w3c0 : w3.cell? ⟨w.heap.size, 0, none⟩ = some (.int .i64 d) := (HBX.out.on HSZ.out B3.out) 0 (by decide); have w3c1 : w3.cell? ⟨w.heap.size, 1, none⟩ = some (.int .i64 n) := (HBX.out.on HSZ.out B3.out) 1 (by decide); have w3c2 : w3.cell? ⟨w.heap.size, 2, none⟩ = some (.slice ta lt tc) := (HBX.out.on HSZ.out B3.out) 2 (by decide); have w3c3 : w3.cell? ⟨w.heap.size, 3, none⟩ = some (.int .i64 dn) := (HBX.out.on HSZ.out B3.out) 3 (by decide); have w3c4 : w3.cell? ⟨w.heap.size, 4, none⟩ = some (.slice da ld dc) := (HBX.out.on HSZ.out B3.out) 4 (by decide); have w3c5 : w3.cell? ⟨w.heap.size, 5, none⟩ = some (.slice va lv vc) := (HBX.out.on HSZ.out B3.out) 5 (by decide); have w3c6 : w3.cell? ⟨w.heap.size, 6, none⟩ = some (.slice ja lj jc) := (HBX.out.on HSZ.out B3.out) 6 (by decide); have w3c7 : w3.cell? ⟨w.heap.size, 7, none⟩ = some (.slice sa ls sc) := (HBX.out.on HSZ.out B3.out) 7 (by decide)) | (go_at_call 16; refine (lawful12_any (HPE.out.on B1.out)).mono ?_; rintro e w2 ⟨rfl, k2⟩; rw [HL.out]; have B2 := hide (below_on B1.out k2); clear k2 hc1 hf1; have w2c0 : w2.cell? ⟨w.heap.size, 0, none⟩ = some (.int .i64 d) := (HBX.out.on HSZ.out B2.out) 0 (by decide); have w2c1 : w2.cell? ⟨w.heap.size, 1, none⟩ = some (.int .i64 n) := (HBX.out.on HSZ.out B2.out) 1 (by decide); have w2c2 : w2.cell? ⟨w.heap.size, 2, none⟩ = some (.slice ta lt tc) := (HBX.out.on HSZ.out B2.out) 2 (by decide); have w2c3 : w2.cell? ⟨w.heap.size, 3, none⟩ = some (.int .i64 dn) := (HBX.out.on HSZ.out B2.out) 3 (by decide); have w2c4 : w2.cell? ⟨w.heap.size, 4, none⟩ = some (.slice da ld dc) := (HBX.out.on HSZ.out B2.out) 4 (by decide); have w2c5 : w2.cell? ⟨w.heap.size, 5, none⟩ = some (.slice va lv vc) := (HBX.out.on HSZ.out B2.out) 5 (by decide); have w2c6 : w2.cell? ⟨w.heap.size, 6, none⟩ = some (.slice ja lj jc) := (HBX.out.on HSZ.out B2.out) 6 (by decide); have w2c7 : w2.cell? ⟨w.heap.size, 7, none⟩ = some (.slice sa ls sc) := (HBX.out.on HSZ.out B2.out) 7 (by decide)) | (go_at_call 15; refine (awake_any _).mono ?_; rintro e w1 ⟨rfl, k1⟩; have B1 := hide k1; obtain ⟨hc1, hf1⟩ := bcell k1; clear k1) | fail)
    clear hmm
    have HM0 : Hid (Below w4.heap.size w4 (w4.alloc (.map #[] 0)) ∧ MapT (w4.alloc (.map #[] 0)) w4.heap.size 0 (.bool false) (fun u => .bool (decide (u ∈ L.take 0)))) := ⟨(Below.refl _ _).alloc (Nat.le_refl _) _, by have := MapT.made w4 (.bool false); simpa using this⟩
    clear w4c0 w4c1 w4c2 w4c3 w4c4 w4c5 w4c6 w4c7
    have HSZ4 : Hid (w.heap.size < w4.heap.size) := Nat.lt_of_lt_of_le HSZ.out B4.out.size
    go_loopw [26, 5] (fun vi vl wr => ∃ k : Nat, vi = .int .i64 k ∧ vl = .int .i64 (lastM ⟨d, ⟨n, tL⟩, ⟨dn, dL⟩, vL, jL, sL⟩ L k) ∧ k ≤ tn ∧ Hid (Below w4.heap.size w4 wr ∧ MapT wr w4.heap.size k (.bool false) (fun u => .bool (decide (u ∈ L.take k))))) (fun vi _ _ => tn - (intOf vi).toNat)
    case atStart => exact ⟨0, rfl, rfl, Nat.zero_le _, HM0.out⟩
    case round =>
      clear HM0
      obtain ⟨k, rfl, rfl, hk, HR⟩ := hrel
      have HBR := hide HR.out.1
      have HMR := hide HR.out.2
      clear HR
      have r0 : wr.cell? ⟨w.heap.size, 0, none⟩ = some (.int .i64 d) := (HBX.out.on HSZ.out (below_on B4.out HBR.out)) 0 (by decide)
      have r1 : wr.cell? ⟨w.heap.size, 1, none⟩ = some (.int .i64 n) := (HBX.out.on HSZ.out (below_on B4.out HBR.out)) 1 (by decide)
      have r2 : wr.cell? ⟨w.heap.size, 2, none⟩ = some (.slice ta lt tc) := (HBX.out.on HSZ.out (below_on B4.out HBR.out)) 2 (by decide)
      have r3 : wr.cell? ⟨w.heap.size, 3, none⟩ = some (.int .i64 dn) := (HBX.out.on HSZ.out (below_on B4.out HBR.out)) 3 (by decide)
      have r4 : wr.cell? ⟨w.heap.size, 4, none⟩ = some (.slice da ld dc) := (HBX.out.on HSZ.out (below_on B4.out HBR.out)) 4 (by decide)
      have r5 : wr.cell? ⟨w.heap.size, 5, none⟩ = some (.slice va lv vc) := (HBX.out.on HSZ.out (below_on B4.out HBR.out)) 5 (by decide)
      have r6 : wr.cell? ⟨w.heap.size, 6, none⟩ = some (.slice ja lj jc) := (HBX.out.on HSZ.out (below_on B4.out HBR.out)) 6 (by decide)
      have r7 : wr.cell? ⟨w.heap.size, 7, none⟩ = some (.slice sa ls sc) := (HBX.out.on HSZ.out (below_on B4.out HBR.out)) 7 (by decide)
      by_cases hkn : k < tn
      · have i3 : (k : Int) < (tn : Int) := by omega
        have i4 : (0 : Int) ≤ (k : Int) := by omega
        have i4b : ¬ (tn : Int) ≤ (k : Int) := by omega
        obtain ⟨⟨s, i⟩, ht⟩ : ∃ t, (tasksM ⟨d, ⟨n, tL⟩, ⟨dn, dL⟩, vL, jL, sL⟩)[k]? = some t := ⟨_, List.getElem?_eq_getElem (by rw [HTL.out]; exact hkn)⟩
        obtain ⟨g, rfl, c1, c2, _⟩ := row_at HR4.out ht
        have hgl : g < w4.heap.size := HR4.out.lt2 g rfl
        simp only at c1 c2
        have d1 : wr.cell? ⟨g, k * 2, none⟩ = some (.bool s) := ((bcell HBR.out).1 _ _ hgl).trans c1
        have d2 : wr.cell? ⟨g, k * 2 + 1, none⟩ = some (.int .i64 i) := ((bcell HBR.out).1 _ _ hgl).trans c2
        clear c1 c2
        have hmem := List.mem_of_getElem? ht
        have HTH : Hid (thereM ⟨d, ⟨n, tL⟩, ⟨dn, dL⟩, vL, jL, sL⟩ (s, i) = true) := tasksM_there hmem
        have HI : Hid (I64 (s, i).2) := task_i64 hmem HF.out
        have HNS : Hid (decide ((s, i) ∈ L.take k) = false) := by show _ = _; rw [← HLL.out]; exact not_seen (tasksM_nodup _) ht
        obtain ⟨y, hy⟩ : ∃ y, prioM ⟨d, ⟨n, tL⟩, ⟨dn, dL⟩, vL, jL, sL⟩ (s, i) = y := ⟨_, rfl⟩
        have HY := hide hy
        have HT : Hid (L[k]? = some (s, i)) := by rw [HLL.out] at ht; exact ht
        obtain ⟨lst, hlst⟩ : ∃ z, lastM ⟨d, ⟨n, tL⟩, ⟨dn, dL⟩, vL, jL, sL⟩ L k = z := ⟨_, rfl⟩
        have i5 : ¬ lst < y := by have := last_ok HL.out ht; rw [HLL.out, hy, hlst] at this; exact this
        rw [hlst]
        clear hmem ht hy hlst
        have hmbr : w4.heap.size < wr.heap.size := HMR.out.lt
        have n0 : ¬ w.heap.size = wr.heap.size := by have := HSZ4.out; omega
        have n1 : w.heap.size < wr.heap.size := by have := HSZ4.out; omega
        have zero4 : ∀ {W : World}, (zeroValue 4).run Try.prog W = .ok (.bool false) W := fun {W} => by kernel_rfl
        obtain ⟨vn, hvn⟩ : ∃ q, visN s = q := ⟨_, rfl⟩
        have HVN := hide hvn
        have hvn2 : vn ≤ 2 := by rw [← hvn]; unfold visN; split <;> omega
        clear hvn
        go_wp2_with (first | (go_at_call 31; refine (visits_any _ _ _).mono ?_; rintro e wd ⟨vv, rfl, hpv, ⟨vcp, rfl⟩, kk⟩; rw [HVN.out] at hpv ⊢; have HPV := hide hpv; have HBD := hide (HBC.out.trans (kk.mono (Nat.le_of_lt HMC.out.lt))); have HMD := hide (HMC.out.on HMC.out.lt kk); have HD0 : Hid (wd.cell? ⟨wr.heap.size, 0, none⟩ = some (.bool s)) := ((bcell kk).1 _ 0 htc).trans e0; have HD1 : Hid (wd.cell? ⟨wr.heap.size, 1, none⟩ = some (.int .i64 i)) := ((bcell kk).1 _ 1 htc).trans e1; have htd : Hid (wr.heap.size < wd.heap.size) := (Nat.lt_of_lt_of_le htc kk.size); clear kk hpv e0 e1 b0 b1 hst) | (go_at_call 26; refine (there_any (HPE.out.on (below_on B4.out HBA.out)) _ _).mono ?_; rintro e wb ⟨rfl, kk⟩; rw [HTH.out]; have HBB := hide (HBA.out.trans (kk.mono (Nat.le_of_lt HMA.out.lt))); obtain ⟨wc, hst, hMC, hgC⟩ := (HMA.out.on HMA.out.lt kk).store Try.underlying59 (by unfold maxLen; omega) (s, i) HI.out (.bool true); simp only [tval] at hst; have HMB := hide (HMA.out.on HMA.out.lt kk); have HMC := hide hMC; have HBC := hide (HBB.out.trans (grown_below hgC (Nat.le_of_lt HMB.out.lt))); have htb : wr.heap.size < wb.heap.size := (Nat.lt_of_lt_of_le hta kk.size); have htc : wr.heap.size < wc.heap.size := (Nat.lt_of_lt_of_le htb hgC.size); have b0 : wb.cell? ⟨wr.heap.size, 0, none⟩ = some (.bool s) := ((bcell kk).1 _ 0 hta).trans a0; have b1 : wb.cell? ⟨wr.heap.size, 1, none⟩ = some (.int .i64 i) := ((bcell kk).1 _ 1 hta).trans a1; have e0 : wc.cell? ⟨wr.heap.size, 0, none⟩ = some (.bool s) := (grown_cell hgC htb (by omega)).trans b0; have e1 : wc.cell? ⟨wr.heap.size, 1, none⟩ = some (.int .i64 i) := (grown_cell hgC htb (by omega)).trans b1; clear kk hMC hgC hlk a0 a1 ra0 ra1 ra2 ra3 ra4 ra5 ra6 ra7) | (go_at_call 28; refine (priority12_any (HPE.out.on (below_on (below_on B4.out HBR.out) ((Below.refl _ _).alloc (Nat.le_refl _) _))) _ _).mono ?_; rintro e wa ⟨rfl, kk⟩; rw [HY.out]; have EA := hide (below_on ((Below.refl wr.heap.size wr).alloc (Nat.le_refl _) (.cells #[.bool s, .int .i64 i] 31)) kk); have HBA := hide (HBR.out.trans (EA.out.mono (Nat.le_of_lt hmbr))); have HMA := hide (HMR.out.on hmbr EA.out); have hlk : (Instr.lookup 59 (.map (some w4.heap.size)) (.agg #[.bool s, .int .i64 i]) false).run Try.prog wa = .ok (.bool false) wa := (by have h9 := HMA.out.look Try.underlying59 zero4 (s, i) HI.out; simp only [HNS.out] at h9; exact h9); have a0 : wa.cell? ⟨wr.heap.size, 0, none⟩ = some (.bool s) := ((bcell kk).1 _ 0 (by simp)).trans (by simp [go_sem]); have a1 : wa.cell? ⟨wr.heap.size, 1, none⟩ = some (.int .i64 i) := ((bcell kk).1 _ 1 (by simp)).trans (by simp [go_sem]); have hta : wr.heap.size < wa.heap.size := (by have := kk.size; simp at this; omega); have ra0 : wa.cell? ⟨w.heap.size, 0, none⟩ = some (.int .i64 d) := (HBX.out.on HSZ.out (below_on B4.out HBA.out)) 0 (by decide); have ra1 : wa.cell? ⟨w.heap.size, 1, none⟩ = some (.int .i64 n) := (HBX.out.on HSZ.out (below_on B4.out HBA.out)) 1 (by decide); have ra2 : wa.cell? ⟨w.heap.size, 2, none⟩ = some (.slice ta lt tc) := (HBX.out.on HSZ.out (below_on B4.out HBA.out)) 2 (by decide); have ra3 : wa.cell? ⟨w.heap.size, 3, none⟩ = some (.int .i64 dn) := (HBX.out.on HSZ.out (below_on B4.out HBA.out)) 3 (by decide); have ra4 : wa.cell? ⟨w.heap.size, 4, none⟩ = some (.slice da ld dc) := (HBX.out.on HSZ.out (below_on B4.out HBA.out)) 4 (by decide); have ra5 : wa.cell? ⟨w.heap.size, 5, none⟩ = some (.slice va lv vc) := (HBX.out.on HSZ.out (below_on B4.out HBA.out)) 5 (by decide); have ra6 : wa.cell? ⟨w.heap.size, 6, none⟩ = some (.slice ja lj jc) := (HBX.out.on HSZ.out (below_on B4.out HBA.out)) 6 (by decide); have ra7 : wa.cell? ⟨w.heap.size, 7, none⟩ = some (.slice sa ls sc) := (HBX.out.on HSZ.out (below_on B4.out HBA.out)) 7 (by decide); clear kk) | fail)
        clear hta htb htc r0 r1 r2 r3 r4 r5 r6 r7 d1 d2 zero4
        obtain ⟨wo, hwo⟩ : ∃ wo, wo = wr.heap.size := ⟨_, rfl⟩
        rw [← hwo] at HD0 HD1 htd ⊢
        clear hwo hmbr n0 n1
        go_loopw [53] (fun vi wr => ∃ q : Nat, vi = .int .i64 q ∧ q ≤ vn ∧ Hid (Below wd.heap.size wd wr)) (fun vi _ => vn - (intOf vi).toNat)
        case atStart => exact ⟨0, rfl, Nat.zero_le _, Below.refl _ _⟩
        case round =>
          obtain ⟨q, rfl, hq, HBE⟩ := hrel
          have HBX2 := hide (HBD.out.trans (HBE.out.mono (Nat.le_of_lt HMD.out.lt)))
          by_cases hqv : q < vn
          · have i6 : (q : Int) < (vn : Int) := by omega
            have i7 : (0 : Int) ≤ (q : Int) := by omega
            have hqv' : q < visN s := by rw [HVN.out]; exact hqv
            have HO := hide (vis_of s i hqv')
            have HTV := hide (vis_there (k := q) hqv' HTH.out)
            have hpl := stp_place HL.out HTV.out
            obtain ⟨b, off, e9, g1, g2⟩ := (by have h9 := HPV.out; obtain ⟨a9, cp9, ea, _, hc9⟩ := h9; injection ea with ea1 _ _; obtain ⟨b, off, eb, x1, x2⟩ := hc9 q hqv; exact ⟨b, off, ea1.trans eb, x1, x2⟩ : ∃ b off, some (⟨wc.heap.size + 1, 0, none⟩ : Addr) = some ⟨b, off, none⟩ ∧ wd.cell? ⟨b, off + q * 2, none⟩ = some (.int .i64 (visK s q)) ∧ wd.cell? ⟨b, off + q * 2 + 1, none⟩ = some (.int .i64 i))
            injection e9 with e9
            injection e9 with e9 e10 _
            subst e9 e10
            rw [Nat.zero_add] at g1 g2
            have hgb := block_lt_of_cell g1
            have h1 : wr.cell? ⟨wc.heap.size + 1, q * 2, none⟩ = some (.int .i64 (visK s q)) := ((bcell HBE.out).1 _ _ hgb).trans g1
            have h2 : wr.cell? ⟨wc.heap.size + 1, q * 2 + 1, none⟩ = some (.int .i64 i) := ((bcell HBE.out).1 _ _ hgb).trans g2
            clear g1 g2 hgb
            obtain ⟨kq, hkq⟩ : ∃ z, visK s q = z := ⟨_, rfl⟩
            rw [hkq] at h1 HO HTV hpl
            clear hkq hqv'
            obtain ⟨pl, sv, wl, hst⟩ : ∃ a b c, stpM ⟨d, ⟨n, tL⟩, ⟨dn, dL⟩, vL, jL, sL⟩ kq i = ⟨a, b, c⟩ := ⟨_, _, _, rfl⟩
            rw [hst] at hpl
            have HST := hide hst
            obtain ⟨hp1, hp2⟩ := hpl
            simp only at hp1 hp2
            clear hst
            have j1 : ¬ pl < 0 := by omega
            have j2 : ¬ n ≤ pl := by omega
            have j3 : (s == s) = true := by simp
            have j4 : (i == i) = true := by simp
            have l0 : w.heap.size < wr.heap.size := by have := HSZ4.out; have := HBX2.out.size; omega
            have l1 : wo < wr.heap.size := by have := htd.out; have := HBE.out.size; omega
            have m0 : ¬ w.heap.size = wr.heap.size := by omega
            have m1 : ¬ wo = wr.heap.size := by omega
            have o0 : wr.cell? ⟨wo, 0, none⟩ = some (.bool s) := ((bcell HBE.out).1 _ 0 htd.out).trans HD0.out
            have o1 : wr.cell? ⟨wo, 1, none⟩ = some (.int .i64 i) := ((bcell HBE.out).1 _ 1 htd.out).trans HD1.out
            have r0 : wr.cell? ⟨w.heap.size, 0, none⟩ = some (.int .i64 d) := (HBX.out.on HSZ.out (below_on B4.out HBX2.out)) 0 (by decide)
            have r1 : wr.cell? ⟨w.heap.size, 1, none⟩ = some (.int .i64 n) := (HBX.out.on HSZ.out (below_on B4.out HBX2.out)) 1 (by decide)
            have r2 : wr.cell? ⟨w.heap.size, 2, none⟩ = some (.slice ta lt tc) := (HBX.out.on HSZ.out (below_on B4.out HBX2.out)) 2 (by decide)
            have r3 : wr.cell? ⟨w.heap.size, 3, none⟩ = some (.int .i64 dn) := (HBX.out.on HSZ.out (below_on B4.out HBX2.out)) 3 (by decide)
            have r4 : wr.cell? ⟨w.heap.size, 4, none⟩ = some (.slice da ld dc) := (HBX.out.on HSZ.out (below_on B4.out HBX2.out)) 4 (by decide)
            have r5 : wr.cell? ⟨w.heap.size, 5, none⟩ = some (.slice va lv vc) := (HBX.out.on HSZ.out (below_on B4.out HBX2.out)) 5 (by decide)
            have r6 : wr.cell? ⟨w.heap.size, 6, none⟩ = some (.slice ja lj jc) := (HBX.out.on HSZ.out (below_on B4.out HBX2.out)) 6 (by decide)
            have r7 : wr.cell? ⟨w.heap.size, 7, none⟩ = some (.slice sa ls sc) := (HBX.out.on HSZ.out (below_on B4.out HBX2.out)) 7 (by decide)
            go_wp2_with (first | (go_at_call 21; refine (stopV_any (HPE.out.on (below_on (below_on B4.out HBF.out) ((Below.refl _ _).alloc (Nat.le_refl _) _))) _ _).mono ?_; rintro e wg ⟨sy, rfl, R7, kk⟩; rw [HST.out] at R7 ⊢; rw [HTV.out]; simp only at R7 ⊢; obtain ⟨sya, syc, rfl, _, _⟩ := own_slice R7; have EG := hide (below_on ((Below.refl wf.heap.size wf).alloc (Nat.le_refl _) (.cells #[.bool s, .int .i64 i] 31)) kk); have HBG := hide (below_on HBF2.out EG.out) ; have lg : wf.heap.size < wg.heap.size := (by have := kk.size; simp at this; omega); have lg0 : w.heap.size < wg.heap.size := (by omega); have lg1 : wo < wg.heap.size := (by omega); have ng : ¬ wf.heap.size = wg.heap.size := (by omega); have ng0 : ¬ w.heap.size = wg.heap.size := (by omega); have ng1 : ¬ wo = wg.heap.size := (by omega); have p0 : wg.cell? ⟨wf.heap.size, 0, none⟩ = some (.bool s) := ((bcell kk).1 _ 0 (by simp)).trans (by simp [go_sem]); have p1 : wg.cell? ⟨wf.heap.size, 1, none⟩ = some (.int .i64 i) := ((bcell kk).1 _ 1 (by simp)).trans (by simp [go_sem]); have o0wg : wg.cell? ⟨wo, 0, none⟩ = some (.bool s) := ((bcell EG.out).1 _ 0 lf1).trans o0wf; have o1wg : wg.cell? ⟨wo, 1, none⟩ = some (.int .i64 i) := ((bcell EG.out).1 _ 1 lf1).trans o1wf; have rg1 : wg.cell? ⟨w.heap.size, 1, none⟩ = some (.int .i64 n) := ((bcell EG.out).1 _ 1 lf0).trans rf1; clear kk R7) | (go_at_call 19; refine (of_any _ _ _).mono ?_; rintro e wf ⟨rfl, kk⟩; rw [HO.out]; simp only [taskE]; have EF := hide (below_on ((Below.refl wr.heap.size wr).alloc (Nat.le_refl _) (.cells #[.int .i64 kq, .int .i64 i] 34)) kk); have HBF := hide (HBX2.out.trans (EF.out.mono (Nat.le_of_lt (Nat.lt_of_lt_of_le HMD.out.lt HBE.out.size)))); have HBF2 := hide (below_on HBE.out EF.out); have f0 : wf.cell? ⟨wr.heap.size, 0, none⟩ = some (.int .i64 kq) := ((bcell kk).1 _ 0 (by simp)).trans (by simp [go_sem]); have f1 : wf.cell? ⟨wr.heap.size, 1, none⟩ = some (.int .i64 i) := ((bcell kk).1 _ 1 (by simp)).trans (by simp [go_sem]); have lf : wr.heap.size < wf.heap.size := (by have := kk.size; simp at this; omega); have lf0 : w.heap.size < wf.heap.size := (by omega); have lf1 : wo < wf.heap.size := (by omega); have nf : ¬ wr.heap.size = wf.heap.size := (by omega); have nf0 : ¬ w.heap.size = wf.heap.size := (by omega); have nf1 : ¬ wo = wf.heap.size := (by omega); have o0wf : wf.cell? ⟨wo, 0, none⟩ = some (.bool s) := ((bcell EF.out).1 _ 0 l1).trans o0; have o1wf : wf.cell? ⟨wo, 1, none⟩ = some (.int .i64 i) := ((bcell EF.out).1 _ 1 l1).trans o1; have rf0 : wf.cell? ⟨w.heap.size, 0, none⟩ = some (.int .i64 d) := (HBX.out.on HSZ.out (below_on B4.out HBF.out)) 0 (by decide); have rf1 : wf.cell? ⟨w.heap.size, 1, none⟩ = some (.int .i64 n) := (HBX.out.on HSZ.out (below_on B4.out HBF.out)) 1 (by decide); have rf2 : wf.cell? ⟨w.heap.size, 2, none⟩ = some (.slice ta lt tc) := (HBX.out.on HSZ.out (below_on B4.out HBF.out)) 2 (by decide); have rf3 : wf.cell? ⟨w.heap.size, 3, none⟩ = some (.int .i64 dn) := (HBX.out.on HSZ.out (below_on B4.out HBF.out)) 3 (by decide); have rf4 : wf.cell? ⟨w.heap.size, 4, none⟩ = some (.slice da ld dc) := (HBX.out.on HSZ.out (below_on B4.out HBF.out)) 4 (by decide); have rf5 : wf.cell? ⟨w.heap.size, 5, none⟩ = some (.slice va lv vc) := (HBX.out.on HSZ.out (below_on B4.out HBF.out)) 5 (by decide); have rf6 : wf.cell? ⟨w.heap.size, 6, none⟩ = some (.slice ja lj jc) := (HBX.out.on HSZ.out (below_on B4.out HBF.out)) 6 (by decide); have rf7 : wf.cell? ⟨w.heap.size, 7, none⟩ = some (.slice sa ls sc) := (HBX.out.on HSZ.out (below_on B4.out HBF.out)) 7 (by decide); clear kk) | fail)
            go_roundw
            case rel => exact ⟨q + 1, by go_num, by omega, below_on HBG.out ((Below.refl _ _).alloc (Nat.le_refl _) _)⟩
            case measure => simp [intOf]; omega
          · have i6 : ¬ (q : Int) < (vn : Int) := by omega
            go_wp2
            go_roundw
            case rel => exact ⟨k + 1, by go_num, by rw [last_succ HT.out, HY.out], by omega, HBX2.out, by have h9 := HMD.out.on HMD.out.lt HBE.out; simp only [take_mem HT.out] at h9; exact h9⟩
            case measure => simp [intOf]; omega
      · have i3 : ¬ (k : Int) < (tn : Int) := by omega
        have i9 : ((tn : Int) == (tn : Int)) = true := by simp
        go_wp2
        go_ret
        exact ⟨rfl, below_on HB0.out (below_on B4.out HBR.out)⟩
end Go.Proofs.Ytgjpkpmikbpcnaa
