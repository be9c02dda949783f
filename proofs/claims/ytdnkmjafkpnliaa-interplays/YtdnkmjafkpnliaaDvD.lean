/-
  What the document's whole does.
-/
import Derived.Test.YtdnkmjafkpnliaaTwE
import Derived.Test.YtdnkmjafkpnliaaTwF
import Derived.Test.YtdnkmjafkpnliaaDcB
import Derived.Deep.RegionHeld3
namespace Go.Proofs.Ytdnkmjafkpnliaa
open Go.RowKit

theorem rof_at (w : World) (k i : Int) {s : Bool} {it : Int} {b : Bool} (h : ofM k i = ((s, it), b)) : Calls Try.prog 57 #[.agg #[.int .i64 k, .int .i64 i]] w fun e w' => e = .returned (.tuple #[.agg #[.bool s, .int .i64 it], .bool b]) ∧ Below w.heap.size w w' := by
  have h9 := rof_any w k i
  rw [h] at h9
  exact h9
/-- The task of a list's i-th visit. -/
def tkF (V : List Vst) (i : Int) : Bool × Int := (ofM (V.getD i.toNat (0, 0)).1 (V.getD i.toNat (0, 0)).2).1
/-- What the document's whole answers. -/
def WhD (w : World) (V : List Vst) (i : Int) (e : Ending) (w' : World) : Prop := ∃ s it a q c b, e = .returned (.tuple #[.agg #[.bool s, .int .i64 it], .slice a q c, .bool b]) ∧ (tkF V i = (s, it) ∧ whF V i = (if b = true then some (s, it) else none)) ∧ (outM s it V).length = q ∧ VRow w' w.heap.size (.slice a q c) (outM s it V) ∧ Below w.heap.size w w'
theorem whd_end {w w0 wr : World} {V : List Vst} {i : Int} {s : Bool} {it : Int} {a : Option Addr} {q c : Nat} {b : Bool} {x y : Value} (h0 : w0 = w.alloc (.cells #[.bool false, .int .i64 0] 67)) (hk : tkF V i = (s, it)) (hw : whF V i = (if b = true then some (s, it) else none)) (hq : (outM s it V).length = q) (R : VRow wr w0.heap.size (.slice a q c) (outM s it V)) (K : Below w0.heap.size w0 wr) : WhD w V i (.returned (.tuple #[.agg #[.bool s, .int .i64 it], .slice a q c, .bool b])) ((wr.setCell ⟨w.heap.size, 0, none⟩ x).setCell ⟨w.heap.size, 1, none⟩ y) := by
  have hs : w0.heap.size = w.heap.size + 1 := by rw [h0]; simp
  refine ⟨s, it, a, q, c, b, rfl, ⟨hk, hw⟩, hq, ?_, ?_⟩
  · refine own_mono (own_of_block R fun g hg => ?_) (by omega)
    have h1 := (World.ownsRow.lt R g hg).1
    rw [heap_setCell_other _ _ _ _ (by intro e; have e9 : g = w.heap.size := e; omega), heap_setCell_other _ _ _ _ (by intro e; have e9 : g = w.heap.size := e; omega)]
  · have f0 : Below w.heap.size w wr := by
      have f1 : Below w.heap.size w w0 := by rw [h0]; exact (Below.refl _ _).alloc (Nat.le_refl _) _
      exact below_on f1 K
    exact (f0.setCell (Nat.le_refl _) _).setCell (Nat.le_refl _) _
set_option maxRecDepth 100000 in
set_option maxHeartbeats 12800000 in
theorem rwhole_any {w : World} {va : Option Addr} {m vc : Nat} {V : List Vst} (h : VsV w (.slice va m vc) V) (hm : V.length = m) (hm2 : m ≤ 800) (ii : Nat) (hi : ii < m) : Calls Try.prog 40 #[.slice va m vc, .int .i64 (ii : Int)] w (WhD w V (ii : Int)) := by
  have HV := hide h
  have HM := hide hm
  clear h hm
  obtain ⟨w0, hw0⟩ : ∃ W, W = w.alloc (.cells #[.bool false, .int .i64 0] 67) := ⟨_, rfl⟩
  have HW0 := hide hw0
  have KZ : Hid (Below w.heap.size w w0) := by rw [hw0]; exact (Below.refl _ _).alloc (Nat.le_refl _) _
  have HX0 : Hid (w0.heap[w.heap.size]? = some (.cells #[.bool false, .int .i64 0] 67)) := by show _ = _; rw [hw0]; exact heap_alloc_new _ _
  have hb1 : witB (ii : Int) ((m : Int) - 1) = true := by unfold witB; rw [decide_eq_true (by omega), decide_eq_true (by omega)]; rfl
  have j1 : (ii : Int) < (m : Int) := by omega
  have j2 : (0 : Int) ≤ (ii : Int) := by omega
  have j4 : ¬ (m : Int) ≤ (ii : Int) := by omega
  obtain ⟨⟨kd, ti⟩, hu⟩ : ∃ u, V[ii]? = some u := ⟨_, List.getElem?_eq_getElem (by rw [HM.out]; omega)⟩
  have hgd : V.getD ii (0, 0) = (kd, ti) := by rw [List.getD_eq_getElem?_getD, hu]; rfl
  obtain ⟨⟨⟨s, it⟩, isb⟩, hof⟩ : ∃ q, ofM kd ti = q := ⟨_, rfl⟩
  have HWF : Hid (whF V (ii : Int) = if isb = true ∧ whlB s it V = true then some (s, it) else none) := by
    show _ = _
    unfold whF
    rw [HM.out, hb1, if_pos rfl, Int.toNat_natCast, hgd]
    simp only [hof]
  have HTK : Hid (tkF V (ii : Int) = (s, it)) := by show _ = _; unfold tkF; rw [Int.toNat_natCast, hgd]; simp only [hof]
  have H57 : Hid (∀ W, Calls Try.prog 57 #[.agg #[.int .i64 kd, .int .i64 ti]] W fun e w' => e = .returned (.tuple #[.agg #[.bool s, .int .i64 it], .bool isb]) ∧ Below W.heap.size W w') := fun W => rof_at W kd ti hof
  have H58 : Hid (∀ W, Below w0.heap.size w0 W → Calls Try.prog 58 #[.slice va m vc, .agg #[.bool s, .int .i64 it]] W fun e w' => ∃ a q c, e = .returned (.tuple #[.slice a q c, .int .i64 ((m : Int) - (q : Int))]) ∧ (outM s it V).length = q ∧ VRow w' W.heap.size (.slice a q c) (outM s it V) ∧ Below W.heap.size W w') := fun W hf => rwithout_any (PrV.on HV.out (below_on KZ.out hf)) HM.out (by omega) s it
  obtain ⟨b, off, rfl, hb, c1, c2, -⟩ := vs_cells HV.out hu
  simp only at c1 c2
  clear hu hgd hof hb1
  go_enter Try.func40, Try.ntmps40
  go_wp2_with (first | (go_at_call 47; refine (rvis_any _ _ _).mono ?_; rintro e w4 ⟨a4, c4, rfl, q4, k4⟩; have Q4 := hide q4; have R4 : Hid (VRow w4 w0.heap.size (.slice a3 q3 c3) (outM s it V)) := (VRow.later R3.out (Nat.le_refl _) k4); have K4 := hide (below_on K3.out k4); have HX4 := hide ((k4.block _ (lt_of_block HX3.out)).trans HX3.out); clear q4 k4 x1 x2) | (go_at_call 58; refine (H58.out _ (low_alloc K2.out _)).mono ?_; rintro e w3 ⟨a3, q3, c3, rfl, h3, r3, k3⟩; have HQ3 := hide h3; have R3 : Hid (VRow w3 w0.heap.size (.slice a3 q3 c3) (outM s it V)) := (own_mono r3 (low_alloc K2.out (.cells #[.bool s, .int .i64 it] 67)).size); have K3 := hide (below_on (low_alloc K2.out _) k3); have HX3 : Hid (w3.heap[w2.heap.size]? = some (.cells #[.bool s, .int .i64 it] 67)) := ((k3.block _ (by simp)).trans at_new9); have x1 : w3.cell? ⟨w2.heap.size, 0, none⟩ = some (.bool s) := (cell_of_row _ _ _ _ _ _ HX3.out); have x2 : w3.cell? ⟨w2.heap.size, 1, none⟩ = some (.int .i64 it) := (cell_of_row _ _ _ _ _ _ HX3.out); clear h3 r3 k3) | (go_at_call 57; rw [← hw0]; refine (H57.out _).mono ?_; rintro e w2 ⟨rfl, k2⟩; have K2 := hide k2; clear k2) | fail)
  obtain ⟨tn, htn⟩ : ∃ tn, visN s = tn := ⟨_, rfl⟩
  have HTN := hide htn
  have htn2 : tn ≤ 2 := by rw [← htn]; exact (visN_le s).2
  rw [htn] at Q4
  rw [htn]
  clear htn c1 c2 j1 j2 j4 hb hi
  go_wp2_with fail
  go_loopw [12, 8] (fun vi vb wr => ∃ (q : Nat) (bb : Bool), vi = .int .i64 q ∧ vb = .bool bb ∧ q ≤ tn ∧ Hid (bb = (isb && alB s it V q)) ∧ Hid (Below w4.heap.size w4 wr)) (fun vi _ _ => tn - (intOf vi).toNat)
  case atStart => exact ⟨0, isb, rfl, rfl, Nat.zero_le _, (by show _ = _; unfold alB; simp), Below.refl _ _⟩
  case round =>
    obtain ⟨q, bb, rfl, rfl, hq, HS, HB⟩ := hrel
    rename World => wr
    have HXr := hide ((HB.out.block _ (lt_of_block HX4.out)).trans HX4.out)
    have x3 : wr.cell? ⟨w2.heap.size, 0, none⟩ = some (.bool s) := cell_of_row _ _ _ _ _ _ HXr.out
    have x4 : wr.cell? ⟨w2.heap.size, 1, none⟩ = some (.int .i64 it) := cell_of_row _ _ _ _ _ _ HXr.out
    have KR := hide (below_on K4.out HB.out)
    have HY := hide ((KR.out.block _ (lt_of_block HX0.out)).trans HX0.out)
    have x5 : wr.cell? ⟨w.heap.size, 0, none⟩ = some (.bool false) := cell_of_row _ _ _ _ _ _ HY.out
    have x6 : wr.cell? ⟨w.heap.size, 1, none⟩ = some (.int .i64 0) := cell_of_row _ _ _ _ _ _ HY.out
    have x7 : ∀ j, wr.frozen? ⟨w.heap.size, j, none⟩ = false := fun j => frz_row HY.out
    have RR := hide (VRow.later R4.out (Nat.le_refl _) HB.out)
    by_cases hqn : q < tn
    · have i1 : (q : Int) < (tn : Int) := by omega
      have i2 : (0 : Int) ≤ (q : Int) := by omega
      have i3 : ¬ (tn : Int) ≤ (q : Int) := by omega
      cases bb with
      | true =>
        have hq9 : q < visN s := by rw [HTN.out]; exact hqn
        obtain ⟨vk, hvk⟩ : ∃ z, visK s q = z := ⟨_, rfl⟩
        have HST := hide (al_step (i := it) (V := V) hq9)
        obtain ⟨gv, ov, hgv, hgl, v0, v1, -⟩ := vs_cells Q4.out.vs (visL_get s it q hq9)
        simp only at v0 v1
        rw [hvk] at v0 HST
        subst hgv
        have HVC : Hid (∀ W, Below w4.heap.size w4 W → W.cell? ⟨gv, ov + q * 2, none⟩ = some (.int .i64 vk) ∧ W.cell? ⟨gv, ov + q * 2 + 1, none⟩ = some (.int .i64 it)) := fun W hf => ⟨((bcell hf).1 _ _ hgl).trans v0, ((bcell hf).1 _ _ hgl).trans v1⟩
        clear hvk v0 v1 hgl hq9 x3 x4 x5 x6 x7 HXr HY
        go_wp2_with fail
        rename World => wp
        go_loopw [14, 13] (fun vi vn wr => ∃ x n : Nat, vi = .int .i64 x ∧ vn = .int .i64 n ∧ x ≤ m ∧ n ≤ x ∧ Hid ((V.take x).count (vk, it) = n) ∧ Hid (Below w4.heap.size w4 wr)) (fun vi _ _ => m - (intOf vi).toNat)
        case atStart => exact ⟨0, 0, rfl, rfl, Nat.zero_le _, Nat.zero_le _, rfl, HB.out⟩
        case round =>
          obtain ⟨x, n, rfl, rfl, hx, hnx, HN, HB2⟩ := hrel
          rename World => wq
          have HDR : Hid (∀ k, Below w4.heap.size w4 (wq.drewN k)) := fun k => below_drewN HB2.out k
          by_cases hxm : x < m
          · have j1 : (x : Int) < (m : Int) := by omega
            have j2 : (0 : Int) ≤ (x : Int) := by omega
            have j4 : ¬ (m : Int) ≤ (x : Int) := by omega
            obtain ⟨⟨xk, xi⟩, hu⟩ : ∃ u, V[x]? = some u := ⟨_, List.getElem?_eq_getElem (by rw [HM.out]; exact hxm)⟩
            have HCT := hide (count_step (v := (vk, it)) hu)
            obtain ⟨b', off', e9, hb', c1, c2, -⟩ := vs_cells HV.out hu
            injection e9 with e9
            injection e9 with e8 e9 _
            subst e8 e9
            simp only at c1 c2
            have z1 : wq.cell? ⟨b, off + x * 2, none⟩ = some (.int .i64 xk) := ((bcell (below_on (below_on KZ.out K4.out) HB2.out)).1 _ _ hb').trans c1
            have z2 : wq.cell? ⟨b, off + x * 2 + 1, none⟩ = some (.int .i64 xi) := ((bcell (below_on (below_on KZ.out K4.out) HB2.out)).1 _ _ hb').trans c2
            obtain ⟨z3, z4⟩ := HVC.out _ HB2.out
            clear hu c1 c2 hb'
            by_cases hc : xk = vk ∧ xi = it
            · have HF : Hid ((V.take (x + 1)).count (vk, it) = n + 1) := by show _ = _; rw [HCT.out, HN.out, if_pos (by rw [hc.1, hc.2])]
              have y1 : (xk == vk) = true := by simpa using hc.1
              have y2 : (xi == it) = true := by simpa using hc.2
              clear hc
              go_wp2_with fail
              first | (go_quiet (fail)) | fail
              go_wp2_with fail
              go_roundw
              case rel => exact ⟨x + 1, n + 1, by go_num, by go_num, by omega, by omega, HF.out, HDR.out _⟩
              case measure => simp [intOf]; omega
            · have HF : Hid ((V.take (x + 1)).count (vk, it) = n) := by show _ = _; rw [HCT.out, HN.out, if_neg (fun e => hc (by injection e with e1 e2; exact ⟨e1, e2⟩))]; rfl
              by_cases ek : xk = vk
              · have y1 : (xk == vk) = true := by simpa using ek
                have y2 : (xi == it) = false := by simpa using fun e => hc ⟨ek, e⟩
                clear hc ek
                go_wp2_with fail
                first | (go_quiet (fail)) | fail
                go_wp2_with fail
                go_roundw
                case rel => exact ⟨x + 1, n, by go_num, rfl, by omega, by omega, HF.out, HDR.out _⟩
                case measure => simp [intOf]; omega
              · have y1 : (xk == vk) = false := by simpa using ek
                clear hc ek
                go_wp2_with fail
                first | (go_quiet (fail)) | fail
                go_wp2_with fail
                go_roundw
                case rel => exact ⟨x + 1, n, by go_num, rfl, by omega, by omega, HF.out, HDR.out _⟩
                case measure => simp [intOf]; omega
          · have j1 : ¬ (x : Int) < (m : Int) := by omega
            have HCF : Hid (V.count (vk, it) = n) := by have h9 := HN.out; rw [List.take_of_length_le (by rw [HM.out]; omega)] at h9; exact h9
            have HFF : Hid (((n : Int) == 1) = (isb && alB s it V (q + 1))) := by
              show _ = _
              have h9 := HS.out
              rw [HST.out, HCF.out, ← Bool.and_assoc, ← h9, Bool.true_and]
              by_cases h1 : n = 1
              · subst h1; rfl
              · have a1 : ((n : Int) == 1) = false := by simp; omega
                have a2 : (n == 1) = false := by simp; omega
                rw [a1, a2]
            go_wp2_with fail
            go_roundw
            case rel => exact ⟨q + 1, _, by go_num, rfl, by omega, HFF.out, HB2.out⟩
            case measure => simp [intOf]; omega
      | false =>
        have HF : Hid (whF V (ii : Int) = if false = true then some (s, it) else none) := by
          show _ = _
          rw [HWF.out]
          have h9 := HS.out
          cases isb with
          | false => rfl
          | true =>
            have h8 : alB s it V q = false := by simpa using h9.symm
            rw [al_false h8]; rfl
        go_wp2_with fail
        refine bodyPost_ret (v := (.tuple #[.agg #[.bool s, .int .i64 it], .slice a3 q3 c3, .bool false])) ?_ rfl (whd_end hw0 HTK.out HF.out HQ3.out RR.out KR.out)
        have g1 := heap_setCell_same wr w.heap.size 0 _ _ (.bool s) HY.out
        have g2 := heap_setCell_same _ w.heap.size 1 _ _ (.int .i64 it) g1
        have u1 : ((wr.setCell ⟨w.heap.size, 0, none⟩ (.bool s)).setCell ⟨w.heap.size, 1, none⟩ (.int .i64 it)).cell? ⟨w.heap.size, 0, none⟩ = some (.bool s) := cell_of_row _ _ _ _ _ _ g2
        have u2 : ((wr.setCell ⟨w.heap.size, 0, none⟩ (.bool s)).setCell ⟨w.heap.size, 1, none⟩ (.int .i64 it)).cell? ⟨w.heap.size, 1, none⟩ = some (.int .i64 it) := cell_of_row _ _ _ _ _ _ g2
        simp [results, Try.results40, go_sem, u1, u2]
    · have i1 : ¬ (q : Int) < (tn : Int) := by omega
      have hqe : q = tn := by omega
      have HF : Hid (whF V (ii : Int) = if bb = true then some (s, it) else none) := by
        show _ = _
        have h9 := HS.out
        rw [hqe, ← HTN.out, al_end] at h9
        rw [HWF.out, h9]
        cases isb <;> cases whlB s it V <;> rfl
      clear hqe
      go_wp2_with fail
      refine bodyPost_ret (v := (.tuple #[.agg #[.bool s, .int .i64 it], .slice a3 q3 c3, .bool bb])) ?_ rfl (whd_end hw0 HTK.out HF.out HQ3.out RR.out KR.out)
      have g1 := heap_setCell_same wr w.heap.size 0 _ _ (.bool s) HY.out
      have g2 := heap_setCell_same _ w.heap.size 1 _ _ (.int .i64 it) g1
      have u1 : ((wr.setCell ⟨w.heap.size, 0, none⟩ (.bool s)).setCell ⟨w.heap.size, 1, none⟩ (.int .i64 it)).cell? ⟨w.heap.size, 0, none⟩ = some (.bool s) := cell_of_row _ _ _ _ _ _ g2
      have u2 : ((wr.setCell ⟨w.heap.size, 0, none⟩ (.bool s)).setCell ⟨w.heap.size, 1, none⟩ (.int .i64 it)).cell? ⟨w.heap.size, 1, none⟩ = some (.int .i64 it) := cell_of_row _ _ _ _ _ _ g2
      simp [results, Try.results40, go_sem, u1, u2]
theorem whF_tk (V : List Vst) (i : Int) : ∃ b, whF V i = if b = true then some (tkF V i) else none := by
  unfold whF tkF
  by_cases hc : witB i ((V.length : Int) - 1) = true
  · rw [if_pos hc]
    by_cases h2 : (ofM (V.getD i.toNat (0, 0)).1 (V.getD i.toNat (0, 0)).2).2 = true ∧ whlB (ofM (V.getD i.toNat (0, 0)).1 (V.getD i.toNat (0, 0)).2).1.1 (ofM (V.getD i.toNat (0, 0)).1 (V.getD i.toNat (0, 0)).2).1.2 V = true
    · exact ⟨true, by simp only; rw [if_pos h2]; rfl⟩
    · exact ⟨false, by simp only; rw [if_neg h2]; rfl⟩
  · rw [if_neg hc]
    exact ⟨false, rfl⟩
theorem rwhole_at {w : World} {va : Option Addr} {m vc q : Nat} {V : List Vst} {i : Int} {s : Bool} {it : Int} {b : Bool} (h : SlI w va m vc V) (hm2 : m ≤ 800) (h0 : 0 ≤ i) (h1 : i < (m : Int)) (hk : tkF V i = (s, it)) (hb : whF V i = if b = true then some (s, it) else none) (hq : (outM s it V).length = q) : Calls Try.prog 40 #[.slice va m vc, .int .i64 i] w fun e w' => ∃ a c, e = .returned (.tuple #[.agg #[.bool s, .int .i64 it], .slice a q c, .bool b]) ∧ VRow w' w.heap.size (.slice a q c) (outM s it V) ∧ Below w.heap.size w w' := by
  obtain ⟨ii, rfl⟩ : ∃ a : Nat, i = a := ⟨i.toNat, by omega⟩
  refine (rwhole_any h.vs h.len hm2 ii (by omega)).mono ?_
  rintro e w' ⟨s', it', a, q', c, b', rfl, ⟨e1, e2⟩, e3, e4, e5⟩
  rw [hk] at e1
  injection e1 with e6 e7
  subst e6 e7
  rw [hq] at e3
  subst e3
  have e8 : b' = b := by
    rw [hb] at e2
    cases b <;> cases b' <;> first | rfl | cases e2
  subst e8
  exact ⟨a, c, rfl, e4, e5⟩
end Go.Proofs.Ytdnkmjafkpnliaa
