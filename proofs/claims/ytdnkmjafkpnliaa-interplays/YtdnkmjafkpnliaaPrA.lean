/-
  What the call of a line's count and Pair do.
-/
import Derived.Test.YtdnkmjafkpnliaaIns
import Derived.Deep.RegionHeld3
namespace Go.Proofs.Ytdnkmjafkpnliaa
open Go.RowKit

theorem count_step {V : List Vst} {q : Nat} {u v : Vst} (h : V[q]? = some u) : (V.take (q + 1)).count v = (V.take q).count v + (if u = v then 1 else 0) := by
  obtain ⟨hk, e⟩ := List.getElem?_eq_some_iff.1 h
  rw [List.take_succ_eq_append_getElem hk, e, List.count_append]
  congr 1
  by_cases hu : u = v
  · rw [if_pos hu, hu]; simp
  · rw [if_neg hu]; exact List.count_eq_zero.2 (by simp; exact fun e => hu e.symm)
set_option maxRecDepth 100000 in
set_option maxHeartbeats 12800000 in
theorem count_any {w : World} {lb n c : Nat} {a : Option Addr} {V : List Vst} (hx : w.heap[lb]? = some (.cells #[.slice a n c] 63)) (hV : VsV w (.slice a n c) V) (hm : V.length = n) (hm2 : n ≤ 900) (kd it : Int) : Calls Try.prog 55 #[.pointer (some ⟨lb, 0, none⟩), .agg #[.int .i64 kd, .int .i64 it]] w fun e w' => e = .returned (.int .i64 (V.count (kd, it) : Nat)) ∧ Below w.heap.size w w' := by
  have HV := hide hV
  have HM := hide hm
  have HX := hide hx
  clear hV hm hx
  obtain ⟨W, hW⟩ : ∃ W, W = w.alloc (.cells #[.int .i64 kd, .int .i64 it] 58) := ⟨_, rfl⟩
  have HBW : Hid (Below w.heap.size w W) := by rw [hW]; exact (Below.refl _ _).alloc (Nat.le_refl _) _
  have HBL : Hid (W.heap[w.heap.size]? = some (.cells #[.int .i64 kd, .int .i64 it] 58)) := by show _ = _; rw [hW]; exact heap_alloc_new _ _
  have x0 : (w.alloc (.cells #[.int .i64 kd, .int .i64 it] 58)).cell? ⟨lb, 0, none⟩ = some (.slice a n c) := by rw [← hW]; exact cell_of_row _ _ _ _ _ _ ((HBW.out.block lb (lt_of_block HX.out)).trans HX.out)
  go_enter Try.func55, Try.ntmps55
  go_wp2_with fail
  rw [← hW]
  clear hW x0
  go_loopw [13, 5] (fun vi v5 wr => ∃ q s : Nat, vi = .int .i64 q ∧ v5 = .int .i64 s ∧ q ≤ n ∧ s ≤ q ∧ Hid ((V.take q).count (kd, it) = s) ∧ Hid (Below W.heap.size W wr)) (fun vi _ _ => n - (intOf vi).toNat)
  case atStart => exact ⟨0, 0, rfl, rfl, Nat.zero_le _, Nat.zero_le _, rfl, Below.refl _ _⟩
  case round =>
    obtain ⟨q, s, rfl, rfl, hq, hsq, HS, HB⟩ := hrel
    by_cases hqn : q < n
    · have i1 : (q : Int) < (n : Int) := by omega
      have i2 : (0 : Int) ≤ (q : Int) := by omega
      have i3 : ¬ (n : Int) ≤ (q : Int) := by omega
      obtain ⟨⟨xk, xi⟩, hu⟩ : ∃ u, V[q]? = some u := ⟨_, List.getElem?_eq_getElem (by rw [HM.out]; exact hqn)⟩
      obtain ⟨b, off, rfl, hb, c1, c2, _⟩ := vs_cells HV.out hu
      simp only at c1 c2
      have d1 : wr.cell? ⟨b, off + q * 2, none⟩ = some (.int .i64 xk) := ((bcell (below_on HBW.out HB.out)).1 _ _ hb).trans c1
      have d2 : wr.cell? ⟨b, off + q * 2 + 1, none⟩ = some (.int .i64 xi) := ((bcell (below_on HBW.out HB.out)).1 _ _ hb).trans c2
      have HBl2 := hide ((HB.out.block _ (lt_of_block HBL.out)).trans HBL.out)
      have e1 : wr.cell? ⟨w.heap.size, 0, none⟩ = some (.int .i64 kd) := cell_of_row _ _ _ _ _ _ HBl2.out
      have e2 : wr.cell? ⟨w.heap.size, 1, none⟩ = some (.int .i64 it) := cell_of_row _ _ _ _ _ _ HBl2.out
      have l0 : w.heap.size < wr.heap.size := lt_of_block HBl2.out
      have ne : ¬ w.heap.size = wr.heap.size := by omega
      have HCT := hide (count_step (v := (kd, it)) hu)
      have HBA := hide (below_on HB.out ((Below.refl _ _).alloc (Nat.le_refl _) (.cells #[.int .i64 xk, .int .i64 xi] 58)))
      clear c1 c2 hu hb
      by_cases hc : xk = kd ∧ xi = it
      · have HF : Hid ((V.take (q + 1)).count (kd, it) = s + 1) := by show _ = _; rw [HCT.out, HS.out, if_pos (by rw [hc.1, hc.2])]
        have y1 : (xk == kd) = true := by simpa using hc.1
        have y2 : (xi == it) = true := by simpa using hc.2
        clear hc
        go_wp2_with fail
        go_roundw
        case rel => exact ⟨q + 1, s + 1, by go_num, by go_num, by omega, by omega, HF.out, HBA.out⟩
        case measure => simp [intOf]; omega
      · have HF : Hid ((V.take (q + 1)).count (kd, it) = s) := by show _ = _; rw [HCT.out, HS.out, if_neg (fun e => hc (by injection e with e1 e2; exact ⟨e1, e2⟩))]; rfl
        by_cases ek : xk = kd
        · have y1 : (xk == kd) = true := by simpa using ek
          have y2 : (xi == it) = false := by simpa using fun e => hc ⟨ek, e⟩
          clear hc ek
          go_wp2_with fail
          go_roundw
          case rel => exact ⟨q + 1, s, by go_num, rfl, by omega, by omega, HF.out, HBA.out⟩
          case measure => simp [intOf]; omega
        · have y1 : (xk == kd) = false := by simpa using ek
          clear hc ek
          go_wp2_with fail
          go_roundw
          case rel => exact ⟨q + 1, s, by go_num, rfl, by omega, by omega, HF.out, HBA.out⟩
          case measure => simp [intOf]; omega
    · have i1 : ¬ (q : Int) < (n : Int) := by omega
      have hqe : q = n := by omega
      have HF : Hid (V.count (kd, it) = s) := by have h9 := HS.out; rw [List.take_of_length_le (by rw [HM.out]; omega)] at h9; exact h9
      clear hqe
      go_wp2_with fail
      go_ret
      exact ⟨by rw [HF.out]; rfl, below_on HBW.out HB.out⟩
end Go.Proofs.Ytdnkmjafkpnliaa
