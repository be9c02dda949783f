/-
  What the call of rested of plan does.
-/
import Derived.Test.YtgjpkpmikbpcnaaQLdsG
namespace Go.Proofs.Ytgjpkpmikbpcnaa
open Go.RowKit
set_option maxRecDepth 100000 in
set_option maxHeartbeats 3200000 in
theorem rested_any {w : World} {x : PrbS} {p : Prb} {k m vc : Nat} {va : Option Addr} {V : List Vst} (h : PrbV w x p) (hk : k < p.vs.length) (hV : VsV w (.slice va m vc) V) (hm : V.length = m) : Calls Try.prog 99 #[.agg (tourE p x k (.slice va m vc))] w fun e w' => e = .returned (.bool (restM V (p.vs.getD k vz).brks.length)) ∧ Below w.heap.size w w' := by
  have HB0 : Hid (∀ A, Below w.heap.size w (w.alloc A)) := fun A => (Below.refl _ _).alloc (Nat.le_refl _) A
  have HP := hide h
  have HV := hide hV
  have HM := hide hm
  have hmb : m * 16 ≤ 140737488351232 := by obtain ⟨_, _, e, hb, _⟩ := hV; rw [← hm]; exact hb
  obtain ⟨nb, hnb⟩ : ∃ q, (p.vs.getD k vz).brks.length = q := ⟨_, rfl⟩
  have HNB := hide hnb
  rw [hnb]
  have hnbb : nb * 32 ≤ 140737488351232 := by
    obtain ⟨_, _, _, _, _, _, _, _, _, q2⟩ := veh_cells h.v hk
    rw [← hnb]; exact SlV.bound q2
  clear hnb hV hm
  obtain ⟨ta, tc, da, dc, va', vc', ja, jc, sa, sc, rfl⟩ := h.open
  clear h
  have HTE : Hid (tourE p ⟨.slice ta p.time.cells.length tc, .slice da p.dist.cells.length dc, .slice va' p.vs.length vc', .slice ja p.js.length jc, .slice sa p.ss.length sc⟩ k (.slice va m vc) = #[.int .i64 p.dims, .int .i64 p.time.n, .slice ta p.time.cells.length tc, .int .i64 p.dist.n, .slice da p.dist.cells.length dc, .slice va' p.vs.length vc', .slice ja p.js.length jc, .slice sa p.ss.length sc, .int .i64 k, .slice va m vc]) := rfl
  rw [HTE.out]
  obtain ⟨W, hW⟩ : ∃ W, W = w.alloc (.cells #[.int .i64 p.dims, .int .i64 p.time.n, .slice ta p.time.cells.length tc, .int .i64 p.dist.n, .slice da p.dist.cells.length dc, .slice va' p.vs.length vc', .slice ja p.js.length jc, .slice sa p.ss.length sc, .int .i64 k, .slice va m vc] 121) := ⟨_, rfl⟩
  have HBW : Hid (Below w.heap.size w W) := by rw [hW]; exact HB0.out _
  have HLW : Hid (w.heap.size < W.heap.size) := by show _ < _; rw [hW]; simp
  have HC : Hid (∀ j, W.cell? ⟨w.heap.size, j, none⟩ = (#[.int .i64 p.dims, .int .i64 p.time.n, .slice ta p.time.cells.length tc, .int .i64 p.dist.n, .slice da p.dist.cells.length dc, .slice va' p.vs.length vc', .slice ja p.js.length jc, .slice sa p.ss.length sc, .int .i64 k, .slice va m vc] : Array Value)[j]?) := fun j => by rw [hW]; exact cell_of_row _ _ _ _ _ _ (heap_alloc_new w _)
  go_enter Try.func99, Try.ntmps99
  go_wp2
  rw [← hW]
  clear hW
  go_loopw [9, 3] (fun vi vn wr => ∃ q n : Nat, vi = .int .i64 q ∧ vn = .int .i64 n ∧ q ≤ m ∧ n ≤ q ∧ Hid (brkF 0 V = brkF n (V.drop q)) ∧ Hid (Below W.heap.size W wr)) (fun vi _ _ => m - (intOf vi).toNat)
  case atStart => exact ⟨0, 0, rfl, rfl, Nat.zero_le _, Nat.le_refl _, by rw [List.drop_zero]; rfl, Below.refl _ _⟩
  case round =>
    obtain ⟨q, n, rfl, rfl, hq, hn, HR, HB⟩ := hrel
    by_cases hqm : q < m
    · have i1 : (q : Int) < (m : Int) := by omega
      have i2 : (0 : Int) ≤ (q : Int) := by omega
      have i3 : ¬ (m : Int) ≤ (q : Int) := by omega
      obtain ⟨⟨kd, it⟩, hu⟩ : ∃ u, V[q]? = some u := ⟨_, List.getElem?_eq_getElem (by rw [HM.out]; exact hqm)⟩
      obtain ⟨b, off, rfl, hb, c1, c2, _⟩ := vs_cells HV.out hu
      simp only at c1 c2
      have d1 : wr.cell? ⟨b, off + q * 2, none⟩ = some (.int .i64 kd) := ((bcell (below_on HBW.out HB.out)).1 _ _ hb).trans c1
      have d2 : wr.cell? ⟨b, off + q * 2 + 1, none⟩ = some (.int .i64 it) := ((bcell (below_on HBW.out HB.out)).1 _ _ hb).trans c2
      have HD := hide (HR.out.trans (brkF_drop hu))
      simp only at HD
      clear c1 c2 hu hb
      have HA : Hid (∀ o, Below W.heap.size W (wr.alloc o)) := fun o => HB.out.alloc HB.out.size o
      by_cases hk4 : kd = 4
      · subst hk4
        rw [if_pos rfl] at HD
        by_cases hin : it = (n : Int)
        · subst hin
          rw [if_pos rfl] at HD
          have y1 : ((n : Int) != (n : Int)) = false := by simp
          go_wp2_with (first | (go_at_call 73; refine (isBreak_any _ _ _).mono ?_; rintro e w1 ⟨rfl, k1⟩; have B1 := hide (below_on (HA.out _) k1); have e1 : w1.cell? ⟨wr.heap.size, 1, none⟩ = some (.int .i64 n) := ((bcell k1).1 _ 1 (by simp)).trans (by simp [go_sem]); clear k1) | fail)
          go_roundw
          case rel => exact ⟨q + 1, n + 1, by go_num, by go_num, by omega, by omega, HD.out, B1.out⟩
          case measure => simp [intOf]; omega
        · rw [if_neg hin] at HD
          have y1 : (it != (n : Int)) = true := by simpa using hin
          have HF : Hid (restM V nb = false) := by show _ = _; unfold restM; rw [HD.out]; simp
          go_wp2_with (first | (go_at_call 73; refine (isBreak_any _ _ _).mono ?_; rintro e w1 ⟨rfl, k1⟩; have B1 := hide (below_on (HA.out _) k1); have e1 : w1.cell? ⟨wr.heap.size, 1, none⟩ = some (.int .i64 it) := ((bcell k1).1 _ 1 (by simp)).trans (by simp [go_sem]); clear k1) | fail)
          go_ret
          exact ⟨by simp [HF.out], below_on HBW.out B1.out⟩
      · rw [if_neg hk4] at HD
        have y4 : (kd == 4) = false := by simpa using hk4
        go_wp2_with (first | (go_at_call 73; refine (isBreak_any _ _ _).mono ?_; rintro e w1 ⟨rfl, k1⟩; have B1 := hide (below_on (HA.out _) k1); clear k1) | fail)
        go_roundw
        case rel => exact ⟨q + 1, n, by go_num, rfl, by omega, by omega, HD.out, B1.out⟩
        case measure => simp [intOf]; omega
    · have i1 : ¬ (q : Int) < (m : Int) := by omega
      have HF : Hid (restM V nb = decide (n = nb)) := by
        show _ = _
        unfold restM
        rw [HR.out, List.drop_eq_nil_of_le (by rw [HM.out]; omega)]
        simp [brkF]
      have r : ∀ j, wr.cell? ⟨w.heap.size, j, none⟩ = _ := fun j => ((bcell HB.out).1 _ j HLW.out).trans (HC.out j)
      have r0 := r 0
      have r1 := r 1
      have r2 := r 2
      have r3 := r 3
      have r4 := r 4
      have r5 := r 5
      have r6 := r 6
      have r7 := r 7
      have r8 := r 8
      have r9 := r 9
      simp at r0 r1 r2 r3 r4 r5 r6 r7 r8 r9
      clear r
      have y5 : ((n : Int) == (nb : Int)) = decide (n = nb) := by
        by_cases e : n = nb
        · subst e; simp
        · have : ¬ (n : Int) = (nb : Int) := by omega
          simp [e, this]
      go_wp2_with (first | (go_at_call 74; rw [← HTE.out]; refine (car_any (HP.out.on (below_on HBW.out HB.out)) hk).mono ?_; rintro e w1 ⟨xc, xb, rfl, q1, q2, k1⟩; obtain ⟨ba, c2, rfl⟩ := SlV.shape q2; rw [HNB.out]; obtain ⟨V1, hV1⟩ : ∃ V1, p.vs.getD k vz = V1 := ⟨_, rfl⟩; rw [hV1]; clear hV1; have hfd : ∀ X, (Instr.field 86 (.agg (vehA V1 xc (.slice ba nb c2))) 9).run Try.prog X = .ok (.slice ba nb c2) X := (fun X => by kernel_rfl); have B1 := hide (below_on HB.out k1); clear k1 q1 q2) | fail)
      go_ret
      exact ⟨by simp [HF.out], below_on HBW.out B1.out⟩
end Go.Proofs.Ytgjpkpmikbpcnaa
