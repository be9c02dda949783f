/-
  What the statements' own counted does.
-/
import Derived.Test.YtdnkmjafkpnliaaMpA
import Derived.Test.YtdnkmjafkpnliaaPrA
import Derived.Deep.RegionHeld3
namespace Go.Proofs.Ytdnkmjafkpnliaa
open Go.RowKit Go.Maps

theorem cnt_bound (A : List Vst) (q : Nat) (v : Vst) : (A.take q).count v ≤ A.length := Nat.le_trans List.count_le_length (by rw [List.length_take]; omega)
theorem cnt_next {A : List Vst} {q : Nat} {u v : Vst} (h : A[q]? = some v) : (((A.take (q + 1)).count u : Nat) : Int) = if u = v then ((A.take q).count u : Int) + 1 else ((A.take q).count u : Int) := by
  rw [count_step (v := u) h]
  by_cases e : u = v
  · rw [if_pos e, if_pos e.symm]; simp
  · rw [if_neg e, if_neg (fun h => e h.symm)]; simp
set_option maxRecDepth 100000 in
set_option maxHeartbeats 12800000 in
theorem counted_any {w : World} {va vb : Option Addr} {m vc n vd : Nat} {A B : List Vst} (hA : SlI w va m vc A) (hB : SlI w vb n vd B) (h64 : ∀ v ∈ A, V64 v) (h64' : ∀ v ∈ B, V64 v) (hm : m ≤ 900) (hn : n ≤ 900) (hc : ∀ v, A.count v = B.count v) : Calls Try.prog 19 #[.slice va m vc, .slice vb n vd] w fun e w' => e = .returned (.bool true) ∧ Below w.heap.size w w' := by
  have HA := hide hA
  have HB2 := hide hB
  have H64 := hide h64
  have H64' := hide h64'
  have HCC := hide hc
  clear hA hB h64 h64' hc
  obtain ⟨mb, hmb⟩ : ∃ mb, mb = w.heap.size := ⟨_, rfl⟩
  have HMB : Hid (w.heap.size ≤ mb) := by show _ ≤ _; omega
  have HM0 : Hid (MapN (w.alloc (.map #[] 0)) mb (0 + 0) (fun u : Vst => ((A.take 0).count u : Int))) := by show MapN _ _ _ _; rw [hmb]; exact MapN.made w
  have HB0 : Hid (Below w.heap.size w (w.alloc (.map #[] 0))) := (Below.refl _ _).alloc (Nat.le_refl _) _
  have hmm := @run_makeMap Try.prog
  go_enter Try.func19, Try.ntmps19
  go_wp2_with fail
  rw [← hmb]
  clear hmb hmm
  go_loopw [15] (fun vi wz => ∃ q : Nat, vi = .int .i64 q ∧ q ≤ m ∧ Hid (MapN wz mb (0 + q) (fun u : Vst => ((A.take q).count u : Int))) ∧ Hid (Below w.heap.size w wz)) (fun vi _ => m - (intOf vi).toNat)
  case atStart => exact ⟨0, rfl, Nat.zero_le _, HM0.out, HB0.out⟩
  case round =>
    obtain ⟨q, rfl, hq, HZ, HB⟩ := hrel
    rename World => wr
    by_cases hqm : q < m
    · have j1 : (q : Int) < (m : Int) := by omega
      have j2 : (0 : Int) ≤ (q : Int) := by omega
      have j4 : ¬ (m : Int) ≤ (q : Int) := by omega
      obtain ⟨⟨kd, it⟩, hu⟩ : ∃ u, A[q]? = some u := ⟨_, List.getElem?_eq_getElem (by rw [HA.out.len]; exact hqm)⟩
      have HU := hide hu
      have H6 : Hid (V64 (kd, it)) := H64.out _ (List.mem_of_getElem? hu)
      obtain ⟨bb, off, hbb, hbl, c1, c2, -⟩ := vs_cells HA.out.vs hu
      subst hbb
      simp only at c1 c2
      have z1 : wr.cell? ⟨bb, off + q * 2, none⟩ = some (.int .i64 kd) := ((bcell HB.out).1 _ _ hbl).trans c1
      have z2 : wr.cell? ⟨bb, off + q * 2 + 1, none⟩ = some (.int .i64 it) := ((bcell HB.out).1 _ _ hbl).trans c2
      have hmr : mb < wr.heap.size := HZ.out.lt
      clear hu c1 c2 hbl
      obtain ⟨w5, hw5⟩ : ∃ W, W = wr.alloc (.cells #[.int .i64 kd, .int .i64 it] 58) := ⟨_, rfl⟩
      have E5 : Hid (Below wr.heap.size wr w5.drew) := by rw [hw5]; exact ((Below.refl _ _).alloc (Nat.le_refl _) _).drew
      have l5 : wr.heap.size < w5.drew.heap.size := by rw [hw5]; show _ < (wr.alloc _).heap.size; simp
      have t5 : w5.heap[wr.heap.size]? = some (.cells #[.int .i64 kd, .int .i64 it] 58) := by rw [hw5]; exact heap_alloc_new _ _
      have t50 : w5.cell? ⟨wr.heap.size, 0, none⟩ = some (.int .i64 kd) := cell_of_row _ _ _ _ _ _ t5
      have t51 : w5.cell? ⟨wr.heap.size, 1, none⟩ = some (.int .i64 it) := cell_of_row _ _ _ _ _ _ t5
      have n5 : wr.heap.size ≠ mb := by omega
      have HZ5 := hide (HZ.out.on hmr E5.out)
      obtain ⟨v0, st, w6, w7, x1, x2, x3, x4, x5, x6⟩ := HZ5.out.bump Try.underlying55 (by unfold maxLen; omega) (kd, it) H6.out (1)
      have x0 := HZ5.out.look Try.underlying55 (kd, it) H6.out
      obtain ⟨f, hf⟩ : ∃ f : Int, ((A.take q).count (kd, it) : Int) = f := ⟨_, rfl⟩
      have hfb : -2000 ≤ f ∧ f ≤ 2000 := by rw [← hf]; have h9 := cnt_bound A q (kd, it); rw [HA.out.len] at h9; show -2000 ≤ ((((A.take q).count (kd, it)) : Nat) : Int) ∧ ((((A.take q).count (kd, it)) : Nat) : Int) ≤ 2000; omega
      rw [hf] at x0 x2 x4
    
      simp only [vval] at x0 x1 x2
      have HX5 := hide x5
      have HX6 : Hid (Below w.heap.size w w7) := (below_on HB.out E5.out).trans (((grown_below x6 (Nat.le_of_lt (Nat.lt_of_lt_of_le hmr E5.out.size))).mono HMB.out))
      have t60 : w6.cell? ⟨wr.heap.size, 0, none⟩ = some (.int .i64 kd) := (grown_cell x3 l5 n5).trans t50
      have t61 : w6.cell? ⟨wr.heap.size, 1, none⟩ = some (.int .i64 it) := (grown_cell x3 l5 n5).trans t51
      have t70 : w7.cell? ⟨wr.heap.size, 0, none⟩ = some (.int .i64 kd) := (grown_cell x6 l5 n5).trans t50
      have t71 : w7.cell? ⟨wr.heap.size, 1, none⟩ = some (.int .i64 it) := (grown_cell x6 l5 n5).trans t51
      have wr1 : IntKind.i64.wrap (f + 1) = f + 1 := by rw [IntKind.wrap_i64]; omega
      clear x3 x5 x6 hf t5
      go_wp2_with fail
      try (rw [← hw5])
      clear hw5
      go_region_held3 (fun w' => w'.cell? ⟨wr.heap.size, 0, none⟩ = some (.int .i64 kd) ∧ w'.cell? ⟨wr.heap.size, 1, none⟩ = some (.int .i64 it)) (go_keep) (fail)
      all_goals
        go_wp2_with fail
        go_roundw
        case rel => exact ⟨q + 1, by go_num, by omega, by have h9 := HX5.out; rw [show (fun u : Vst => ((A.take (q + 1)).count u : Int)) = fun u => if u = (kd, it) then (fun u : Vst => ((A.take q).count u : Int)) u + (1) else (fun u : Vst => ((A.take q).count u : Int)) u from funext fun u => by have h8 := cnt_next (u := u) HU.out; exact h8]; exact h9, HX6.out⟩
        case measure => simp [intOf]; omega
    · have j1 : ¬ (q : Int) < (m : Int) := by omega
      have hqe : q = m := by omega
      have HM1 : Hid (MapN wr mb (m + 0) (fun u : Vst => (A.count u : Int) - ((B.take 0).count u : Int))) := by
        have h9 := HZ.out
        rw [hqe, Nat.zero_add, List.take_of_length_le (l := A) (by rw [HA.out.len]; exact Nat.le_refl _)] at h9
        have e9 : (fun u : Vst => (A.count u : Int) - ((B.take 0).count u : Int)) = fun u => (A.count u : Int) := funext fun u => by simp
        rw [e9]
        exact h9
      have HB1 := hide HB.out
      clear HZ HB HM0 HB0 hqe hqm hq
      go_wp2_with fail
      clear j1
      go_loopw [28] (fun vi wz => ∃ q : Nat, vi = .int .i64 q ∧ q ≤ n ∧ Hid (MapN wz mb (m + q) (fun u : Vst => (A.count u : Int) - ((B.take q).count u : Int))) ∧ Hid (Below w.heap.size w wz)) (fun vi _ => n - (intOf vi).toNat)
      case atStart => exact ⟨0, rfl, Nat.zero_le _, HM1.out, HB1.out⟩
      case round =>
        obtain ⟨q, rfl, hq, HZ, HB⟩ := hrel
        rename World => wy
        by_cases hqm : q < n
        · have j1 : (q : Int) < (n : Int) := by omega
          have j2 : (0 : Int) ≤ (q : Int) := by omega
          have j4 : ¬ (n : Int) ≤ (q : Int) := by omega
          obtain ⟨⟨kd, it⟩, hu⟩ : ∃ u, B[q]? = some u := ⟨_, List.getElem?_eq_getElem (by rw [HB2.out.len]; exact hqm)⟩
          have HU := hide hu
          have H6 : Hid (V64 (kd, it)) := H64'.out _ (List.mem_of_getElem? hu)
          obtain ⟨bb, off, hbb, hbl, c1, c2, -⟩ := vs_cells HB2.out.vs hu
          subst hbb
          simp only at c1 c2
          have z1 : wy.cell? ⟨bb, off + q * 2, none⟩ = some (.int .i64 kd) := ((bcell HB.out).1 _ _ hbl).trans c1
          have z2 : wy.cell? ⟨bb, off + q * 2 + 1, none⟩ = some (.int .i64 it) := ((bcell HB.out).1 _ _ hbl).trans c2
          have hmr : mb < wy.heap.size := HZ.out.lt
          clear hu c1 c2 hbl
          obtain ⟨w5, hw5⟩ : ∃ W, W = wy.alloc (.cells #[.int .i64 kd, .int .i64 it] 58) := ⟨_, rfl⟩
          have E5 : Hid (Below wy.heap.size wy w5.drew) := by rw [hw5]; exact ((Below.refl _ _).alloc (Nat.le_refl _) _).drew
          have l5 : wy.heap.size < w5.drew.heap.size := by rw [hw5]; show _ < (wy.alloc _).heap.size; simp
          have t5 : w5.heap[wy.heap.size]? = some (.cells #[.int .i64 kd, .int .i64 it] 58) := by rw [hw5]; exact heap_alloc_new _ _
          have t50 : w5.cell? ⟨wy.heap.size, 0, none⟩ = some (.int .i64 kd) := cell_of_row _ _ _ _ _ _ t5
          have t51 : w5.cell? ⟨wy.heap.size, 1, none⟩ = some (.int .i64 it) := cell_of_row _ _ _ _ _ _ t5
          have n5 : wy.heap.size ≠ mb := by omega
          have HZ5 := hide (HZ.out.on hmr E5.out)
          obtain ⟨v0, st, w6, w7, x1, x2, x3, x4, x5, x6⟩ := HZ5.out.bump Try.underlying55 (by unfold maxLen; omega) (kd, it) H6.out (-1)
          have x0 := HZ5.out.look Try.underlying55 (kd, it) H6.out
          obtain ⟨f, hf⟩ : ∃ f : Int, (A.count (kd, it) : Int) - ((B.take q).count (kd, it) : Int) = f := ⟨_, rfl⟩
          have hfb : -2000 ≤ f ∧ f ≤ 2000 := by rw [← hf]; have h9 := cnt_bound B q (kd, it); have h8 := cnt_bound A m (kd, it); rw [List.take_of_length_le (l := A) (by rw [HA.out.len]; exact Nat.le_refl _), HA.out.len] at h8; rw [HB2.out.len] at h9; show -2000 ≤ (((A.count (kd, it)) : Nat) : Int) - ((((B.take q).count (kd, it)) : Nat) : Int) ∧ (((A.count (kd, it)) : Nat) : Int) - ((((B.take q).count (kd, it)) : Nat) : Int) ≤ 2000; omega
          rw [hf] at x0 x2 x4
          rw [show f + -1 = f - 1 by omega] at x4
          simp only [vval] at x0 x1 x2
          have HX5 := hide x5
          have HX6 : Hid (Below w.heap.size w w7) := (below_on HB.out E5.out).trans (((grown_below x6 (Nat.le_of_lt (Nat.lt_of_lt_of_le hmr E5.out.size))).mono HMB.out))
          have t60 : w6.cell? ⟨wy.heap.size, 0, none⟩ = some (.int .i64 kd) := (grown_cell x3 l5 n5).trans t50
          have t61 : w6.cell? ⟨wy.heap.size, 1, none⟩ = some (.int .i64 it) := (grown_cell x3 l5 n5).trans t51
          have t70 : w7.cell? ⟨wy.heap.size, 0, none⟩ = some (.int .i64 kd) := (grown_cell x6 l5 n5).trans t50
          have t71 : w7.cell? ⟨wy.heap.size, 1, none⟩ = some (.int .i64 it) := (grown_cell x6 l5 n5).trans t51
          have wr1 : IntKind.i64.wrap (f - 1) = f - 1 := by rw [IntKind.wrap_i64]; omega
          clear x3 x5 x6 hf t5
          go_wp2_with fail
          try (rw [← hw5])
          clear hw5
          go_region_held3 (fun w' => w'.cell? ⟨wy.heap.size, 0, none⟩ = some (.int .i64 kd) ∧ w'.cell? ⟨wy.heap.size, 1, none⟩ = some (.int .i64 it)) (go_keep) (fail)
          all_goals
            go_wp2_with fail
            go_roundw
            case rel => exact ⟨q + 1, by go_num, by omega, by have h9 := HX5.out; rw [show (fun u : Vst => (A.count u : Int) - ((B.take (q + 1)).count u : Int)) = fun u => if u = (kd, it) then (fun u : Vst => (A.count u : Int) - ((B.take q).count u : Int)) u + (-1) else (fun u : Vst => (A.count u : Int) - ((B.take q).count u : Int)) u from funext fun u => by have h8 := cnt_next (u := u) HU.out; simp only; rw [h8]; split <;> omega]; exact h9, HX6.out⟩
            case measure => simp [intOf]; omega
        · have j1 : ¬ (q : Int) < (n : Int) := by omega
          have hqe : q = n := by omega
          have HM2 : Hid (MapN wy mb (m + n) (fun _ => 0)) := by
            have h9 := HZ.out
            rw [hqe, List.take_of_length_le (l := B) (by rw [HB2.out.len]; exact Nat.le_refl _)] at h9
            have e9 : (fun u : Vst => (A.count u : Int) - (B.count u : Int)) = fun _ => 0 := funext fun u => by rw [HCC.out u]; omega
            rw [e9] at h9
            exact h9
          have HB3 := hide HB.out
          have hmr : mb < wy.heap.size := HM2.out.lt
          clear HZ HB HM1 HB1 hqe hqm hq
          go_wp2_with (first | (at_range; refine HM2.out.range rfl _ 55 rfl Try.underlying55 rfl ?_; intro w1 cnt hrg k1 hsz) | fail)
          clear j1
          have HRG := hide hrg
          have B1 := hide (below_on HB3.out k1)
          obtain ⟨r0, hr0⟩ : ∃ r0, r0 = wy.heap.size := ⟨_, rfl⟩
          rw [← hr0] at HRG ⊢
          have hr1 : w.heap.size ≤ r0 := by rw [hr0]; exact HB3.out.size
          clear hrg k1 hsz hr0 hmr
          go_loopw [] (fun wx => ∃ cn, Hid (RngN wx mb r0 (m + n) (fun _ => 0) cn ∧ Below w.heap.size w wx)) (fun wx => wx.rangeLeft mb r0)
          case atStart => exact ⟨cnt, HRG.out, B1.out⟩
          case round =>
            clear HRG B1
            obtain ⟨cn, HX⟩ := hrel
            have HRX := hide HX.out.1
            have HBX := hide HX.out.2
            clear HX
            go_wp2_with (first | (at_next; refine HRX.out.next rfl _ rfl rfl ?_ (fun s i w2 cn2 hv hnx hlt hgr hsz hen => ?_)) | fail)
            · go_wp2_with fail
              go_ret
              exact ⟨rfl, HBX.out⟩
            · have HB4 := hide (HBX.out.trans ((grown_below hgr.out (Nat.le_of_lt HRX.out.lt)).mono hr1))
              have HNX := hnx
              have HLE := hide HRX.out.left_eq
              clear hv hgr
              go_wp2_with fail
              go_roundw
              case rel => exact ⟨cn2, HNX.out, HB4.out⟩
              case measure => rw [HNX.out.left_eq, HLE.out]; exact hlt.out
end Go.Proofs.Ytdnkmjafkpnliaa
