/-
  What the calls of all over vehicles, jobs and shipments do.
-/
import Derived.Test.YtgjpkpmikbpcnaaVehB
namespace Go.Proofs.Ytgjpkpmikbpcnaa
open Go.RowKit

set_option maxRecDepth 100000 in
set_option maxHeartbeats 3200000 in
theorem all_vehs {w : World} (n d : Int) {v : Value} {L : List Veh} (h : VehsV w v L) : Calls Try.prog 62 #[v, .func (.func 63) #[.agg #[.int .i64 n, .int .i64 d]] #[]] w fun e w' => e = .returned (.bool (L.all (vehB d n))) ∧ Below w.heap.size w w' := by
  have HA := hide h
  obtain ⟨a, c, rfl, _, hl, _⟩ := h
  obtain ⟨m, hm⟩ : ∃ m, L.length = m := ⟨_, rfl⟩
  have HM := hide hm
  rw [hm] at hl HA ⊢
  clear hm
  obtain ⟨B, hB⟩ : ∃ B, w.heap.size = B := ⟨_, rfl⟩
  have HB := hide hB
  rw [hB]
  clear hB
  go_enter Try.func62, Try.ntmps62
  go_wp2
  go_loopw [9] (fun vi wr => ∃ k : Nat, vi = .int .i64 k ∧ k ≤ m ∧ Hid (Below B w wr ∧ B ≤ wr.heap.size ∧ L.all (vehB d n) = (L.drop k).all (vehB d n))) (fun vi _ => m - (intOf vi).toNat)
  case atStart => exact ⟨0, rfl, Nat.zero_le _, by rw [← HB.out]; exact Below.refl _ _, by rw [← HB.out]; exact Nat.le_refl _, by rw [List.drop_zero]⟩
  case round =>
    obtain ⟨k, rfl, hk, HR⟩ := hrel
    by_cases hlt : k < m
    · have HAr := hide (VehsV.on HA.out (by have := HR.out.1; rw [← HB.out] at this; exact this))
      obtain ⟨a', c', e', _, _, hcell⟩ := HAr.out
      obtain ⟨b, off, l, rfl, hll, hcs, hv⟩ := hcell k (by rw [HM.out]; exact hlt)
      injection e' with e1 e2 e3
      clear e2 e3 hcell
      subst e1
      obtain ⟨x, hx⟩ : ∃ x, L.getD k vz = x := ⟨_, rfl⟩
      have HS := hide (HR.out.2.2.trans (all_step (vehB d n) vz L k (by rw [HM.out]; exact hlt)))
      rw [hx] at hv HS
      clear hx
      obtain ⟨xc, xb, rfl, q1, q2, q3⟩ := hv
      obtain ⟨ca, cc, rfl⟩ := q1.shape
      obtain ⟨ka, kc, rfl⟩ := SlV.shape q2
      have HX : Hid (VehV wr (vehE x (.slice ca x.cap.length cc) (.slice ka x.brks.length kc)) x) := ⟨_, _, rfl, q1, q2, q3⟩
      clear q1 q2 q3
      have i3 : (k : Int) < (m : Int) := by omega
      obtain ⟨bb, hbb⟩ : ∃ bb, (vehB d n) x = bb := ⟨_, rfl⟩
      have HBB := hide hbb
      rw [hbb] at HS
      clear hbb
      have c0 : wr.cell? ⟨b, off + k * 11, none⟩ = some (.int .i64 x.start) := hcs 0 (by decide)
      have c1 : wr.cell? ⟨b, off + k * 11 + 1, none⟩ = some (.int .i64 x.stop) := hcs 1 (by decide)
      have c2 : wr.cell? ⟨b, off + k * 11 + 2, none⟩ = some (.slice ca x.cap.length cc) := hcs 2 (by decide)
      have c3 : wr.cell? ⟨b, off + k * 11 + 3, none⟩ = some (.int .u64 x.skills) := hcs 3 (by decide)
      have c4 : wr.cell? ⟨b, off + k * 11 + 4, none⟩ = some (.int .i64 x.shift.1) := hcs 4 (by decide)
      have c5 : wr.cell? ⟨b, off + k * 11 + 5, none⟩ = some (.int .i64 x.shift.2) := hcs 5 (by decide)
      have c6 : wr.cell? ⟨b, off + k * 11 + 6, none⟩ = some (.int .i64 x.fixed) := hcs 6 (by decide)
      have c7 : wr.cell? ⟨b, off + k * 11 + 7, none⟩ = some (.int .i64 x.perT) := hcs 7 (by decide)
      have c8 : wr.cell? ⟨b, off + k * 11 + 8, none⟩ = some (.int .i64 x.perD) := hcs 8 (by decide)
      have c9 : wr.cell? ⟨b, off + k * 11 + 9, none⟩ = some (.int .i64 x.maxT) := hcs 9 (by decide)
      have c10 : wr.cell? ⟨b, off + k * 11 + 10, none⟩ = some (.slice ka x.brks.length kc) := hcs 10 (by decide)
      clear hcs hll
      have HE0 : Hid (∀ o, Below wr.heap.size wr (wr.alloc o)) := fun o => (Below.refl _ _).alloc (Nat.le_refl _) o
      cases bb with
      | true =>
        go_wp2_with (first
          | (go_at_call 63; refine (vehicle_any _ _ (VehV.on (HE0.out _) HX.out)).mono ?_; rintro e w1 ⟨rfl, k1⟩; rw [HBB.out]; have K1 := hide (below_on (HE0.out _) k1); clear k1))
        go_roundw
        case rel => exact ⟨k + 1, by go_num, by omega, HR.out.1.trans (K1.out.mono HR.out.2.1), Nat.le_trans HR.out.2.1 K1.out.size, by rw [HS.out]; simp⟩
        case measure => simp [intOf]; omega
      | false =>
        go_wp2_with (first
          | (go_at_call 63; refine (vehicle_any _ _ (VehV.on (HE0.out _) HX.out)).mono ?_; rintro e w1 ⟨rfl, k1⟩; rw [HBB.out]; have K1 := hide (below_on (HE0.out _) k1); clear k1))
        go_ret
        exact ⟨by rw [HS.out]; simp, HR.out.1.trans (K1.out.mono HR.out.2.1)⟩
    · have E := hide (HR.out.2.2.trans (all_end (vehB d n) L k (by rw [HM.out]; exact hlt)))
      have i3 : ¬ (k : Int) < (m : Int) := by omega
      go_wp2
      go_ret
      exact ⟨by rw [E.out]; rfl, HR.out.1⟩
set_option maxRecDepth 100000 in
set_option maxHeartbeats 3200000 in
theorem all_jobs {w : World} (n d : Int) {v : Value} {L : List Jb} (h : JobsV w v L) : Calls Try.prog 64 #[v, .func (.func 65) #[.agg #[.int .i64 n, .int .i64 d]] #[]] w fun e w' => e = .returned (.bool (L.all (jobB d n))) ∧ Below w.heap.size w w' := by
  have HA := hide h
  obtain ⟨a, c, rfl, _, hl, _⟩ := h
  obtain ⟨m, hm⟩ : ∃ m, L.length = m := ⟨_, rfl⟩
  have HM := hide hm
  rw [hm] at hl HA ⊢
  clear hm
  obtain ⟨B, hB⟩ : ∃ B, w.heap.size = B := ⟨_, rfl⟩
  have HB := hide hB
  rw [hB]
  clear hB
  go_enter Try.func64, Try.ntmps64
  go_wp2
  go_loopw [9] (fun vi wr => ∃ k : Nat, vi = .int .i64 k ∧ k ≤ m ∧ Hid (Below B w wr ∧ B ≤ wr.heap.size ∧ L.all (jobB d n) = (L.drop k).all (jobB d n))) (fun vi _ => m - (intOf vi).toNat)
  case atStart => exact ⟨0, rfl, Nat.zero_le _, by rw [← HB.out]; exact Below.refl _ _, by rw [← HB.out]; exact Nat.le_refl _, by rw [List.drop_zero]⟩
  case round =>
    obtain ⟨k, rfl, hk, HR⟩ := hrel
    by_cases hlt : k < m
    · have HAr := hide (JobsV.on HA.out (by have := HR.out.1; rw [← HB.out] at this; exact this))
      obtain ⟨a', c', e', _, _, hcell⟩ := HAr.out
      obtain ⟨b, off, l, rfl, hll, hcs, hv⟩ := hcell k (by rw [HM.out]; exact hlt)
      injection e' with e1 e2 e3
      clear e2 e3 hcell
      subst e1
      obtain ⟨x, hx⟩ : ∃ x, L.getD k jz = x := ⟨_, rfl⟩
      have HS := hide (HR.out.2.2.trans (all_step (jobB d n) jz L k (by rw [HM.out]; exact hlt)))
      rw [hx] at hv HS
      clear hx
      obtain ⟨xw, xd, xp, rfl, q1, q2, q3, q4⟩ := hv
      obtain ⟨wa, wc, rfl⟩ := q1.shape
      obtain ⟨da, dc, rfl⟩ := q2.shape
      obtain ⟨pa, pc, rfl⟩ := q3.shape
      have HX : Hid (JobV wr (jobE x (.slice wa x.stop.wins.length wc) (.slice da x.drop.length dc) (.slice pa x.pick.length pc)) x) := ⟨_, _, _, rfl, q1, q2, q3, q4⟩
      clear q1 q2 q3 q4
      have i3 : (k : Int) < (m : Int) := by omega
      obtain ⟨bb, hbb⟩ : ∃ bb, (jobB d n) x = bb := ⟨_, rfl⟩
      have HBB := hide hbb
      rw [hbb] at HS
      clear hbb
      have c0 : wr.cell? ⟨b, off + k * 7, none⟩ = some (.int .i64 x.stop.place) := hcs 0 (by decide)
      have c1 : wr.cell? ⟨b, off + k * 7 + 1, none⟩ = some (.int .i64 x.stop.serv) := hcs 1 (by decide)
      have c2 : wr.cell? ⟨b, off + k * 7 + 2, none⟩ = some (.slice wa x.stop.wins.length wc) := hcs 2 (by decide)
      have c3 : wr.cell? ⟨b, off + k * 7 + 3, none⟩ = some (.slice da x.drop.length dc) := hcs 3 (by decide)
      have c4 : wr.cell? ⟨b, off + k * 7 + 4, none⟩ = some (.slice pa x.pick.length pc) := hcs 4 (by decide)
      have c5 : wr.cell? ⟨b, off + k * 7 + 5, none⟩ = some (.int .u64 x.skills) := hcs 5 (by decide)
      have c6 : wr.cell? ⟨b, off + k * 7 + 6, none⟩ = some (.int .i64 x.prio) := hcs 6 (by decide)
      clear hcs hll
      have HE0 : Hid (∀ o, Below wr.heap.size wr (wr.alloc o)) := fun o => (Below.refl _ _).alloc (Nat.le_refl _) o
      cases bb with
      | true =>
        go_wp2_with (first
          | (go_at_call 65; refine (job_any _ _ (JobV.on (HE0.out _) HX.out)).mono ?_; rintro e w1 ⟨rfl, k1⟩; rw [HBB.out]; have K1 := hide (below_on (HE0.out _) k1); clear k1))
        go_roundw
        case rel => exact ⟨k + 1, by go_num, by omega, HR.out.1.trans (K1.out.mono HR.out.2.1), Nat.le_trans HR.out.2.1 K1.out.size, by rw [HS.out]; simp⟩
        case measure => simp [intOf]; omega
      | false =>
        go_wp2_with (first
          | (go_at_call 65; refine (job_any _ _ (JobV.on (HE0.out _) HX.out)).mono ?_; rintro e w1 ⟨rfl, k1⟩; rw [HBB.out]; have K1 := hide (below_on (HE0.out _) k1); clear k1))
        go_ret
        exact ⟨by rw [HS.out]; simp, HR.out.1.trans (K1.out.mono HR.out.2.1)⟩
    · have E := hide (HR.out.2.2.trans (all_end (jobB d n) L k (by rw [HM.out]; exact hlt)))
      have i3 : ¬ (k : Int) < (m : Int) := by omega
      go_wp2
      go_ret
      exact ⟨by rw [E.out]; rfl, HR.out.1⟩
set_option maxRecDepth 100000 in
set_option maxHeartbeats 3200000 in
theorem all_shps {w : World} (n d : Int) {v : Value} {L : List Shp} (h : ShpsV w v L) : Calls Try.prog 66 #[v, .func (.func 67) #[.agg #[.int .i64 n, .int .i64 d]] #[]] w fun e w' => e = .returned (.bool (L.all (shpB d n))) ∧ Below w.heap.size w w' := by
  have HA := hide h
  obtain ⟨a, c, rfl, _, hl, _⟩ := h
  obtain ⟨m, hm⟩ : ∃ m, L.length = m := ⟨_, rfl⟩
  have HM := hide hm
  rw [hm] at hl HA ⊢
  clear hm
  obtain ⟨B, hB⟩ : ∃ B, w.heap.size = B := ⟨_, rfl⟩
  have HB := hide hB
  rw [hB]
  clear hB
  go_enter Try.func66, Try.ntmps66
  go_wp2
  go_loopw [9] (fun vi wr => ∃ k : Nat, vi = .int .i64 k ∧ k ≤ m ∧ Hid (Below B w wr ∧ B ≤ wr.heap.size ∧ L.all (shpB d n) = (L.drop k).all (shpB d n))) (fun vi _ => m - (intOf vi).toNat)
  case atStart => exact ⟨0, rfl, Nat.zero_le _, by rw [← HB.out]; exact Below.refl _ _, by rw [← HB.out]; exact Nat.le_refl _, by rw [List.drop_zero]⟩
  case round =>
    obtain ⟨k, rfl, hk, HR⟩ := hrel
    by_cases hlt : k < m
    · have HAr := hide (ShpsV.on HA.out (by have := HR.out.1; rw [← HB.out] at this; exact this))
      obtain ⟨a', c', e', _, _, hcell⟩ := HAr.out
      obtain ⟨b, off, l, rfl, hll, hcs, hv⟩ := hcell k (by rw [HM.out]; exact hlt)
      injection e' with e1 e2 e3
      clear e2 e3 hcell
      subst e1
      obtain ⟨x, hx⟩ : ∃ x, L.getD k hz = x := ⟨_, rfl⟩
      have HS := hide (HR.out.2.2.trans (all_step (shpB d n) hz L k (by rw [HM.out]; exact hlt)))
      rw [hx] at hv HS
      clear hx
      obtain ⟨xw, xd, xp, rfl, q1, q2, q3, q4⟩ := hv
      obtain ⟨wa, wc, rfl⟩ := q1.shape
      obtain ⟨da, dc, rfl⟩ := q2.shape
      obtain ⟨pa, pc, rfl⟩ := q3.shape
      have HX : Hid (ShpV wr (shpE x (.slice wa x.pick.wins.length wc) (.slice da x.deli.wins.length dc) (.slice pa x.amt.length pc)) x) := ⟨_, _, _, rfl, q1, q2, q3, q4⟩
      clear q1 q2 q3 q4
      have i3 : (k : Int) < (m : Int) := by omega
      obtain ⟨bb, hbb⟩ : ∃ bb, (shpB d n) x = bb := ⟨_, rfl⟩
      have HBB := hide hbb
      rw [hbb] at HS
      clear hbb
      have c0 : wr.cell? ⟨b, off + k * 9, none⟩ = some (.int .i64 x.pick.place) := hcs 0 (by decide)
      have c1 : wr.cell? ⟨b, off + k * 9 + 1, none⟩ = some (.int .i64 x.pick.serv) := hcs 1 (by decide)
      have c2 : wr.cell? ⟨b, off + k * 9 + 2, none⟩ = some (.slice wa x.pick.wins.length wc) := hcs 2 (by decide)
      have c3 : wr.cell? ⟨b, off + k * 9 + 3, none⟩ = some (.int .i64 x.deli.place) := hcs 3 (by decide)
      have c4 : wr.cell? ⟨b, off + k * 9 + 4, none⟩ = some (.int .i64 x.deli.serv) := hcs 4 (by decide)
      have c5 : wr.cell? ⟨b, off + k * 9 + 5, none⟩ = some (.slice da x.deli.wins.length dc) := hcs 5 (by decide)
      have c6 : wr.cell? ⟨b, off + k * 9 + 6, none⟩ = some (.slice pa x.amt.length pc) := hcs 6 (by decide)
      have c7 : wr.cell? ⟨b, off + k * 9 + 7, none⟩ = some (.int .u64 x.skills) := hcs 7 (by decide)
      have c8 : wr.cell? ⟨b, off + k * 9 + 8, none⟩ = some (.int .i64 x.prio) := hcs 8 (by decide)
      clear hcs hll
      have HE0 : Hid (∀ o, Below wr.heap.size wr (wr.alloc o)) := fun o => (Below.refl _ _).alloc (Nat.le_refl _) o
      cases bb with
      | true =>
        go_wp2_with (first
          | (go_at_call 67; refine (shipment_any _ _ (ShpV.on (HE0.out _) HX.out)).mono ?_; rintro e w1 ⟨rfl, k1⟩; rw [HBB.out]; have K1 := hide (below_on (HE0.out _) k1); clear k1))
        go_roundw
        case rel => exact ⟨k + 1, by go_num, by omega, HR.out.1.trans (K1.out.mono HR.out.2.1), Nat.le_trans HR.out.2.1 K1.out.size, by rw [HS.out]; simp⟩
        case measure => simp [intOf]; omega
      | false =>
        go_wp2_with (first
          | (go_at_call 67; refine (shipment_any _ _ (ShpV.on (HE0.out _) HX.out)).mono ?_; rintro e w1 ⟨rfl, k1⟩; rw [HBB.out]; have K1 := hide (below_on (HE0.out _) k1); clear k1))
        go_ret
        exact ⟨by rw [HS.out]; simp, HR.out.1.trans (K1.out.mono HR.out.2.1)⟩
    · have E := hide (HR.out.2.2.trans (all_end (shpB d n) L k (by rw [HM.out]; exact hlt)))
      have i3 : ¬ (k : Int) < (m : Int) := by omega
      go_wp2
      go_ret
      exact ⟨by rw [E.out]; rfl, HR.out.1⟩
end Go.Proofs.Ytgjpkpmikbpcnaa
