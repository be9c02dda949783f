/-
  What the call of slices.CompactFunc does on a row of legs: its first places hold those whose ends aren't the ends of the leg ahead.
-/
import Derived.Test.YtojkdmkeankcgaaGreatHeld
namespace Go.Proofs.YtojkdmkeankcgaaGreat
open Go.RowKit Go.Sort Go.Lib Go.Shelf

/-- The second loop's state: i legs looked at, k kept. -/
structure CI (d : Array Leg) (i k : Nat) (dk : Array Leg) : Prop where
  size : dk.size = d.size
  len : (comp d i).length = k
  lt : k + 1 ≤ i
  low : ∀ j, j < k → dk[j]! = (comp d i)[j]!
  high : ∀ j, i ≤ j + 1 → j < d.size → dk[j]! = d[j]!
theorem app_low (l : List Leg) (x : Leg) (j : Nat) (h : j < l.length) : (l ++ [x])[j]! = l[j]! := by
  rw [getElem!_pos _ j (by simp; omega), getElem!_pos _ j h, List.getElem_append_left h]
theorem app_end (l : List Leg) (x : Leg) : (l ++ [x])[l.length]! = x := by rw [getElem!_pos _ _ (by simp)]; simp
theorem CI.start {d : Array Leg} {k : Nat} (h0 : 0 < k) (hl : (comp d k).length = k) (hc : ∀ j, j < k → d[j]! = (comp d k)[j]!) (hs : sameE d[k]! d[k - 1]! = true) : CI d (k + 1) k d :=
  ⟨rfl, by rw [comp_same d k h0 hs]; exact hl, Nat.le_refl _, fun j hj => by rw [comp_same d k h0 hs]; exact hc j hj, fun _ _ _ => rfl⟩
theorem CI.skip {d dk : Array Leg} {i k : Nat} (h : CI d i k dk) (hs : sameE d[i]! d[i - 1]! = true) : CI d (i + 1) k dk := by
  have := h.lt
  have e := comp_same d i (by omega) hs
  exact ⟨h.size, by rw [e]; exact h.len, by omega, fun j hj => by rw [e]; exact h.low j hj, fun j hj hd => h.high j (by omega) hd⟩
theorem set_get (dk : Array Leg) (k j : Nat) (x : Leg) (hj : j < dk.size) : (dk.setIfInBounds k x)[j]! = if k = j then x else dk[j]! := by
  rw [getElem!_pos (dk.setIfInBounds k x) j (by simpa using hj), Array.getElem_setIfInBounds hj, getElem!_pos dk j hj]
theorem CI.keep {d dk : Array Leg} {i k : Nat} (h : CI d i k dk) (hi : i < d.size) (hs : sameE d[i]! d[i - 1]! = false) : CI d (i + 1) (k + 1) (dk.setIfInBounds k d[i]!) := by
  have hlt := h.lt
  have hz := h.size
  have hn := h.len
  have e := comp_new d i (fun _ => hs)
  refine ⟨by simpa using hz, by rw [e, List.length_append, h.len]; rfl, by omega, fun j hj => ?_, fun j hj hd => ?_⟩
  · rw [e, set_get _ _ _ _ (by omega)]
    split
    · rename_i hk
      subst hk
      rw [← hn, app_end]
    · rw [app_low _ _ _ (by omega)]
      exact h.low j (by omega)
  · rw [set_get _ _ _ _ (by omega), if_neg (by omega)]
    exact h.high j (by omega) hd

theorem clear_legs (w : World) (b o n c : Nat) (hn : 0 < n) (hc : ∀ j, j < n * 3 → (w.cell? ⟨b, o + j, none⟩).isSome = true) (hf : ∀ j, j < n * 3 → w.frozen? ⟨b, o + j, none⟩ = false) :
    ∃ zs : List Value, ∀ ty : TypeId, (Builtin.clear_ #[98] ty #[.slice (some ⟨b, o, none⟩) n c]).run Tryz.prog w = .ok (.tuple #[]) (w.setCells b o zs) := by
  have hlen : (Builtin.zeroCells (Value.agg #[.int .i64 0, .int .i64 0, .int .i64 0]).cells n).toList.length = n * 3 := by simp [Builtin.zeroCells, Value.cells]
  have hone : ∀ v ∈ (Builtin.zeroCells (Value.agg #[.int .i64 0, .int .i64 0, .int .i64 0]).cells n).toList, v.oneCell' = true := by
    intro v hv
    simp [Builtin.zeroCells, Value.cells] at hv
    obtain ⟨j, hj, rfl⟩ := hv
    have : j % 3 = 0 ∨ j % 3 = 1 ∨ j % 3 = 2 := by omega
    rcases this with h | h | h <;> simp [h, Value.oneCell']
  have hst := run_storeCells_cells (P := Tryz.prog) b o (Builtin.zeroCells (Value.agg #[.int .i64 0, .int .i64 0, .int .i64 0]).cells n).toList 0 w (by rw [hlen]; simpa using hc) (by rw [hlen]; simpa using hf) hone
  simp only [Nat.add_zero] at hst
  refine ⟨(Builtin.zeroCells (Value.agg #[.int .i64 0, .int .i64 0, .int .i64 0]).cells n).toList, fun ty => ?_⟩
  obtain ⟨m, rfl⟩ : ∃ m, n = m + 1 := ⟨n - 1, by omega⟩
  simp [Builtin.clear_, run_underlying Tryz.underlying98, hst]
/-- The row at blk begins with the legs of C. -/
structure Legs (blk : Nat) (w0 w : World) (C : List Leg) : Prop where
  c0 : ∀ i, i < C.length → w.cell? ⟨blk, i * 3, none⟩ = some (.int .i64 (C[i]!).1)
  c1 : ∀ i, i < C.length → w.cell? ⟨blk, i * 3 + 1, none⟩ = some (.int .i64 (C[i]!).2.1)
  c2 : ∀ i, i < C.length → w.cell? ⟨blk, i * 3 + 2, none⟩ = some (.int .i64 (C[i]!).2.2)
  fr : Fr blk w0 w
  lt : blk < w.heap.size
theorem legs_whole {blk : Nat} {w0 w : World} {d : Array Leg} {C : List Leg} (h : Rw blk w0 w d) (hl : C.length ≤ d.size) (hc : ∀ j, j < C.length → d[j]! = C[j]!) : Legs blk w0 w C :=
  ⟨fun i hi => by rw [← hc i hi]; exact h.c0 (by omega), fun i hi => by rw [← hc i hi]; exact h.c1 (by omega), fun i hi => by rw [← hc i hi]; exact h.c2 (by omega), h.fr, h.lt⟩
theorem legs_cut {blk : Nat} {w0 w : World} {C : List Leg} (h : Legs blk w0 w C) (zs : List Value) : Legs blk w0 (w.setCells blk (C.length * 3) zs) C :=
  ⟨fun i hi => by rw [World.cell?_setCells_out blk _ _ _ _ (fun _ _ => .inl (by show i * 3 < C.length * 3; omega))]; exact h.c0 i hi, fun i hi => by rw [World.cell?_setCells_out blk _ _ _ _ (fun _ _ => .inl (by show i * 3 + 1 < C.length * 3; omega))]; exact h.c1 i hi,
    fun i hi => by rw [World.cell?_setCells_out blk _ _ _ _ (fun _ _ => .inl (by show i * 3 + 2 < C.length * 3; omega))]; exact h.c2 i hi, h.fr.setCells zs _, by rw [size_setCells]; exact h.lt⟩

theorem same_any (x y : Leg) (w : World) (n : Nat) (os : Array Obj) : Calls Tryz.prog 79 #[.agg #[.int .i64 x.1, .int .i64 x.2.1, .int .i64 x.2.2], .agg #[.int .i64 y.1, .int .i64 y.2.1, .int .i64 y.2.2]] (grow (w.drewN n) os) fun e w'' => e = .returned (.bool (sameE x y)) ∧ ∃ p : GrownBy, w'' = grow (w.drewN p.n) p.os :=
  Calls.grown_of (same_leg x y _)

set_option maxRecDepth 100000 in
set_option maxHeartbeats 3200000 in
theorem compact_legs (blk cap : Nat) (d : Array Leg) (w0 w : World) (h : Rw blk w0 w d) (hsz : d.size ≤ 300) (hcap : d.size ≤ cap) (hcap2 : cap ≤ 9223372036854775807) :
    Calls Tryz.prog 78 #[.slice (some ⟨blk, 0, none⟩) d.size cap, .func (.func 79) #[] #[]] w fun e w' => e = .returned (.slice (some ⟨blk, 0, none⟩) (comp d d.size).length cap) ∧ Legs blk w0 w' (comp d d.size) := by
  by_cases h2 : d.size < 2
  · have H := hide h
    have e1 : comp d d.size = d.toList := by
      have : d.size = 0 ∨ d.size = 1 := by omega
      rcases this with e | e
      · rw [e]; simp [comp]; exact (Array.size_eq_zero_iff.1 e).symm ▸ rfl
      · rw [e]
        obtain ⟨l⟩ := d
        match l, e with
        | [x], _ => simp [comp]
    have e2 : (d.toList).length = d.size := by simp
    rw [e1, e2]
    have H2 : Hid (Legs blk w0 w d.toList) := legs_whole H.out (by simp) (fun j hj => by rw [getElem!_pos _ j (by simpa using hj), getElem!_pos _ j hj]; simp)
    have hlt : (d.size : Int) < 2 := by omega
    clear h e1 e2
    go_enter Tryz.func78, Tryz.ntmps78
    go_wp2
    go_ret
    exact ⟨rfl, H2.out⟩
  · have H := hide h
    have hlt : ¬ (d.size : Int) < 2 := by omega
    have mixed : Tryz.prog.follows .mixedOrders = true := by kernel_rfl
    clear h
    go_enter Tryz.func78, Tryz.ntmps78
    go_wp2
    go_loopw [5] (fun vk wr => ∃ k : Nat, vk = .int .i64 k ∧ 1 ≤ k ∧ k ≤ d.size ∧ Hid (Rw blk w0 wr d ∧ (comp d k).length = k ∧ ∀ j, j < k → d[j]! = (comp d k)[j]!)) (fun vk _ => d.size - (intOf vk).toNat)
    case atStart =>
      refine ⟨1, rfl, by omega, by omega, H.out, by simp [comp], fun j hj => ?_⟩
      have : j = 0 := by omega
      subst this
      simp [comp]
    case round =>
      clear H
      obtain ⟨k, rfl, hk1, hk, HR⟩ := hrel
      by_cases hl : k < d.size
      · obtain ⟨kp, rfl⟩ : ∃ kp, k = kp + 1 := ⟨k - 1, by omega⟩
        have HX : Hid (∀ n os, (grow (wr.drewN n) os).cell? ⟨blk, (kp + 1) * 3, none⟩ = some (.int .i64 (d[kp + 1]!).1) ∧ (grow (wr.drewN n) os).cell? ⟨blk, (kp + 1) * 3 + 1, none⟩ = some (.int .i64 (d[kp + 1]!).2.1) ∧ (grow (wr.drewN n) os).cell? ⟨blk, (kp + 1) * 3 + 2, none⟩ = some (.int .i64 (d[kp + 1]!).2.2)) :=
          fun n os => ⟨(HR.out.1.grown n os).c0 hl, (HR.out.1.grown n os).c1 hl, (HR.out.1.grown n os).c2 hl⟩
        have HY : Hid (∀ n os, (grow (wr.drewN n) os).cell? ⟨blk, kp * 3, none⟩ = some (.int .i64 (d[kp]!).1) ∧ (grow (wr.drewN n) os).cell? ⟨blk, kp * 3 + 1, none⟩ = some (.int .i64 (d[kp]!).2.1) ∧ (grow (wr.drewN n) os).cell? ⟨blk, kp * 3 + 2, none⟩ = some (.int .i64 (d[kp]!).2.2)) :=
          fun n os => ⟨(HR.out.1.grown n os).c0 (by omega), (HR.out.1.grown n os).c1 (by omega), (HR.out.1.grown n os).c2 (by omega)⟩
        obtain ⟨x, hx⟩ : ∃ x, d[kp + 1]! = x := ⟨_, rfl⟩
        obtain ⟨y, hy⟩ : ∃ y, d[kp]! = y := ⟨_, rfl⟩
        rw [hx] at HX
        rw [hy] at HY
        have x0 := fun n os => (HX.out n os).1
        have x1 := fun n os => (HX.out n os).2.1
        have x2 := fun n os => (HX.out n os).2.2
        have y0 := fun n os => (HY.out n os).1
        have y1 := fun n os => (HY.out n os).2.1
        have y2 := fun n os => (HY.out n os).2.2
        have HS := hide (same_any x y wr)
        have HE : Hid (sameE d[kp + 1]! d[kp + 1 - 1]! = sameE x y) := by show _ = _; rw [hx, Nat.add_sub_cancel, hy]
        obtain ⟨xa, xb, xc⟩ := x
        obtain ⟨ya, yb, yc⟩ := y
        replace hx := hide hx
        replace hy := hide hy
        clear HX HY
        have hwp : IntKind.i64.wrap (kp : Int) = (kp : Int) := by rw [IntKind.wrap_i64]; omega
        have p0 : (0 : Int) ≤ (kp : Int) + 1 := by omega
        have p1 : (kp : Int) + 1 < (d.size : Int) := by omega
        have p2 : (kp : Int) < (d.size : Int) := by omega
        have p3 : ((kp : Int) + 1).toNat = kp + 1 := by omega
        cases hsame : sameE (xa, xb, xc) (ya, yb, yc)
        · rw [hsame] at HS HE
          replace hsame := hide hsame
          go_wp2
          go_quiet_grown (first | (go_at_call 79; exact HS.out _ _))
          go_wp2
          go_roundw
          case rel =>
            have e := comp_new d (kp + 1) (fun _ => HE.out)
            refine ⟨kp + 2, by go_num, by omega, by omega, HR.out.1.grown _ _, by rw [e, List.length_append, HR.out.2.1]; rfl, fun j hj => ?_⟩
            rw [e]
            by_cases hj2 : j < kp + 1
            · rw [app_low _ _ _ (by rw [HR.out.2.1]; exact hj2)]
              exact HR.out.2.2 j hj2
            · have : j = kp + 1 := by omega
              subst this
              have hend := app_end (comp d (kp + 1)) d[kp + 1]!
              rw [HR.out.2.1] at hend
              exact hend.symm
          case measure => simp [intOf]; omega
        · rw [hsame] at HS HE
          replace hsame := hide hsame
          go_wp2
          go_quiet_grown (first | (go_at_call 79; exact HS.out _ _))
          have HI : Hid (Rw blk w0 (grow (wr.drewN nq) osq) d ∧ CI d (kp + 2) (kp + 1) d) := ⟨HR.out.1.grown _ _, CI.start (by omega) HR.out.2.1 HR.out.2.2 HE.out⟩
          clear x0 x1 x2 y0 y1 y2 HS HE hx hy hsame HR p3
          generalize grow (wr.drewN nq) osq = W1 at HI ⊢
          go_wp2
          obtain ⟨O, hO⟩ : ∃ O, Hid ((kp + 1) * 3 = O) := ⟨_, rfl⟩
          obtain ⟨m, hm⟩ : ∃ m, d.size - (kp + 1) = m := ⟨_, rfl⟩
          obtain ⟨mc, hmc⟩ : ∃ mc, cap - (kp + 1) = mc := ⟨_, rfl⟩
          rw [hO.out, hm, hmc]
          have hm2 : kp + 1 + m = d.size := by omega
          have hmc2 : m ≤ mc := by omega
          have hmc3 : mc ≤ 9223372036854775807 := by omega
          clear hm hmc
          go_loopw [5, 7] (fun vk v2 w2 => ∃ (k i : Nat) (dk : Array Leg), vk = .int .i64 k ∧ v2 = .int .i64 i ∧ 1 ≤ i ∧ kp + 1 + i ≤ d.size ∧ Hid (Rw blk w0 w2 dk ∧ CI d (kp + 1 + i) k dk)) (fun _ v2 _ => d.size - (intOf v2).toNat)
          case atStart => exact ⟨kp + 1, 1, d, by go_num, rfl, by omega, by omega, HI.out⟩
          case round =>
            clear HI
            obtain ⟨kk, i, dk, rfl, rfl, hi1, hi, HI⟩ := hrel
            obtain ⟨ip, rfl⟩ : ∃ ip, i = ip + 1 := ⟨i - 1, by omega⟩
            have hkk := HI.out.2.lt
            have hds := HI.out.2.size
            by_cases hl2 : ip + 1 < m
            · have eO : (kp + 1 + (ip + 1)) * 3 = O + (ip + 1) * 3 := by have := hO.out; omega
              have eP : (kp + 1 + ip) * 3 = O + ip * 3 := by have := hO.out; omega
              obtain ⟨u, hu⟩ : ∃ u, d[kp + 1 + (ip + 1)]! = u := ⟨_, rfl⟩
              obtain ⟨v, hv⟩ : ∃ v, d[kp + 1 + ip]! = v := ⟨_, rfl⟩
              have eu : dk[kp + 1 + (ip + 1)]! = u := by rw [HI.out.2.high _ (by omega) (by omega)]; exact hu
              have ev : dk[kp + 1 + ip]! = v := by rw [HI.out.2.high _ (by omega) (by omega)]; exact hv
              have HX : Hid (∀ n os, (grow (wr.drewN n) os).cell? ⟨blk, O + (ip + 1) * 3, none⟩ = some (.int .i64 u.1) ∧ (grow (wr.drewN n) os).cell? ⟨blk, O + (ip + 1) * 3 + 1, none⟩ = some (.int .i64 u.2.1) ∧ (grow (wr.drewN n) os).cell? ⟨blk, O + (ip + 1) * 3 + 2, none⟩ = some (.int .i64 u.2.2)) := by
                intro n os
                have R := HI.out.1.grown n os
                rw [← eO, ← eu]
                exact ⟨R.c0 (by omega), R.c1 (by omega), R.c2 (by omega)⟩
              have HY : Hid (∀ n os, (grow (wr.drewN n) os).cell? ⟨blk, O + ip * 3, none⟩ = some (.int .i64 v.1) ∧ (grow (wr.drewN n) os).cell? ⟨blk, O + ip * 3 + 1, none⟩ = some (.int .i64 v.2.1) ∧ (grow (wr.drewN n) os).cell? ⟨blk, O + ip * 3 + 2, none⟩ = some (.int .i64 v.2.2)) := by
                intro n os
                have R := HI.out.1.grown n os
                rw [← eP, ← ev]
                exact ⟨R.c0 (by omega), R.c1 (by omega), R.c2 (by omega)⟩
              have x0 := fun n os => (HX.out n os).1
              have x1 := fun n os => (HX.out n os).2.1
              have x2 := fun n os => (HX.out n os).2.2
              have y0 := fun n os => (HY.out n os).1
              have y1 := fun n os => (HY.out n os).2.1
              have y2 := fun n os => (HY.out n os).2.2
              have HS := hide (same_any u v wr)
              have HE : Hid (sameE d[kp + 1 + (ip + 1)]! d[kp + 1 + (ip + 1) - 1]! = sameE u v) := by show _ = _; rw [hu, show kp + 1 + (ip + 1) - 1 = kp + 1 + ip by omega, hv]
              obtain ⟨ua, ub, uc⟩ := u
              obtain ⟨va, vb, vc⟩ := v
              replace hu := hide hu
              replace hv := hide hv
              clear eu ev eO eP HY
              have hwp2 : IntKind.i64.wrap (ip : Int) = (ip : Int) := by rw [IntKind.wrap_i64]; omega
              have q0 : (0 : Int) ≤ (ip : Int) + 1 := by omega
              have q1 : (ip : Int) + 1 < (m : Int) := by omega
              have q2 : (ip : Int) < (m : Int) := by omega
              have q3 : ((ip : Int) + 1).toNat = ip + 1 := by omega
              cases hsame : sameE (ua, ub, uc) (va, vb, vc)
              · rw [hsame] at HS HE
                replace hsame := hide hsame
                go_wp2
                go_quiet_grown (first | (go_at_call 79; exact HS.out _ _))
                have HR3 : Hid (Rw blk w0 (grow (wr.drewN nq) osq) dk) := HI.out.1.grown _ _
                have z0 := x0 nq osq
                have z1 := x1 nq osq
                have z2 := x2 nq osq
                clear x0 x1 x2 y0 y1 y2 HX
                generalize grow (wr.drewN nq) osq = W3 at HR3 z0 z1 z2 ⊢
                have hk3 : kk < dk.size := by omega
                have k0 := HR3.out.c0 hk3
                have k1 := HR3.out.c1 hk3
                have k2 := HR3.out.c2 hk3
                have f0 := HR3.out.fz hk3 (c := 0) (by omega)
                have f1 := HR3.out.fz hk3 (c := 1) (by omega)
                have f2 := HR3.out.fz hk3 (c := 2) (by omega)
                have q4 : (kk : Int) < (d.size : Int) := by omega
                simp only [Nat.add_zero] at f0
                go_wp2
                go_roundw
                case rel =>
                  refine ⟨kk + 1, ip + 2, dk.setIfInBounds kk (ua, ub, uc), by go_num, by go_num, by omega, by omega, HR3.out.put hk3 (ua, ub, uc), ?_⟩
                  have := HI.out.2.keep (by omega) HE.out
                  rw [hu.out] at this
                  exact this
                case measure => simp [intOf]; omega
              · rw [hsame] at HS HE
                replace hsame := hide hsame
                go_wp2
                go_quiet_grown (first | (go_at_call 79; exact HS.out _ _))
                go_wp2
                go_roundw
                case rel => exact ⟨kk, ip + 2, dk, rfl, by go_num, by omega, by omega, HI.out.1.grown _ _, HI.out.2.skip HE.out⟩
                case measure => simp [intOf]; omega
            · have hend : kp + 1 + (ip + 1) = d.size := by omega
              have hI := HI.out.2
              rw [hend] at hI
              have hlow := hI.len
              obtain ⟨zs, hzs⟩ := clear_legs wr blk (kk * 3) (d.size - kk) (cap - kk) (by omega)
                (fun j hj => by rw [show kk * 3 + j = (kk + j / 3) * 3 + j % 3 by omega, (HI.out.1.cell (i := kk + j / 3) (c := j % 3) (by omega) (by omega)).1]; rfl)
                (fun j hj => by rw [show kk * 3 + j = (kk + j / 3) * 3 + j % 3 by omega]; exact (HI.out.1.cell (i := kk + j / 3) (c := j % 3) (by omega) (by omega)).2)
              have HL : Hid (Legs blk w0 (wr.setCells blk (kk * 3) zs) (comp d d.size)) := by
                have h1 := legs_whole (C := comp d d.size) HI.out.1 (by omega) (fun j hj => hI.low j (by omega))
                have h2 := legs_cut h1 zs
                rw [hlow] at h2
                exact h2
              have HN := hide hlow
              have q4 : (kk : Int) ≤ (d.size : Int) := by omega
              clear hlow hI HI hend
              go_wp2
              go_ret
              exact ⟨by rw [HN.out]; rfl, HL.out⟩
      · have : k = d.size := by omega
        subst this
        have HL : Hid (Legs blk w0 wr (comp d d.size)) := legs_whole HR.out.1 (by rw [HR.out.2.1]; exact Nat.le_refl _) (fun j hj => HR.out.2.2 j (by rw [HR.out.2.1] at hj; exact hj))
        have HN : Hid ((comp d d.size).length = d.size) := HR.out.2.1
        go_wp2
        go_ret
        exact ⟨by rw [HN.out]; rfl, HL.out⟩
end Go.Proofs.YtojkdmkeankcgaaGreat
