/-
  Slices of visits as functions take them, and parts of them.
-/
import Derived.Test.YtdnkmjafkpnliaaLnA
namespace Go.Proofs.Ytdnkmjafkpnliaa
open Go.RowKit

/-- A slice of visits as the document's functions take it. -/
structure SlI (w : World) (a : Option Addr) (m c : Nat) (V : List Vst) : Prop where
  vs : VsV w (.slice a m c) V
  len : V.length = m
  nz : a = none → c = 0
  cap : m ≤ c
  adr : 0 < c → ∃ b off, a = some ⟨b, off, none⟩
theorem SlI.on {w w' : World} {a : Option Addr} {m c : Nat} {V : List Vst} (h : SlI w a m c V) (f : Below w.heap.size w w') : SlI w' a m c V := ⟨PrV.on h.vs f, h.len, h.nz, h.cap, h.adr⟩
theorem vrow_vs9 {w : World} {base n c : Nat} {a : Option Addr} {L : List Vst} (h : VRow w base (.slice a n c) L) (hn : L.length = n) (hn2 : n ≤ 1000) : VsV w (.slice a n c) L := by
  have h9 := h.vs (by omega)
  exact h9
theorem SlI.row {w : World} {base m c : Nat} {a : Option Addr} {V : List Vst} (h : VRow w base (.slice a m c) V) (hm : V.length = m) (hm2 : m ≤ 1000) : SlI w a m c V := by
  have hz : (a = none → c = 0) ∧ (0 < c → ∃ b off, a = some ⟨b, off, none⟩) := by
    rcases h.2 with ⟨e1, e2⟩ | ⟨g, cap, cur, e1, _⟩
    · injection e1 with e1 _ e3
      subst e1 e3
      exact ⟨(fun _ => rfl), (fun e => absurd e (by omega))⟩
    · injection e1 with e1 _ e3
      subst e1 e3
      exact ⟨(fun e => by cases e), fun _ => ⟨_, _, rfl⟩⟩
  refine ⟨vrow_vs9 h hm hm2, hm, hz.1, ?_, hz.2⟩
  rcases Nat.eq_zero_or_pos m with e | e
  · omega
  · obtain ⟨_, _, hc⟩ := vrow_pos h e
    exact hc
theorem sized22 (W : World) : (sizeOf (Try.prog.elem 22)).run Try.prog W = .ok 2 W := by kernel_rfl
theorem und22 : Try.prog.underlying 22 = some (.slice (Try.prog.elem 22)) := Try.underlying22
/-- What stands behind a place of a slice. -/
theorem SlI.tail {w : World} {a : Option Addr} {m c : Nat} {V : List Vst} (h : SlI w a m c V) (s l : Nat) (hs : s + l ≤ m) : SlI w (if c = s then a else a.map (·.add (s * 2))) l (c - s) ((V.drop s).take l) := by
  have hl : ((V.drop s).take l).length = l := by rw [List.length_take, List.length_drop, h.len]; omega
  have hc := h.cap
  by_cases e : c = s
  · rw [if_pos e]
    have h0 : l = 0 := by omega
    subst h0
    exact ⟨⟨_, _, by rw [hl], by rw [hl]; simp, fun k hk => by rw [hl] at hk; omega⟩, hl, (fun _ => by omega), by omega, fun h9 => by omega⟩
  · rw [if_neg e]
    obtain ⟨b, off, rfl⟩ := h.adr (by omega)
    have hv := vs_part (s := s) (n := s + l) (c' := c - s) h.vs h.len (by omega) hs
    rw [show s + l - s = l by omega] at hv
    have ea : (some (⟨b, off, none⟩ : Addr)).map (·.add (s * 2)) = some ⟨b, off + s * 2, none⟩ := by show some (Addr.add ⟨b, off, none⟩ (s * 2)) = some _; rw [addAt]
    rw [ea]
    exact ⟨hv, hl, (fun h9 => by cases h9), by omega, fun _ => ⟨_, _, rfl⟩⟩
theorem sl_lh {w : World} {a : Option Addr} {m c : Nat} {V : List Vst} (h : SlI w a m c V) {x y : Int} (s l : Nat) (hx : x = (s : Int)) (hy : y = ((s + l : Nat) : Int)) (hs : s + l ≤ m) : ∃ A C, (∀ W, (Instr.slice 22 (.slice a m c) (some (.int .i64 x)) (some (.int .i64 y)) none).run Try.prog W = .ok (.slice A l C) W) ∧ SlI w A l C ((V.drop s).take l) := by
  have hc := h.cap
  refine ⟨_, _, fun W => ?_, h.tail s l hs⟩
  rw [run_slice_lh W 22 a m c und22 .i64 .i64 x y (by omega) (by omega) (by omega), sized22]
  subst hx hy
  show Result.ok (sliced a _ _ c 2) W = _
  unfold sliced
  rw [Int.toNat_natCast, Int.toNat_natCast, Nat.add_sub_cancel_left]
theorem sl_h {w : World} {a : Option Addr} {m c : Nat} {V : List Vst} (h : SlI w a m c V) {y : Int} (l : Nat) (hy : y = (l : Int)) (hs : l ≤ m) : ∃ A C, (∀ W, (Instr.slice 22 (.slice a m c) none (some (.int .i64 y)) none).run Try.prog W = .ok (.slice A l C) W) ∧ SlI w A l C (V.take l) := by
  have hc := h.cap
  have h9 := h.tail 0 l (by omega)
  rw [List.drop_zero] at h9
  refine ⟨_, _, fun W => ?_, h9⟩
  rw [run_slice_h W 22 a m c und22 .i64 y (by omega) (by omega), sized22]
  subst hy
  show Result.ok (sliced a _ _ c 2) W = _
  unfold sliced
  rw [Int.toNat_natCast, Nat.sub_zero]
theorem sl_l {w : World} {a : Option Addr} {m c : Nat} {V : List Vst} (h : SlI w a m c V) {x : Int} (s l : Nat) (hx : x = (s : Int)) (hs : s + l = m) : ∃ A C, (∀ W, (Instr.slice 22 (.slice a m c) (some (.int .i64 x)) none none).run Try.prog W = .ok (.slice A l C) W) ∧ SlI w A l C (V.drop s) := by
  have hc := h.cap
  have h9 := h.tail s l (by omega)
  rw [List.take_of_length_le (by rw [List.length_drop, h.len]; omega)] at h9
  refine ⟨_, _, fun W => ?_, h9⟩
  rw [run_slice_l W 22 a m c und22 .i64 x (by omega) (by omega), sized22]
  subst hx
  show Result.ok (sliced a _ _ c 2) W = _
  unfold sliced
  rw [Int.toNat_natCast, show m - s = l by omega]
theorem nil_sl (w : World) : SlI w none 0 0 [] := ⟨⟨_, _, rfl, by simp, fun k hk => by simp at hk⟩, rfl, (fun _ => rfl), Nat.le_refl _, (fun h => absurd h (by omega))⟩
theorem SlI.val {w : World} {a : Option Addr} {m c : Nat} {V : List Vst} (h : SlI w a m c V) : VsV w (.slice a V.length c) V ∧ (a = none → c = 0) := by
  have h1 := h.vs
  rw [← h.len] at h1
  exact ⟨h1, h.nz⟩
set_option maxRecDepth 100000 in
set_option maxHeartbeats 3200000 in
theorem grow_zero (w : World) : Calls Try.prog 64 #[.slice none 0 0, .int .i64 0] w fun e w' => e = .returned (.slice none 0 0) ∧ Below w.heap.size w w' := by
  go_enter Try.func64, Try.ntmps64
  go_wp2
  go_ret
  exact ⟨rfl, Below.refl _ _⟩
theorem cat_two {w : World} {b : Nat} {a1 a2 : Option Addr} {c1 c2 m1 m2 : Nat} {V1 V2 : List Vst} (hb : w.heap[b]? = some (.cells #[.slice a1 m1 c1, .slice a2 m2 c2] 22)) (h1 : SlI w a1 m1 c1 V1) (h2 : SlI w a2 m2 c2 V2) : CatV w ⟨b, 0, none⟩ [(a1, c1, V1), (a2, c2, V2)] := ⟨fun k a c V hk => by
  rw [← h1.len, ← h2.len] at hb
  have hc : ∀ j, w.cell? ((⟨b, 0, none⟩ : Addr).add j) = (#[.slice a1 V1.length c1, .slice a2 V2.length c2] : Array Value)[j]? := fun j => by
    rw [add0]; exact cell_of_row _ _ _ _ _ _ hb
  rcases k with _ | _ | k <;> simp at hk <;> obtain ⟨rfl, rfl, rfl⟩ := hk
  · exact ⟨hc 0, h1.val⟩
  · exact ⟨hc 1, h2.val⟩⟩
theorem cat_three {w : World} {b : Nat} {a1 a2 a3 : Option Addr} {c1 c2 c3 m1 m2 m3 : Nat} {V1 V2 V3 : List Vst} (hb : w.heap[b]? = some (.cells #[.slice a1 m1 c1, .slice a2 m2 c2, .slice a3 m3 c3] 22)) (h1 : SlI w a1 m1 c1 V1) (h2 : SlI w a2 m2 c2 V2) (h3 : SlI w a3 m3 c3 V3) : CatV w ⟨b, 0, none⟩ [(a1, c1, V1), (a2, c2, V2), (a3, c3, V3)] := ⟨fun k a c V hk => by
  rw [← h1.len, ← h2.len, ← h3.len] at hb
  have hc : ∀ j, w.cell? ((⟨b, 0, none⟩ : Addr).add j) = (#[.slice a1 V1.length c1, .slice a2 V2.length c2, .slice a3 V3.length c3] : Array Value)[j]? := fun j => by
    rw [add0]; exact cell_of_row _ _ _ _ _ _ hb
  rcases k with _ | _ | _ | k <;> simp at hk <;> obtain ⟨rfl, rfl, rfl⟩ := hk
  · exact ⟨hc 0, h1.val⟩
  · exact ⟨hc 1, h2.val⟩
  · exact ⟨hc 2, h3.val⟩⟩
set_option maxRecDepth 100000 in
set_option maxHeartbeats 6400000 in
theorem concat_zero {w : World} {b n c : Nat} {vs : List (Option Addr × Nat × List Vst)} (h : CatV w ⟨b, 0, none⟩ vs) (hb : b < w.heap.size) (hn : vs.length = n) (h0 : (catL vs).length = 0) (hn2 : n ≤ 1000) : Calls Try.prog 50 #[.slice (some ⟨b, 0, none⟩) n c] w fun e w' => ∃ v, e = .returned v ∧ VRow w' w.heap.size v (catL vs) ∧ Below w.heap.size w w' := by
  have H := hide h
  have HN := hide hn
  clear h hn
  obtain ⟨tot, htot⟩ : ∃ q, (catL vs).length = q := ⟨_, rfl⟩
  rw [htot] at h0
  have h1 : tot ≤ 1000 := by omega
  have HTOT := hide htot
  clear htot
  go_enter Try.func50, Try.ntmps50
  go_wp2_with fail
  go_loopw [11, 3] (fun vi v3 wr => ∃ q s : Nat, vi = .int .i64 q ∧ v3 = .int .i64 s ∧ q ≤ n ∧ s ≤ tot ∧ Hid ((catL (vs.take q)).length = s) ∧ Hid (Below w.heap.size w wr)) (fun vi _ _ => n - (intOf vi).toNat)
  case atStart => exact ⟨0, 0, rfl, rfl, Nat.zero_le _, Nat.zero_le _, rfl, Below.refl _ _⟩
  case round =>
    obtain ⟨q, s, rfl, rfl, hq, hst, HS, HB⟩ := hrel
    by_cases hqn : q < n
    · have i1 : (q : Int) < (n : Int) := by omega
      have i2 : (0 : Int) ≤ (q : Int) := by omega
      have i3 : ¬ (n : Int) ≤ (q : Int) := by omega
      obtain ⟨⟨a, c', V⟩, hu⟩ : ∃ u, vs[q]? = some u := ⟨_, List.getElem?_eq_getElem (by rw [HN.out]; exact hqn)⟩
      have c1 := ((H.out.on hb HB.out).cell q a c' V hu).1
      rw [add0] at c1
      obtain ⟨l, hl⟩ : ∃ z, V.length = z := ⟨_, rfl⟩
      rw [hl] at c1
      have hs2 : (catL (vs.take (q + 1))).length = s + l := by rw [catL_step hu, List.length_append, HS.out, hl]
      have hle : s + l ≤ tot := by rw [← hs2, ← HTOT.out]; exact catL_le _
      have hw : IntKind.i64.wrap ((s : Int) + (l : Int)) = ((s + l : Nat) : Int) := by rw [IntKind.wrap_i64]; omega
      have i4 : ¬ ((s + l : Nat) : Int) < 0 := by omega
      have i5 : ¬ (s : Int) + (l : Int) < 0 := by omega
      have HS2 := hide hs2
      clear hu hl hs2
      go_wp2_with fail
      go_roundw
      case rel => exact ⟨q + 1, s + l, by go_num, by first | rfl | (simp; omega), by omega, hle, HS2.out, HB.out⟩
      case measure => simp [intOf]; omega
    · have i1 : ¬ (q : Int) < (n : Int) := by omega
      have hse : s = tot := by rw [← HS.out, List.take_of_length_le (by rw [HN.out]; omega)]; exact HTOT.out
      subst hse
      clear HS
      go_wp2_with (first | (go_at_call 64; refine (grow_zero _).mono ?_; rintro e w1 ⟨rfl, k1⟩; have HV1 : Hid (VRow w1 w.heap.size (.slice none 0 0) (catL (vs.take 0))) := World.ownsRow_nil _ _ 58 2; have E1 := hide (below_on HB.out k1); clear k1) | fail)
      go_loopw [27, 6] (fun vi v6 wr => ∃ (q s : Nat) (va : Option Addr) (vc : Nat), vi = .int .i64 q ∧ v6 = .slice va s vc ∧ q ≤ n ∧ Hid ((catL (vs.take q)).length = s) ∧ Hid (VRow wr w.heap.size (.slice va s vc) (catL (vs.take q))) ∧ Hid (Below w.heap.size w wr)) (fun vi _ _ => n - (intOf vi).toNat)
      case atStart => exact ⟨0, 0, _, _, rfl, rfl, Nat.zero_le _, rfl, HV1.out, E1.out⟩
      case round =>
        clear HV1 E1 HB
        obtain ⟨q, s2, va, vc, rfl, rfl, hq, HS, HR, HB⟩ := hrel
        by_cases hqn : q < n
        · have i1 : (q : Int) < (n : Int) := by omega
          have i2 : (0 : Int) ≤ (q : Int) := by omega
          have i3 : ¬ (n : Int) ≤ (q : Int) := by omega
          obtain ⟨⟨a, c', V⟩, hu⟩ : ∃ u, vs[q]? = some u := ⟨_, List.getElem?_eq_getElem (by rw [HN.out]; exact hqn)⟩
          obtain ⟨c1, hv, hz⟩ := (H.out.on hb HB.out).cell q a c' V hu
          rw [add0] at c1
          obtain ⟨l, hl⟩ : ∃ z, V.length = z := ⟨_, rfl⟩
          rw [hl] at c1 hv
          have hs2 : (catL (vs.take (q + 1))).length = s2 + l := by rw [catL_step hu, List.length_append, HS.out, hl]
          have hle : s2 + l ≤ 1000 := by rw [← hs2]; have h8 := catL_le (vs := vs) (q + 1); have h9 := HTOT.out; omega
          have HS2 := hide hs2
          have HST := hide (catL_step hu)
          have HVV := hide hv
          have HZ := hide hz
          have HLV := hide hl
          clear hl hs2 hv hz
          go_wp2_with (first | (at_builtin; refine app_vis (.tmp 31) (.tmp 32) rfl rfl rfl rfl HR.out HS.out HVV.out HLV.out HZ.out hle HB.out.size ?_; intro va2 c2 w2 r1 r2 _; have HR2 := hide r1; have B2 : Hid (Below w.heap.size w w2) := HB.out.trans r2; clear r1 r2) | fail)
          go_roundw
          case rel => exact ⟨q + 1, s2 + l, va2, c2, by go_num, rfl, by omega, HS2.out, by rw [HST.out]; exact HR2.out, B2.out⟩
          case measure => simp [intOf]; omega
        · have i1 : ¬ (q : Int) < (n : Int) := by omega
          have HT : Hid (catL (vs.take q) = catL vs) := by show _ = _; rw [List.take_of_length_le (by rw [HN.out]; omega)]
          go_wp2
          go_ret
          exact ⟨_, rfl, by have h9 := HR.out; rw [HT.out] at h9; exact h9, HB.out⟩
theorem concat_all {w : World} {b n c : Nat} {vs : List (Option Addr × Nat × List Vst)} (h : CatV w ⟨b, 0, none⟩ vs) (hb : b < w.heap.size) (hn : vs.length = n) (h1 : (catL vs).length ≤ 1000) (hn2 : n ≤ 1000) : Calls Try.prog 50 #[.slice (some ⟨b, 0, none⟩) n c] w fun e w' => ∃ v, e = .returned v ∧ VRow w' w.heap.size v (catL vs) ∧ Below w.heap.size w w' := by
  rcases Nat.eq_zero_or_pos (catL vs).length with e | e
  · exact concat_zero h hb hn e hn2
  · exact concat_any h hb hn e h1 hn2
end Go.Proofs.Ytdnkmjafkpnliaa
