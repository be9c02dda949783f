/-
  What the call of In of hours does: slices.ContainsFunc over a closure.
-/
import Derived.Test.YtjinhjfjdcmdeaaWalkB
namespace Go.Proofs.Ytjinhjfjdcmdeaa
open Go.RowKit

set_option maxRecDepth 100000 in
set_option maxHeartbeats 1600000 in
theorem inC_any {t : Int} {p : Nat} {w : World} (f u : Int) (h : w.cell? ⟨p, 0, none⟩ = some (.int .i64 t)) :
    Calls Try.prog 18 #[.agg #[.int .i64 f, .int .i64 u], .pointer (some ⟨p, 0, none⟩)] w fun e w' => e = .returned (.bool (decide (f ≤ t ∧ t ≤ u))) ∧ Below w.heap.size w w' := by
  have hp := block_lt_of_cell h
  have h1 : (w.alloc (.cells #[.int .i64 f, .int .i64 u] 37)).cell? ⟨p, 0, none⟩ = some (.int .i64 t) := by rw [World.cell?_alloc_lt _ _ _ hp]; exact h
  have HB : Hid (Below w.heap.size w (w.alloc (.cells #[.int .i64 f, .int .i64 u] 37))) := (Below.refl _ _).alloc (Nat.le_refl _) _
  by_cases h2 : f ≤ t
  · by_cases h3 : t ≤ u
    · rw [decide_eq_true (⟨h2, h3⟩ : f ≤ t ∧ t ≤ u)]
      go_enter Try.func18, Try.ntmps18
      go_wp2
      go_ret
      exact ⟨rfl, HB.out⟩
    · rw [decide_eq_false (fun e : f ≤ t ∧ t ≤ u => h3 e.2)]
      go_enter Try.func18, Try.ntmps18
      go_wp2
      go_ret
      exact ⟨rfl, HB.out⟩
  · rw [decide_eq_false (fun e : f ≤ t ∧ t ≤ u => h2 e.1)]
    go_enter Try.func18, Try.ntmps18
    go_wp2
    go_ret
    exact ⟨rfl, HB.out⟩
theorem hent18 (args : Array Value) (w : World) : (callFunc 18 args).run Try.prog w = .ok (.enter 18 args) w := Go.Proofs.enters_of Try.func18 (by kernel_rfl) rfl args w
theorem inM_drop (t : Int) (L : List Win) (k : Nat) (h : k < L.length) : inM t (L.drop k) = (decide ((L[k]!).1 ≤ t ∧ t ≤ (L[k]!).2) || inM t (L.drop (k + 1))) := by
  rw [List.drop_eq_getElem_cons h, getElem!_pos L k h]; rfl
set_option maxRecDepth 100000 in
set_option maxHeartbeats 1600000 in
theorem index_any {a : Option Addr} {m c p : Nat} {L : List Win} {w : World} {t : Int} (h : WinsAt w a m L) (hp : w.cell? ⟨p, 0, none⟩ = some (.int .i64 t)) :
    Calls Try.prog 20 #[.slice a m c, .func (.func 18) #[] #[.pointer (some ⟨p, 0, none⟩)]] w fun e w' => ∃ i : Int, e = .returned (.int .i64 i) ∧ decide (0 ≤ i) = inM t L ∧ Below w.heap.size w w' := by
  have HA := hide h
  have HP := hide hp
  have hlm := h.len
  have hmm := len_max h
  clear h hp
  obtain ⟨B, hB⟩ : ∃ B, w.heap.size = B := ⟨_, rfl⟩
  have HB := hide hB
  rw [hB]
  clear hB
  go_enter Try.func20, Try.ntmps20
  go_wp2
  go_loopw [8] (fun vi wr => ∃ k : Nat, vi = .int .i64 k ∧ k ≤ m ∧ Hid (Below B w wr ∧ B ≤ wr.heap.size ∧ inM t L = inM t (L.drop k))) (fun vi _ => m - (intOf vi).toNat)
  case atStart => exact ⟨0, rfl, Nat.zero_le _, by rw [← HB.out]; exact Below.refl _ _, by rw [← HB.out]; exact Nat.le_refl _, by rw [List.drop_zero]⟩
  case round =>
    obtain ⟨k, rfl, hk, HR⟩ := hrel
    by_cases hlt : k < m
    · obtain ⟨b, off, rfl, c0, c1⟩ := (HA.out.later (Nat.le_of_eq HB.out) HR.out.1).cell k hlt
      have HC := hide (HR.out.2.2.trans (inM_drop t L k (by omega)))
      obtain ⟨x, hx⟩ : ∃ x, L[k]! = x := ⟨_, rfl⟩
      rw [hx] at c0 c1 HC
      obtain ⟨x1, x2⟩ := x
      simp only at c0 c1
      clear hx
      have i3 : (k : Int) < (m : Int) := by omega
      have HI : Hid (Calls Try.prog 18 #[.agg #[.int .i64 x1, .int .i64 x2], .pointer (some ⟨p, 0, none⟩)] wr fun e w' => e = .returned (.bool (decide (x1 ≤ t ∧ t ≤ x2))) ∧ Below B w w' ∧ B ≤ w'.heap.size) :=
        (inC_any x1 x2 ((HR.out.1.cell (p := ⟨p, 0, none⟩) (by have := HB.out; show p < B; rw [← this]; exact block_lt_of_cell HP.out)).trans HP.out)).mono fun e w' ⟨h1, h2⟩ => ⟨h1, HR.out.1.trans (h2.mono HR.out.2.1), Nat.le_trans HR.out.2.1 h2.size⟩
      cases hd : decide (x1 ≤ t ∧ t ≤ x2) with
      | true =>
        rw [hd] at HI HC
        replace hd := hide hd
        go_wp2_with (go_at_call 18; refine HI.out.mono ?_; rintro e w1 ⟨rfl, k2⟩; replace k2 := hide k2)
        go_ret
        exact ⟨(k : Int), rfl, by rw [HC.out, Bool.true_or]; exact decide_eq_true (by omega), k2.out.1⟩
      | false =>
        rw [hd] at HI HC
        replace hd := hide hd
        go_wp2_with (go_at_call 18; refine HI.out.mono ?_; rintro e w1 ⟨rfl, k2⟩; replace k2 := hide k2)
        go_roundw
        case rel => exact ⟨k + 1, by go_num, by omega, k2.out.1, k2.out.2, by rw [HC.out, Bool.false_or]⟩
        case measure => simp [intOf]; omega
    · have : k = m := by omega
      subst this
      have E : Hid (inM t L = false) := by show _ = _; rw [HR.out.2.2, List.drop_eq_nil_of_le (by omega)]; rfl
      go_wp2
      go_ret
      exact ⟨-1, rfl, by rw [E.out]; rfl, HR.out.1⟩
set_option maxRecDepth 100000 in
theorem contains_any {a : Option Addr} {m c p : Nat} {L : List Win} {w : World} {t : Int} (h : WinsAt w a m L) (hp : w.cell? ⟨p, 0, none⟩ = some (.int .i64 t)) :
    Calls Try.prog 17 #[.slice a m c, .func (.func 18) #[] #[.pointer (some ⟨p, 0, none⟩)]] w fun e w' => e = .returned (.bool (inM t L)) ∧ Below w.heap.size w w' := by
  have HI := hide (index_any (c := c) h hp)
  clear h hp
  go_enter Try.func17, Try.ntmps17
  go_wp2_with (go_at_call 20; refine HI.out.mono ?_; rintro e w1 ⟨i, rfl, k1, k2⟩; replace k2 := hide (And.intro k1 k2); clear k1)
  all_goals
    go_ret
    refine ⟨?_, k2.out.2⟩
    rw [← k2.out.1]
    first
      | rfl
      | (rw [decide_eq_true (by omega)])
      | (rw [decide_eq_false (by omega)])
set_option maxRecDepth 100000 in
theorem in_any {a : Option Addr} {m c : Nat} {L : List Win} {w : World} (t : Int) (h : WinsAt w a m L) :
    Calls Try.prog 15 #[.slice a m c, .int .i64 t] w fun e w' => e = .returned (.bool (inM t L)) ∧ Below w.heap.size w w' := by
  have k3 : Below w.heap.size w (w.alloc (.cells #[.int .i64 t] 3)) := (Below.refl _ _).alloc (Nat.le_refl _) _
  have HI := hide (contains_any (c := c) (p := w.heap.size) (t := t) (h.on k3) (by rw [cell_of_row _ w.heap.size 0 _ _ _ (heap_alloc_new _ _)]; rfl))
  have HK := hide k3
  clear h k3
  go_enter Try.func15, Try.ntmps15
  go_wp2_with (go_at_call 17; refine HI.out.mono ?_; rintro e w1 ⟨rfl, k2⟩)
  go_ret
  exact ⟨rfl, HK.out.trans (k2.mono HK.out.size)⟩
end Go.Proofs.Ytjinhjfjdcmdeaa
