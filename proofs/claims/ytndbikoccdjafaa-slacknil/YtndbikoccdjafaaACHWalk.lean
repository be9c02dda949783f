/-
  What the calls of Check, Start and In of hours do, and the document's Windows, Start and Last.
-/
import Derived.Test.YtndbikoccdjafaaACStpAG
namespace Go.Proofs.Ytndbikoccdjafaa.Hr
open Go.RowKit
theorem len_max {w : World} {a : Option Addr} {m : Nat} {L : List Win} (h : WinsAt w a m L) : m ≤ 8796093021952 := by have := h.max; omega
set_option maxRecDepth 100000 in
set_option maxHeartbeats 3200000 in
theorem start_any {a : Option Addr} {m c : Nat} {L : List Win} {w : World} (t : Int) (h : WinsAt w a m L) :
    Calls Try.prog 64 #[.slice a m c, .int .i64 t] w fun e w' => e = .returned (.tuple #[.int .i64 (startM t L).1, .bool (startM t L).2]) ∧ Below w.heap.size w w' := by
  have HA := hide h
  have hlm := h.len
  have hmm := len_max h
  clear h
  obtain ⟨B, hB⟩ : ∃ B, w.heap.size = B := ⟨_, rfl⟩
  have HB := hide hB
  rw [hB]
  clear hB
  go_enter Try.func64, Try.ntmps64
  go_wp2
  go_loopw [10] (fun vi wr => ∃ k : Nat, vi = .int .i64 k ∧ k ≤ m ∧ Hid (Below B w wr ∧ B ≤ wr.heap.size ∧ startM t L = startM t (L.drop k))) (fun vi _ => m - (intOf vi).toNat)
  case atStart => exact ⟨0, rfl, Nat.zero_le _, by rw [← HB.out]; exact Below.refl _ _, by rw [← HB.out]; exact Nat.le_refl _, by rw [List.drop_zero]⟩
  case round =>
    obtain ⟨k, rfl, hk, HR⟩ := hrel
    have HE : Hid (∀ o, Below B w (wr.alloc o) ∧ B ≤ (wr.alloc o).heap.size) := fun o => ⟨HR.out.1.alloc HR.out.2.1 o, by have := HR.out.2.1; simp; omega⟩
    by_cases hlt : k < m
    · obtain ⟨b, off, rfl, c0, c1⟩ := (HA.out.later (Nat.le_of_eq HB.out) HR.out.1).cell k hlt
      have HC : Hid (startM t L = if t ≤ (L[k]!).2 then (if (L[k]!).1 < t then t else (L[k]!).1, true) else startM t (L.drop (k + 1))) := by
        show _ = _
        rw [HR.out.2.2, List.drop_eq_getElem_cons (by omega), getElem!_pos L k (by omega)]; rfl
      obtain ⟨x, hx⟩ : ∃ x, L[k]! = x := ⟨_, rfl⟩
      rw [hx] at c0 c1 HC
      obtain ⟨x1, x2⟩ := x
      simp only at c0 c1
      clear hx
      have i3 : (k : Int) < (m : Int) := by omega
      by_cases p1 : t ≤ x2
      · have E : Hid (startM t L = (if x1 < t then t else x1, true)) := by show _ = _; rw [HC.out, if_pos p1]
        by_cases p2 : t < x1
        · rw [if_neg (by omega)] at E
          go_wp2
          go_ret2
          exact ⟨by rw [E.out]; rfl, (HE.out _).1⟩
        · have e2 : (if x1 < t then t else x1) = t := by split <;> omega
          rw [e2] at E
          have p3 : x1 ≤ t := by omega
          clear e2
          go_wp2
          go_ret2
          exact ⟨by rw [E.out]; rfl, (HE.out _).1⟩
      · have E : Hid (startM t L = startM t (L.drop (k + 1))) := by show _ = _; rw [HC.out, if_neg p1]
        go_wp2
        go_roundw
        case rel => exact ⟨k + 1, by go_num, by omega, (HE.out _).1, (HE.out _).2, E.out⟩
        case measure => simp [intOf]; omega
    · have : k = m := by omega
      subst this
      have E : Hid (startM t L = (0, false)) := by show _ = _; rw [HR.out.2.2, List.drop_eq_nil_of_le (by omega)]; rfl
      go_wp2
      go_ret2
      exact ⟨by rw [E.out]; rfl, HR.out.1⟩
theorem foldl_take {α β : Type} (f : α → β → α) (s : α) (L : List β) [Inhabited β] (k : Nat) (h : k < L.length) : (L.take (k + 1)).foldl f s = f ((L.take k).foldl f s) L[k]! := by
  rw [List.take_succ_eq_append_getElem h, List.foldl_append, getElem!_pos L k h]; rfl
set_option maxRecDepth 100000 in
set_option maxHeartbeats 3200000 in
theorem rstart_any {a : Option Addr} {m c : Nat} {L : List Win} {w : World} (t : Int) (h : WinsAt w a m L) :
    Calls Try.prog 39 #[.slice a m c, .int .i64 t] w fun e w' => e = .returned (.tuple #[.int .i64 (rst t L).1, .bool (rst t L).2]) ∧ w' = w := by
  have HA := hide h
  have hlm := h.len
  have hmm := len_max h
  clear h
  go_enter Try.func39, Try.ntmps39
  go_wp2
  go_loopw [8, 6, 7] (fun vi vb vf wr => ∃ (k : Nat) (x : Int) (f : Bool), vi = .int .i64 k ∧ vb = .int .i64 x ∧ vf = .bool f ∧ k ≤ m ∧ Hid (wr = w ∧ (L.take k).foldl (rstF t) (0, false) = (x, f))) (fun vi _ _ _ => m - (intOf vi).toNat)
  case atStart => exact ⟨0, 0, false, rfl, rfl, rfl, Nat.zero_le _, rfl, by simp⟩
  case round =>
    obtain ⟨k, x, f, rfl, rfl, rfl, hk, HR⟩ := hrel
    obtain rfl := HR.out.1
    have HS := hide HR.out.2
    clear HR
    by_cases hlt : k < m
    · obtain ⟨b, off, rfl, c0, c1⟩ := HA.out.cell k hlt
      have HC := hide (foldl_take (rstF t) (0, false) L k (by omega))
      rw [HS.out] at HC
      obtain ⟨y, hx⟩ : ∃ y, L[k]! = y := ⟨_, rfl⟩
      rw [hx] at c0 c1 HC
      obtain ⟨x1, x2⟩ := y
      simp only at c0 c1
      clear hx HS
      have i3 : (k : Int) < (m : Int) := by omega
      by_cases p1 : x2 < t
      · have E : Hid ((L.take (k + 1)).foldl (rstF t) (0, false) = (x, f)) := by show _ = _; rw [HC.out]; unfold rstF; rw [if_pos p1]
        go_wp2
        go_roundw
        case rel => exact ⟨k + 1, x, f, by go_num, rfl, rfl, by omega, trivial, E.out⟩
        case measure => simp [intOf]; omega
      · obtain ⟨y, hy⟩ : ∃ y, (if x1 < t then t else x1) = y := ⟨_, rfl⟩
        have E : Hid ((L.take (k + 1)).foldl (rstF t) (0, false) = if f = false ∨ y < x then (y, true) else (x, f)) := by show _ = _; rw [HC.out]; unfold rstF; simp only; rw [if_neg p1, hy]
        by_cases p2 : x1 < t
        · rw [if_pos p2] at hy
          subst hy
          cases f with
          | false =>
            have E2 := E.out
            rw [if_pos (.inl rfl)] at E2
            replace E2 := hide E2
            clear E HC
            go_wp2
            go_roundw
            case rel => exact ⟨k + 1, t, true, by go_num, rfl, rfl, by omega, trivial, E2.out⟩
            case measure => simp [intOf]; omega
          | true =>
            by_cases p3 : t < x
            · have E2 := E.out
              rw [if_pos (.inr p3)] at E2
              replace E2 := hide E2
              clear E HC
              go_wp2
              go_roundw
              case rel => exact ⟨k + 1, t, true, by go_num, rfl, rfl, by omega, trivial, E2.out⟩
              case measure => simp [intOf]; omega
            · have E2 := E.out
              rw [if_neg (by simp; omega)] at E2
              replace E2 := hide E2
              clear E HC
              go_wp2
              go_roundw
              case rel => exact ⟨k + 1, x, true, by go_num, rfl, rfl, by omega, trivial, E2.out⟩
              case measure => simp [intOf]; omega
        · rw [if_neg p2] at hy
          subst hy
          cases f with
          | false =>
            have E2 := E.out
            rw [if_pos (.inl rfl)] at E2
            replace E2 := hide E2
            clear E HC
            go_wp2
            go_roundw
            case rel => exact ⟨k + 1, x1, true, by go_num, rfl, rfl, by omega, trivial, E2.out⟩
            case measure => simp [intOf]; omega
          | true =>
            by_cases p3 : x1 < x
            · have E2 := E.out
              rw [if_pos (.inr p3)] at E2
              replace E2 := hide E2
              clear E HC
              go_wp2
              go_roundw
              case rel => exact ⟨k + 1, x1, true, by go_num, rfl, rfl, by omega, trivial, E2.out⟩
              case measure => simp [intOf]; omega
            · have E2 := E.out
              rw [if_neg (by simp; omega)] at E2
              replace E2 := hide E2
              clear E HC
              go_wp2
              go_roundw
              case rel => exact ⟨k + 1, x, true, by go_num, rfl, rfl, by omega, trivial, E2.out⟩
              case measure => simp [intOf]; omega
    · have : k = m := by omega
      subst this
      have E : Hid (rst t L = (x, f)) := by
        show _ = _
        have := HS.out
        rw [List.take_of_length_le (by omega)] at this
        exact this
      go_wp2
      go_ret2
      exact ⟨by rw [E.out]; rfl, rfl⟩
end Go.Proofs.Ytndbikoccdjafaa.Hr
