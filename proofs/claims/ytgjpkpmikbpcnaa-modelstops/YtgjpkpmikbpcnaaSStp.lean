/-
  What the call of SameStop does on two stops that say the same.
-/
import Derived.Test.YtgjpkpmikbpcnaaSame
namespace Go.Proofs.Ytgjpkpmikbpcnaa
open Go.RowKit

theorem prv_wins {w : World} {v : Value} {L : List Win} (h : WinsV w v L) : PrV w v L.length fun k => (.int .i64 (L[k]!).1, .int .i64 (L[k]!).2) := by
  obtain ⟨a, c, rfl, _, hA⟩ := h
  exact ⟨a, c, rfl, hA.max, fun k hk => hA.cell k hk⟩
set_option maxRecDepth 100000 in
set_option maxHeartbeats 3200000 in
theorem sameStop_any {w : World} {v u : Value} {n : Nat} {f g : Nat → Int} (pl sv : Int) (h : PrV w v n fun k => (.int .i64 (f k), .int .i64 (g k))) (h' : PrV w u n fun k => (.int .i64 (f k), .int .i64 (g k))) : Calls Try.prog 33 #[.agg #[.int .i64 pl, .int .i64 sv, v], .agg #[.int .i64 pl, .int .i64 sv, u]] w fun e w' => e = .returned (.bool true) ∧ Below w.heap.size w w' := by
  have HB0 : Hid (∀ A B, Below w.heap.size w ((w.alloc A).alloc B)) := fun A B => ((Below.refl _ _).alloc (Nat.le_refl _) A).alloc (by simp) B
  obtain ⟨a, cp, rfl, hb, hc⟩ := h
  obtain ⟨a', cp', rfl, _, hc'⟩ := h'
  have HC := hide hc
  have HC' := hide hc'
  clear hc hc'
  have y0 : (pl != pl) = false := by simp
  have y1 : (sv != sv) = false := by simp
  have y2 : ((n : Int) != (n : Int)) = false := by simp
  go_enter Try.func33, Try.ntmps33
  go_wp2
  go_loopw [5] (fun vi wr => ∃ k : Nat, vi = .int .i64 k ∧ k ≤ n ∧ Hid (Below w.heap.size w wr ∧ wr.cell? ⟨w.heap.size, 2, none⟩ = some (.slice a n cp) ∧ wr.cell? ⟨w.heap.size + 1, 2, none⟩ = some (.slice a' n cp'))) (fun vi _ => n - (intOf vi).toNat)
  case atStart => exact ⟨0, rfl, Nat.zero_le _, HB0.out _ _, by simp [go_sem], by simp [go_sem]⟩
  case round =>
    obtain ⟨k, rfl, hk, HR⟩ := hrel
    have q1 := HR.out.2.1
    have q2 := HR.out.2.2
    by_cases hlt : k < n
    · obtain ⟨b, off, rfl, c1, c2⟩ := HC.out k hlt
      obtain ⟨b', off', rfl, c3, c4⟩ := HC'.out k hlt
      have l1 := cell_lt9 c1
      have l2 := cell_lt9 c3
      have d1 : wr.cell? ⟨b, off + k * 2, none⟩ = some (.int .i64 (f k)) := by rw [HR.out.1.cell (p := ⟨b, off + k * 2, none⟩) l1]; exact c1
      have d2 : wr.cell? ⟨b, off + k * 2 + 1, none⟩ = some (.int .i64 (g k)) := by rw [HR.out.1.cell (p := ⟨b, off + k * 2 + 1, none⟩) l1]; exact c2
      have d3 : wr.cell? ⟨b', off' + k * 2, none⟩ = some (.int .i64 (f k)) := by rw [HR.out.1.cell (p := ⟨b', off' + k * 2, none⟩) l2]; exact c3
      have d4 : wr.cell? ⟨b', off' + k * 2 + 1, none⟩ = some (.int .i64 (g k)) := by rw [HR.out.1.cell (p := ⟨b', off' + k * 2 + 1, none⟩) l2]; exact c4
      obtain ⟨F, hF⟩ : ∃ F, f k = F := ⟨_, rfl⟩
      obtain ⟨G, hG⟩ : ∃ G, g k = G := ⟨_, rfl⟩
      rw [hF] at d1 d3
      rw [hG] at d2 d4
      clear hF hG c1 c2 c3 c4 l1 l2
      have i3 : (k : Int) < (n : Int) := by omega
      have i4 : (0 : Int) ≤ (k : Int) := by omega
      have yF : (F == F) = true := by simp
      have yG : (G == G) = true := by simp
      go_wp2
      go_quiet (fail)
      go_wp2
      go_roundw
      case rel => exact ⟨k + 1, by go_num, by omega, below_drewN HR.out.1 _, by simpa [go_sem] using q1, by simpa [go_sem] using q2⟩
      case measure => simp [intOf]; omega
    · have i3 : ¬ (k : Int) < (n : Int) := by omega
      go_wp2
      go_ret
      exact ⟨rfl, HR.out.1⟩
end Go.Proofs.Ytgjpkpmikbpcnaa
