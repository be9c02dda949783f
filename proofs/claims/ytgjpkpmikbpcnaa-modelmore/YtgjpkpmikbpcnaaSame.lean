/-
  What the calls of SameTasks and SameVisits do on two rows that say the same.
-/
import Derived.Test.YtgjpkpmikbpcnaaVis
import Derived.Test.YtgjpkpmikbpcnaaTsk
namespace Go.Proofs.Ytgjpkpmikbpcnaa
open Go.RowKit

/-- A slice of pairs of cells. -/
def PrV (w : World) (v : Value) (n : Nat) (c : Nat → Value × Value) : Prop := ∃ a cp, v = .slice a n cp ∧ n * 16 ≤ 140737488351232 ∧ ∀ k, k < n → ∃ b off, a = some ⟨b, off, none⟩ ∧ w.cell? ⟨b, off + k * 2, none⟩ = some (c k).1 ∧ w.cell? ⟨b, off + k * 2 + 1, none⟩ = some (c k).2
theorem cell_lt9 {w : World} {b o : Nat} {v : Value} (h : w.cell? ⟨b, o, none⟩ = some v) : b < w.heap.size := by
  unfold World.cell? at h
  cases hh : w.heap[b]? with
  | none => simp only [hh] at h; cases h
  | some x => exact (Array.getElem?_eq_some_iff.1 hh).1
theorem PrV.on {w w' : World} {v : Value} {n : Nat} {c : Nat → Value × Value} (h : PrV w v n c) (f : Below w.heap.size w w') : PrV w' v n c := by
  obtain ⟨a, cp, rfl, hb, hc⟩ := h
  refine ⟨a, cp, rfl, hb, fun k hk => ?_⟩
  obtain ⟨b, off, e, c1, c2⟩ := hc k hk
  have hl : b < w.heap.size := cell_lt9 c1
  exact ⟨b, off, e, by rw [f.cell (p := ⟨b, off + k * 2, none⟩) hl]; exact c1, by rw [f.cell (p := ⟨b, off + k * 2 + 1, none⟩) hl]; exact c2⟩
theorem prv_tasks {w : World} {base : Nat} {v : Value} {L : List Tsk} (h : TRow w base v L) (hb : L.length * 16 ≤ 140737488351232) : PrV w v L.length fun k => (.bool (L.getD k (false, 0)).1, .int .i64 (L.getD k (false, 0)).2) := by
  rcases h.2 with ⟨e, hL⟩ | ⟨g, cap, cur, e, h1, h2, h3, h4, h5, h6⟩
  · have : L.length = 0 := by
      have h7 := e
      obtain ⟨a, c, h8⟩ := TRow.shape h
      rw [h8] at h7
      injection h7 with _ h9 _
    exact ⟨none, 0, by rw [e, this], hb, fun k hk => absurd hk (by omega)⟩
  · subst e
    refine ⟨_, _, rfl, hb, fun k hk => ⟨g, 0, rfl, ?_⟩⟩
    obtain ⟨c1, c2⟩ := TRow.cells h k _ (by rw [List.getElem?_eq_getElem hk])
    have e9 : L.getD k (false, 0) = L[k] := by simp [hk]
    simp only [e9]
    rw [Nat.zero_add]
    exact ⟨c1, c2⟩
set_option maxRecDepth 100000 in
set_option maxHeartbeats 3200000 in
theorem sameTasks_any {w : World} {v u : Value} {n : Nat} {f : Nat → Bool} {g : Nat → Int} (h : PrV w v n fun k => (.bool (f k), .int .i64 (g k))) (h' : PrV w u n fun k => (.bool (f k), .int .i64 (g k))) : Calls Try.prog 23 #[v, u] w fun e w' => e = .returned (.bool true) ∧ Below w.heap.size w w' := by
  obtain ⟨a, cp, rfl, hb, hc⟩ := h
  obtain ⟨a', cp', rfl, _, hc'⟩ := h'
  have HC := hide hc
  have HC' := hide hc'
  clear hc hc'
  have y1 : ((n : Int) != (n : Int)) = false := by simp
  go_enter Try.func23, Try.ntmps23
  go_wp2
  go_loopw [5] (fun vi wr => ∃ k : Nat, vi = .int .i64 k ∧ k ≤ n ∧ Hid (Below w.heap.size w wr)) (fun vi _ => n - (intOf vi).toNat)
  case atStart => exact ⟨0, rfl, Nat.zero_le _, Below.refl _ _⟩
  case round =>
    obtain ⟨k, rfl, hk, HR⟩ := hrel
    by_cases hlt : k < n
    · obtain ⟨b, off, rfl, c1, c2⟩ := HC.out k hlt
      obtain ⟨b', off', rfl, c3, c4⟩ := HC'.out k hlt
      have l1 := cell_lt9 c1
      have l2 := cell_lt9 c3
      have d1 : wr.cell? ⟨b, off + k * 2, none⟩ = some (.bool (f k)) := by rw [HR.out.cell (p := ⟨b, off + k * 2, none⟩) l1]; exact c1
      have d2 : wr.cell? ⟨b, off + k * 2 + 1, none⟩ = some (.int .i64 (g k)) := by rw [HR.out.cell (p := ⟨b, off + k * 2 + 1, none⟩) l1]; exact c2
      have d3 : wr.cell? ⟨b', off' + k * 2, none⟩ = some (.bool (f k)) := by rw [HR.out.cell (p := ⟨b', off' + k * 2, none⟩) l2]; exact c3
      have d4 : wr.cell? ⟨b', off' + k * 2 + 1, none⟩ = some (.int .i64 (g k)) := by rw [HR.out.cell (p := ⟨b', off' + k * 2 + 1, none⟩) l2]; exact c4
      obtain ⟨F, hF⟩ : ∃ F, f k = F := ⟨_, rfl⟩
      obtain ⟨G, hG⟩ : ∃ G, g k = G := ⟨_, rfl⟩
      rw [hF] at d1 d3
      rw [hG] at d2 d4
      clear hF hG c1 c2 c3 c4 l1 l2
      have i3 : (k : Int) < (n : Int) := by omega
      have i4 : (0 : Int) ≤ (k : Int) := by omega
      have yF : (F == F) = true := by simp
      have yG : (G == G) = true := by simp
      go_wp2
      go_quiet (fail)
      go_wp2
      go_roundw
      case rel => exact ⟨k + 1, by go_num, by omega, below_drewN HR.out _⟩
      case measure => simp [intOf]; omega
    · have i3 : ¬ (k : Int) < (n : Int) := by omega
      go_wp2
      go_ret
      exact ⟨rfl, HR.out⟩
set_option maxRecDepth 100000 in
set_option maxHeartbeats 3200000 in
theorem sameVisits_any {w : World} {v u : Value} {n : Nat} {f : Nat → Int} {g : Nat → Int} (h : PrV w v n fun k => (.int .i64 (f k), .int .i64 (g k))) (h' : PrV w u n fun k => (.int .i64 (f k), .int .i64 (g k))) : Calls Try.prog 30 #[v, u] w fun e w' => e = .returned (.bool true) ∧ Below w.heap.size w w' := by
  obtain ⟨a, cp, rfl, hb, hc⟩ := h
  obtain ⟨a', cp', rfl, _, hc'⟩ := h'
  have HC := hide hc
  have HC' := hide hc'
  clear hc hc'
  have y1 : ((n : Int) != (n : Int)) = false := by simp
  go_enter Try.func30, Try.ntmps30
  go_wp2
  go_loopw [5] (fun vi wr => ∃ k : Nat, vi = .int .i64 k ∧ k ≤ n ∧ Hid (Below w.heap.size w wr)) (fun vi _ => n - (intOf vi).toNat)
  case atStart => exact ⟨0, rfl, Nat.zero_le _, Below.refl _ _⟩
  case round =>
    obtain ⟨k, rfl, hk, HR⟩ := hrel
    by_cases hlt : k < n
    · obtain ⟨b, off, rfl, c1, c2⟩ := HC.out k hlt
      obtain ⟨b', off', rfl, c3, c4⟩ := HC'.out k hlt
      have l1 := cell_lt9 c1
      have l2 := cell_lt9 c3
      have d1 : wr.cell? ⟨b, off + k * 2, none⟩ = some (.int .i64 (f k)) := by rw [HR.out.cell (p := ⟨b, off + k * 2, none⟩) l1]; exact c1
      have d2 : wr.cell? ⟨b, off + k * 2 + 1, none⟩ = some (.int .i64 (g k)) := by rw [HR.out.cell (p := ⟨b, off + k * 2 + 1, none⟩) l1]; exact c2
      have d3 : wr.cell? ⟨b', off' + k * 2, none⟩ = some (.int .i64 (f k)) := by rw [HR.out.cell (p := ⟨b', off' + k * 2, none⟩) l2]; exact c3
      have d4 : wr.cell? ⟨b', off' + k * 2 + 1, none⟩ = some (.int .i64 (g k)) := by rw [HR.out.cell (p := ⟨b', off' + k * 2 + 1, none⟩) l2]; exact c4
      obtain ⟨F, hF⟩ : ∃ F, f k = F := ⟨_, rfl⟩
      obtain ⟨G, hG⟩ : ∃ G, g k = G := ⟨_, rfl⟩
      rw [hF] at d1 d3
      rw [hG] at d2 d4
      clear hF hG c1 c2 c3 c4 l1 l2
      have i3 : (k : Int) < (n : Int) := by omega
      have i4 : (0 : Int) ≤ (k : Int) := by omega
      have yF : (F == F) = true := by simp
      have yG : (G == G) = true := by simp
      go_wp2
      go_quiet (fail)
      go_wp2
      go_roundw
      case rel => exact ⟨k + 1, by go_num, by omega, below_drewN HR.out _⟩
      case measure => simp [intOf]; omega
    · have i3 : ¬ (k : Int) < (n : Int) := by omega
      go_wp2
      go_ret
      exact ⟨rfl, HR.out⟩
end Go.Proofs.Ytgjpkpmikbpcnaa
