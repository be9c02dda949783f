/-
  Several texts in one: Tsk Same Vsts TskP.
-/
import Derived.Deep.RegionHeld3
import Derived.Test.YtgjpkpmikbpcnaaQRowTG
import Derived.Test.YtgjpkpmikbpcnaaQVisG
import Derived.Test.YtgjpkpmikbpcnaaQStpAG
namespace Go.Proofs.Ytgjpkpmikbpcnaa
open Go.RowKit
theorem encT_news (w : World) (t : Tsk) : ∀ j u, (encT t)[j]? = some u → (w.alloc (.cells #[.bool t.1, .int .i64 t.2] 31)).cell? ((⟨w.heap.size, 0, none⟩ : Addr).add j) = some u := by
  intro j u hu
  have hr := heap_alloc_new w (.cells #[.bool t.1, .int .i64 t.2] 31)
  have hj : j < 2 := (List.getElem?_eq_some_iff.1 hu).1
  rw [add0, cell_of_row _ _ _ _ _ _ hr]
  have : j = 0 ∨ j = 1 := by omega
  rcases this with rfl | rfl <;> exact hu
end Go.Proofs.Ytgjpkpmikbpcnaa
namespace Go.Proofs.Ytgjpkpmikbpcnaa
open Go.RowKit
/-- A slice of pairs of cells. -/
def PrV (w : World) (v : Value) (n : Nat) (c : Nat → Value × Value) : Prop := ∃ a cp, v = .slice a n cp ∧ n * 16 ≤ 140737488351232 ∧ ∀ k, k < n → ∃ b off, a = some ⟨b, off, none⟩ ∧ w.cell? ⟨b, off + k * 2, none⟩ = some (c k).1 ∧ w.cell? ⟨b, off + k * 2 + 1, none⟩ = some (c k).2
theorem cell_lt9 {w : World} {b o : Nat} {v : Value} (h : w.cell? ⟨b, o, none⟩ = some v) : b < w.heap.size := by
  unfold World.cell? at h
  cases hh : w.heap[b]? with
  | none => simp only [hh] at h; cases h
  | some x => exact (Array.getElem?_eq_some_iff.1 hh).1
theorem PrV.on {w w' : World} {v : Value} {n : Nat} {c : Nat → Value × Value} (h : PrV w v n c) (f : Below w.heap.size w w') : PrV w' v n c := by
  obtain ⟨a, cp, rfl, hb, hc⟩ := h
  refine ⟨a, cp, rfl, hb, fun k hk => ?_⟩
  obtain ⟨b, off, e, c1, c2⟩ := hc k hk
  have hl : b < w.heap.size := cell_lt9 c1
  exact ⟨b, off, e, by rw [f.cell (p := ⟨b, off + k * 2, none⟩) hl]; exact c1, by rw [f.cell (p := ⟨b, off + k * 2 + 1, none⟩) hl]; exact c2⟩
set_option maxRecDepth 100000 in
set_option maxHeartbeats 3200000 in
theorem sameVisits_any {w : World} {v u : Value} {n : Nat} {f : Nat → Int} {g : Nat → Int} (h : PrV w v n fun k => (.int .i64 (f k), .int .i64 (g k))) (h' : PrV w u n fun k => (.int .i64 (f k), .int .i64 (g k))) : Calls Try.prog 30 #[v, u] w fun e w' => e = .returned (.bool true) ∧ Below w.heap.size w w' := by
  obtain ⟨a, cp, rfl, hb, hc⟩ := h
  obtain ⟨a', cp', rfl, _, hc'⟩ := h'
  have HC := hide hc
  have HC' := hide hc'
  clear hc hc'
  have y1 : ((n : Int) != (n : Int)) = false := by simp
  go_enter Try.func30, Try.ntmps30
  go_wp2
  go_loopw [5] (fun vi wr => ∃ k : Nat, vi = .int .i64 k ∧ k ≤ n ∧ Hid (Below w.heap.size w wr)) (fun vi _ => n - (intOf vi).toNat)
  case atStart => exact ⟨0, rfl, Nat.zero_le _, Below.refl _ _⟩
  case round =>
    obtain ⟨k, rfl, hk, HR⟩ := hrel
    by_cases hlt : k < n
    · obtain ⟨b, off, rfl, c1, c2⟩ := HC.out k hlt
      obtain ⟨b', off', rfl, c3, c4⟩ := HC'.out k hlt
      have l1 := cell_lt9 c1
      have l2 := cell_lt9 c3
      have d1 : wr.cell? ⟨b, off + k * 2, none⟩ = some (.int .i64 (f k)) := by rw [HR.out.cell (p := ⟨b, off + k * 2, none⟩) l1]; exact c1
      have d2 : wr.cell? ⟨b, off + k * 2 + 1, none⟩ = some (.int .i64 (g k)) := by rw [HR.out.cell (p := ⟨b, off + k * 2 + 1, none⟩) l1]; exact c2
      have d3 : wr.cell? ⟨b', off' + k * 2, none⟩ = some (.int .i64 (f k)) := by rw [HR.out.cell (p := ⟨b', off' + k * 2, none⟩) l2]; exact c3
      have d4 : wr.cell? ⟨b', off' + k * 2 + 1, none⟩ = some (.int .i64 (g k)) := by rw [HR.out.cell (p := ⟨b', off' + k * 2 + 1, none⟩) l2]; exact c4
      obtain ⟨F, hF⟩ : ∃ F, f k = F := ⟨_, rfl⟩
      obtain ⟨G, hG⟩ : ∃ G, g k = G := ⟨_, rfl⟩
      rw [hF] at d1 d3
      rw [hG] at d2 d4
      clear hF hG c1 c2 c3 c4 l1 l2
      have i3 : (k : Int) < (n : Int) := by omega
      have i4 : (0 : Int) ≤ (k : Int) := by omega
      have yF : (F == F) = true := by simp
      have yG : (G == G) = true := by simp
      go_wp2
      go_quiet (fail)
      go_wp2
      go_roundw
      case rel => exact ⟨k + 1, by go_num, by omega, below_drewN HR.out _⟩
      case measure => simp [intOf]; omega
    · have i3 : ¬ (k : Int) < (n : Int) := by omega
      go_wp2
      go_ret
      exact ⟨rfl, HR.out⟩
end Go.Proofs.Ytgjpkpmikbpcnaa
namespace Go.Proofs.Ytgjpkpmikbpcnaa
open Go.RowKit
/-- How many visits a task has, and of which kind each is. -/
def visN (s : Bool) : Nat := if s = true then 2 else 1
def visK (s : Bool) (k : Nat) : Int := if s = true then (k : Int) + 2 else 1
set_option maxRecDepth 100000 in
set_option maxHeartbeats 3200000 in
theorem visits_any (w : World) (s : Bool) (i : Int) : Calls Try.prog 31 #[.agg #[.bool s, .int .i64 i]] w fun e w' => ∃ v, e = .returned v ∧ PrV w' v (visN s) (fun k => (.int .i64 (visK s k), .int .i64 i)) ∧ (∃ c, v = .slice (some ⟨w.heap.size + 1, 0, none⟩) (visN s) c) ∧ Below w.heap.size w w' := by
  have HB0 : Hid (∀ A B, Below w.heap.size w ((w.alloc A).alloc B)) := fun A B => ((Below.refl _ _).alloc (Nat.le_refl _) A).alloc (by simp) B
  cases s with
  | true =>
    go_enter Try.func31, Try.ntmps31
    go_wp2
    go_ret
    have hr := heap_alloc2_new w (.cells #[.bool true, .int .i64 i] 31) (.cells #[.int .i64 2, .int .i64 i, .int .i64 3, .int .i64 i] 34)
    refine ⟨_, rfl, ⟨_, _, rfl, by decide, fun k hk => ⟨w.heap.size + 1, 0, rfl, ?_⟩⟩, ⟨_, rfl⟩, HB0.out _ _⟩
    rw [cell_of_row _ _ _ _ _ _ hr, cell_of_row _ _ _ _ _ _ hr]
    have hk : k < 2 := hk
    have hk : k = 0 ∨ k = 1 := by omega
    rcases hk with rfl | rfl <;> exact ⟨rfl, rfl⟩
  | false =>
    go_enter Try.func31, Try.ntmps31
    go_wp2
    go_ret
    have hr := heap_alloc2_new w (.cells #[.bool false, .int .i64 i] 31) (.cells #[.int .i64 1, .int .i64 i] 34)
    refine ⟨_, rfl, ⟨_, _, rfl, by decide, fun k hk => ⟨w.heap.size + 1, 0, rfl, ?_⟩⟩, ⟨_, rfl⟩, HB0.out _ _⟩
    rw [cell_of_row _ _ _ _ _ _ hr, cell_of_row _ _ _ _ _ _ hr]
    have hk : k < 1 := hk
    have hk : k = 0 := by omega
    subst hk
    exact ⟨rfl, rfl⟩
end Go.Proofs.Ytgjpkpmikbpcnaa
namespace Go.Proofs.Ytgjpkpmikbpcnaa
section
variable {α : Type} (f : α → Int)
end
theorem law_job {p : Prb} (h : lawM p = true) {j : Nat} (hj : j < p.js.length) : jobB p.dims p.time.n (p.js.getD j jz) = true := by
  obtain ⟨_, _, _, _, h5⟩ := lawM_ok h
  unfold allB at h5
  simp only [Bool.and_eq_true] at h5
  exact List.all_eq_true.1 h5.1.2 _ (getD_mem _ _ _ hj)
theorem law_shp {p : Prb} (h : lawM p = true) {j : Nat} (hj : j < p.ss.length) : shpB p.dims p.time.n (p.ss.getD j hz) = true := by
  obtain ⟨_, _, _, _, h5⟩ := lawM_ok h
  unfold allB at h5
  simp only [Bool.and_eq_true] at h5
  exact List.all_eq_true.1 h5.2 _ (getD_mem _ _ _ hj)
end Go.Proofs.Ytgjpkpmikbpcnaa
