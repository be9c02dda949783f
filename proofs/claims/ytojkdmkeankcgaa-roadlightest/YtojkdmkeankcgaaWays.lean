/-
  What the calls of short's Way, All and Weigh do.
-/
import Derived.Test.YtojkdmkeankcgaaFrom
import Derived.Test.YtojkdmkeankcgaaAlong
import Derived.Deep.CutRange
namespace Go.Proofs.Ytojkdmkeankcgaa
open Go.RowKit Go.Sort

theorem lst_get {n v : Nat} (D : Nat → Option Int) (hv : v < n) : (lstV n D)[v]! = (D v).getD (-1) := by
  rw [getElem!_pos _ v (by simpa [lstV] using hv)]
  simp [lstV]
theorem way_nil (p q : Int) (w : World) : Calls Try.prog 29 #[.pointer none, .int .i64 p, .int .i64 q] w fun e w' => e = .returned (.tuple #[.slice none 0 0, .int .i64 (-1)]) ∧ w' = w := by
  have HP := hide (isplace_nil p w)
  go_enter Try.func29, Try.ntmps29
  go_wp2_with (go_at_call 50; refine HP.out.mono ?_; rintro e w' ⟨rfl, hw⟩; rw [hw]; clear hw)
  go_ret2
  exact ⟨rfl, rfl⟩
section
variable {w : World} {g n : Nat} {W : Nat → Nat → Option Int}
theorem way_out (h : GAt w g n W) (p q : Int) (hpq : inN n p = false ∨ inN n q = false) : Calls Try.prog 29 #[.pointer (some ⟨g, 0, none⟩), .int .i64 p, .int .i64 q] w fun e w' => e = .returned (.tuple #[.slice none 0 0, .int .i64 (-1)]) ∧ w' = w := by
  have HP := hide (isplace_any h p)
  have HQ := hide (isplace_any h q)
  cases hp : inN n p
  · rw [hp] at HP
    go_enter Try.func29, Try.ntmps29
    go_wp2_with (go_at_call 50; refine HP.out.mono ?_; rintro e w' ⟨rfl, hw⟩; rw [hw]; clear hw)
    go_ret2
    exact ⟨rfl, rfl⟩
  · have hq : inN n q = false := by rcases hpq with e | e; rw [hp] at e; cases e; exact e
    rw [hp] at HP
    rw [hq] at HQ
    clear hpq
    go_enter Try.func29, Try.ntmps29
    go_wp2_with (first | (go_at_call 50; have := L1; refine HQ.out.mono ?_; rintro e w' ⟨rfl, hw⟩; rw [hw]; clear hw) | (go_at_call 50; refine HP.out.mono ?_; rintro e w' ⟨rfl, hw⟩; rw [hw]; clear hw; have L1 := hide trivial))
    go_ret2
    exact ⟨rfl, rfl⟩
set_option maxRecDepth 100000 in
set_option maxHeartbeats 3200000 in
theorem way_any (h : GAt w g n W) (hn : 1 ≤ n ∧ n ≤ 32) (hW : WOk n W) (p q : Nat) (hp : p < n) (hq : q < n) :
    Calls Try.prog 29 #[.pointer (some ⟨g, 0, none⟩), .int .i64 p, .int .i64 q] w fun e w' => Below w.heap.size w w' ∧ ∃ D, IsLeast n W p D ∧ ((D q = none ∧ e = .returned (.tuple #[.slice none 0 0, .int .i64 (-1)])) ∨ ∃ d v L, D q = some d ∧ e = .returned (.tuple #[v, .int .i64 d]) ∧ IRow w' w.heap.size v (natsI L) ∧ WayOk n W p q d L) := by
  have HP := hide (isplace_any h p)
  rw [show inN n (p : Int) = true from decide_eq_true (by omega)] at HP
  have HQ := hide (isplace_any h q)
  rw [show inN n (q : Int) = true from decide_eq_true (by omega)] at HQ
  have HF := hide (from_any h hn hW p hp)
  have i1 : (q : Int) < (n : Int) := by omega
  have HQN := hide hq
  have HN := hide hn
  clear h hW
  go_enter Try.func29, Try.ntmps29
  go_upto_region 4 with (first | (go_at_call 50; have := L1; refine HQ.out.mono ?_; rintro e w' ⟨rfl, hw⟩; rw [hw]; clear hw) | (go_at_call 50; refine HP.out.mono ?_; rintro e w' ⟨rfl, hw⟩; rw [hw]; clear hw; have L1 := hide trivial) | (go_at_call 32; refine HF.out.mono ?_; rintro e w1 ⟨gl, ga, D, A, rk, rfl, h1, h2, h3, h4, h5⟩; have H1 := hide (And.intro h1 (And.intro h2 (And.intro h3 (And.intro h4 h5)))); have c1 := h3.cell q (by simpa [lstV] using HQN.out); rw [lst_get D HQN.out] at c1; clear h1 h2 h3 h4 h5))
  cases hd : D q with
  | none =>
    rw [hd] at c1
    simp only [Option.getD_none] at c1
    have hb : ((-1 : Int) == -1) = true := by decide
    have HD := hide hd
    clear hd
    go_wp2
    go_ret2
    exact ⟨H1.out.2.2.2.2, D, H1.out.1, .inl ⟨HD.out, rfl⟩⟩
  | some d =>
    rw [hd] at c1
    simp only [Option.getD_some] at c1
    have hp0 := H1.out.2.1.pos q d hd
    have hb : (d == -1) = false := by simp; omega
    have HD := hide hd
    have HAL := hide (fun (w' : World) (hr : IRow w' w.heap.size (.slice (some ⟨ga, 0, none⟩) n n) (ahdV n A)) => along_any HN.out H1.out.2.1 H1.out.1.here hr HQN.out hd)
    have hlt : gl < w1.heap.size := (H1.out.2.2.1.lt gl rfl).2
    clear hd
    go_wp2
    first | (go_region_held (fun w' => w'.cell? ⟨gl, q, none⟩ = some (.int .i64 d)) (go_keep) (first | (go_at_call 51; refine (HAL.out _ (H1.out.2.2.2.1.later (Nat.le_refl _) (Below.refl _ _).drew)).mono ?_; rintro e w2 ⟨v, L, rfl, h1, h2, h3⟩; have c2 : w2.cell? ⟨gl, q, none⟩ = some (.int .i64 d) := (h3.cell (p := ⟨gl, q, none⟩) hlt).trans c1; have H2 := hide (And.intro h1 (And.intro h2 h3)); obtain ⟨ra, rc, rfl⟩ := h1.shape; clear h1 h2 h3)))
    all_goals
      go_wp2
      go_ret2
      exact ⟨H1.out.2.2.2.2.drew.trans (H2.out.2.2.mono H1.out.2.2.2.2.size), D, H1.out.1, .inr ⟨d, _, L, HD.out, rfl, H2.out.1.mono (by have := H1.out.2.2.2.2.size; exact this), H2.out.2.1⟩⟩
end
end Go.Proofs.Ytojkdmkeankcgaa
