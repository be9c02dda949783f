/-
  Several texts in one: CCarA CLods CTStp CStps CTrA CLgt CGrw.
-/
import Derived.Test.YtndbikoccdjafaaACCarG
import Derived.Test.YtndbikoccdjafaaACPlB
import Derived.Test.YtndbikoccdjafaaACRowS
import Derived.Test.YtndbikoccdjafaaACLdsG
namespace Go.Proofs.Ytndbikoccdjafaa
open Go.RowKit
/-- The k-th vehicle in memory: its cells, its two slices. -/
structure CarV (w : World) (x : PrbS) (p : Prb) (k : Nat) (ca : Option Addr) (cc : Nat) (ba : Option Addr) (bc : Nat) : Prop where
  lt : k < p.vs.length
  at_ : ∃ b off c, x.v = .slice (some ⟨b, off, none⟩) p.vs.length c ∧ b < w.heap.size ∧ ∀ j, j < 11 → w.cell? ⟨b, off + k * 11 + j, none⟩ = (vehE (p.vs.getD k vz) (.slice ca (p.vs.getD k vz).cap.length cc) (.slice ba (p.vs.getD k vz).brks.length bc))[j]?
  cap : IntsV w (.slice ca (p.vs.getD k vz).cap.length cc) (p.vs.getD k vz).cap
  brks : BrksV w (.slice ba (p.vs.getD k vz).brks.length bc) (p.vs.getD k vz).brks
theorem PrbV.car {w : World} {x : PrbS} {p : Prb} {k : Nat} (h : PrbV w x p) (hk : k < p.vs.length) : ∃ ca cc ba bc, CarV w x p k ca cc ba bc := by
  obtain ⟨b, off, c, xc, xb, he, hb, hcs, q1, q2⟩ := veh_cells h.v hk
  obtain ⟨ca, cc, rfl⟩ := q1.shape
  obtain ⟨ba, bc, rfl⟩ := SlV.shape q2
  exact ⟨ca, cc, ba, bc, hk, ⟨b, off, c, he, hb, hcs⟩, q1, q2⟩
end Go.Proofs.Ytndbikoccdjafaa
namespace Go.Proofs.Ytndbikoccdjafaa
open Go.RowKit
/-- The loads behind the first q visits. -/
def ldQ (p : Prb) (dd : Nat) (V : List Vst) (q : Nat) : List (List Int) := startM p dd V :: goM p (startM p dd V) (V.take q)
theorem last_step {p : Prb} {dd q : Nat} {V : List Vst} {u : Vst} (h : V[q]? = some u) : lastL p (startM p dd V) (V.take (q + 1)) = behindM p u.1 u.2 (lastL p (startM p dd V) (V.take q)) := by rw [take_snoc h, lastL_snoc]
theorem goM_get {p : Prb} : ∀ (V : List Vst) (xs : List Int) (q : Nat), q < V.length → (goM p xs V)[q]? = some (lastL p xs (V.take (q + 1)))
  | [], _, _, h => by simp at h
  | v :: V, xs, 0, _ => by simp [goM, lastL]
  | v :: V, xs, q + 1, h => by
    simp only [goM, List.getElem?_cons_succ, List.take_succ_cons]
    rw [goM_get V _ q (by simpa using h)]; rfl
theorem irow_in {w : World} {base : Nat} {xs : List Int} {v : Value} (h : IRow w base v xs) : InH w v := fun g hg => (World.ownsRow.lt h g hg).2
theorem own_blk {b n c g : Nat} (h : (Value.slice (some ⟨b, 0, none⟩) n c).ownBlock = some g) : b = g := by
  have h : some b = some g := h
  injection h
theorem LdS.mono {w : World} {base base' : Nat} {v : Value} {LL : List (List Int)} {ys : List Value} (h : LdS w base v LL ys) (hb : base' ≤ base) : LdS w base' v LL ys := ⟨h.len, own_mono h.own hb, fun k x y hx hy => ⟨(h.sat k x y hx hy).1.mono hb, (h.sat k x y hx hy).2⟩⟩
theorem LdS.on {w w' : World} {base : Nat} {v : Value} {LL : List (List Int)} {ys : List Value} (h : LdS w base v LL ys) (f : Below w.heap.size w w') : LdS w' base v LL ys := RowS.on h (loc_ints base) f
end Go.Proofs.Ytndbikoccdjafaa
namespace Go.Proofs.Ytndbikoccdjafaa
open Go.RowKit
/-- Nothing but block B has turned, and new blocks. -/
theorem grw_refl (w : World) (r : Option Nat) : w.grownBy w r := ⟨rfl, rfl, rfl, Nat.le_refl _, fun _ _ _ => rfl⟩
theorem grw_set {w w' : World} {B : Nat} (h : w.grownBy w' (some B)) (j : Nat) (u : Value) : w.grownBy (w'.setCell ⟨B, j, none⟩ u) (some B) := ⟨h.os, h.tape, h.output, by simpa using h.size, fun k hk hn => (heap_setCell_other _ _ _ _ (fun e => hn (by rw [e]))).trans (h.block k hk hn)⟩
theorem grw_low {w w' : World} {B b : Nat} (h : w.grownBy w' (some B)) (hb : b ≤ B) (hw : b ≤ w.heap.size) : Below b w w' := ⟨h.os, h.tape, h.output, h.size, fun k hk => h.block k (by omega) (fun e => by injection e with e; omega)⟩
theorem brk_cells {w : World} {a : Option Addr} {n c : Nat} {L : List Brk} {k : Nat} (h : BrksV w (.slice a n c) L) (hk : k < L.length) : ∃ b off y, a = some ⟨b, off, none⟩ ∧ n = L.length ∧ b < w.heap.size ∧ w.cell? ⟨b, off + k * 2, none⟩ = some y ∧ w.cell? ⟨b, off + k * 2 + 1, none⟩ = some (.int .i64 (L.getD k bz).serv) ∧ WinsV w y (L.getD k bz).wins := by
  obtain ⟨a', c', e, _, _, hc⟩ := h
  injection e with e1 e2 e3
  subst e1
  obtain ⟨b, off, l, rfl, hl, hcs, y, rfl, q1⟩ := hc k hk
  have h0 : w.cell? ⟨b, off + k * 2 + 0, none⟩ = some _ := hcs 0 (by decide)
  have h1 : w.cell? ⟨b, off + k * 2 + 1, none⟩ = some _ := hcs 1 (by decide)
  exact ⟨b, off, y, rfl, e2, block_lt_of_cell h0, h0, h1, q1⟩
end Go.Proofs.Ytndbikoccdjafaa
namespace Go.Proofs.Ytndbikoccdjafaa
open Go.RowKit
theorem lt_of_block {w : World} {B : Nat} {o : Obj} (h : w.heap[B]? = some o) : B < w.heap.size := by
  rcases Nat.lt_or_ge B w.heap.size with hlt | hge
  · exact hlt
  · rw [Array.getElem?_eq_none hge] at h; cases h
end Go.Proofs.Ytndbikoccdjafaa
namespace Go.Proofs.Ytndbikoccdjafaa
open Go.RowKit
theorem covers_zero (a b : Nat) (ha : a < 18446744073709551616) (hb : b < 18446744073709551616) : b &&& (18446744073709551615 - a) = 0 ↔ a ||| b = a := by
  have key : ∀ k, (18446744073709551615 - a).testBit k = (decide (k < 64) && !a.testBit k) := fun k => by
    have := Nat.testBit_two_pow_sub_succ (x := a) (n := 64) ha k
    rw [show 2 ^ 64 - (a + 1) = 18446744073709551615 - a by omega] at this
    exact this
  constructor
  · intro h
    refine Nat.eq_of_testBit_eq fun k => ?_
    have h1 := congrArg (·.testBit k) h
    simp only [Nat.testBit_and, key, Nat.zero_testBit] at h1
    rw [Nat.testBit_or]
    by_cases hk : k < 64
    · cases hA : a.testBit k <;> cases hB : b.testBit k <;> simp [hA, hB, hk] at h1 ⊢
    · have : b.testBit k = false := Nat.testBit_lt_two_pow (Nat.lt_of_lt_of_le hb (Nat.pow_le_pow_right (n := 2) (by decide) (show 64 ≤ k by omega)))
      simp [this]
  · intro h
    refine Nat.eq_of_testBit_eq fun k => ?_
    have h1 := congrArg (·.testBit k) h
    simp only [Nat.testBit_or] at h1
    rw [Nat.testBit_and, key, Nat.zero_testBit]
    cases hA : a.testBit k <;> cases hB : b.testBit k <;> simp [hA, hB] at h1 ⊢
theorem skl_wd {w : World} {x : PrbS} {p : Prb} (h : PrbV w x p) (t : Tsk) : Wd (sklM p t) := by
  obtain ⟨s, i⟩ := t
  unfold sklM
  split
  · rename_i ht
    split
    · rename_i hs
      subst hs
      obtain ⟨k, rfl, hk⟩ := there_ship ht
      obtain ⟨a, c, _, _, _, hc⟩ := h.s
      obtain ⟨_, _, _, _, _, _, _, _, _, _, _, _, _, hw⟩ := hc k hk
      simpa using hw
    · rename_i hs
      have hs : s = false := by cases s <;> simp_all
      subst hs
      obtain ⟨k, rfl, hk⟩ := there_job ht
      obtain ⟨a, c, _, _, _, hc⟩ := h.j
      obtain ⟨_, _, _, _, _, _, _, _, _, _, _, _, _, hw⟩ := hc k hk
      simpa using hw
  · exact ⟨by omega, by omega⟩
theorem veh_wd {w : World} {x : PrbS} {p : Prb} (h : PrbV w x p) {k : Nat} (hk : k < p.vs.length) : Wd (p.vs.getD k vz).skills := by
  obtain ⟨a, c, _, _, _, hc⟩ := h.v
  obtain ⟨_, _, _, _, _, _, _, _, _, _, _, hw⟩ := hc k hk
  exact hw
end Go.Proofs.Ytndbikoccdjafaa
namespace Go.Proofs.Ytndbikoccdjafaa
open Go.RowKit
theorem ld_cells {w : World} {base n c q : Nat} {a : Option Addr} {LL : List (List Int)} {ys : List Value} {xs : List Int} (h : LdS w base (.slice a n c) LL ys) (hx : LL[q]? = some xs) : ∃ g y, a = some ⟨g, 0, none⟩ ∧ g < w.heap.size ∧ ys[q]? = some y ∧ w.cell? ⟨g, q, none⟩ = some y ∧ IRow w base y xs := by
  obtain ⟨y, g, cap, hy, e, _, hg⟩ := RowS.some h hx
  injection e with e1 e2 e3
  subst e1 e2 e3
  have := RowS.cells (z := 1) (enc := encL) (fun _ _ => rfl) h hx hy 0 (by decide)
  rw [Nat.mul_one, Nat.add_zero] at this
  exact ⟨g, y, rfl, hg, hy, this, (h.sat q xs y hx hy).1⟩
end Go.Proofs.Ytndbikoccdjafaa
namespace Go.Proofs.Ytndbikoccdjafaa
open Go.RowKit
theorem info34 : (Try.prog.info? 43).map (fun i => (i.zero, i.size, i.bytes)) = some (some (.agg #[.int .i64 0, .int .i64 0]), 2, 16) := by kernel_rfl
end Go.Proofs.Ytndbikoccdjafaa
