/-
  Plans in the making: steps in memory.
-/
import Derived.Test.YtndbikoccdjafaaACVrwG
import Derived.Test.YtndbikoccdjafaaACCarAG
namespace Go.Proofs.Ytndbikoccdjafaa
open Go.RowKit
def encS (s : StepT) (y : Value) : List Value := [.int .i64 s.kind, .int .i64 s.item, .int .i64 s.place, .int .i64 s.arr, .int .i64 s.wait, .int .i64 s.serv, y, .int .i64 s.time, .int .i64 s.dist]
def SatS (base : Nat) (w : World) (y : Value) (s : StepT) : Prop := IRow w base y s.load
theorem loc_steps (base : Nat) : Loc (SatS base) := fun _ _ _ _ h hb => own_of_block h hb
theorem info88 : (Try.prog.info? 45).map (fun i => (i.zero, i.size, i.bytes)) = some (some (.agg #[.int .i64 0, .int .i64 0, .int .i64 0, .int .i64 0, .int .i64 0, .int .i64 0, .slice none 0 0, .int .i64 0, .int .i64 0]), 9, 88) := by kernel_rfl
/-- Steps in memory, each load in a row of its own. -/
def StpR (w : World) (base b2 : Nat) (v : Value) (L : List StepT) (ys : List Value) : Prop := RowS 45 9 encS (SatS base) w b2 v L ys
/-- The plan's box. -/
def planC (vi : Int) (v : Value) (tm ds wt sv co : Int) : Array Value := #[.int .i64 vi, v, .int .i64 tm, .int .i64 ds, .int .i64 wt, .int .i64 sv, .int .i64 co]
structure PlnS (w3 : World) (base x6 : Nat) (vi : Int) (ys : List Value) (L : List StepT) (tm ds wt sv : Int) (q : Nat) (wr : World) : Prop where
  low : Below w3.heap.size w3 wr
  x6a : w3.heap.size ≤ x6
  len : L.length = q
  box : ∃ g gc, wr.heap[x6]? = some (.cells (planC vi (.slice (some ⟨g, 0, none⟩) q gc) tm ds wt sv 0) 34 (0, 0)) ∧ g ≠ x6 ∧ StpR wr base w3.heap.size (.slice (some ⟨g, 0, none⟩) q gc) L ys
theorem below_grw {w w' : World} {r : Option Nat} (h : Below w.heap.size w w') : w.grownBy w' r := ⟨h.os, h.tape, h.output, h.size, fun k hk _ => h.block k hk⟩
theorem grw_trans {a b c : World} {r : Option Nat} (h : a.grownBy b r) (k : b.grownBy c r) : a.grownBy c r := ⟨k.os.trans h.os, k.tape.trans h.tape, k.output.trans h.output, Nat.le_trans h.size k.size, fun q hq hn => (k.block q (Nat.lt_of_lt_of_le hq h.size) hn).trans (h.block q hq hn)⟩
theorem row_set {w w' : World} {base b2 x6 : Nat} {v : Value} {L : List StepT} {ys : List Value} (h : StpR w base b2 v L ys) (hg : w.grownBy w' (some x6)) (hv : ∀ g, v.ownBlock = some g → g ≠ x6) (hy : ∀ y ∈ ys, ∀ g, y.ownBlock = some g → g ≠ x6) : StpR w' base b2 v L ys :=
  RowS.of_block h (loc_steps base) hg.size (fun g hv' => hg.block g (World.ownsRow.lt h.own g hv').2 fun e => hv g hv' (by injection e)) (fun y hy' g hg' => hg.block g (RowS.inH h y hy' g hg') fun e => hy y hy' g hg' (by injection e))
theorem plns_next {w3 wA : World} {base x6 q g3 cp3 : Nat} {vi tm ds wt sv : Int} {v0 : Value} {ys : List Value} {L : List StepT} (low : Below w3.heap.size w3 wA) (x6a : w3.heap.size ≤ x6) (len : L.length = q) (hbox : wA.heap[x6]? = some (.cells (planC vi v0 tm ds wt sv 0) 34 (0, 0))) (hrow : StpR wA base w3.heap.size (.slice (some ⟨g3, 0, none⟩) q cp3) L ys) (hg3 : g3 ≠ x6) (hy : ∀ y ∈ ys, ∀ g, y.ownBlock = some g → g ≠ x6) : PlnS w3 base x6 vi ys L tm ds wt sv q (wA.setCell ⟨x6, 1, none⟩ (.slice (some ⟨g3, 0, none⟩) q cp3)) := by
  have hg : wA.grownBy (wA.setCell ⟨x6, 1, none⟩ (.slice (some ⟨g3, 0, none⟩) q cp3)) (some x6) := grw_set (grw_refl _ _) _ _
  exact ⟨low.trans (grw_low hg x6a low.size), x6a, len, g3, cp3, heap_setCell_same wA x6 1 _ _ _ hbox, hg3, row_set hrow hg (fun g h9 => by rw [← own_blk h9]; exact hg3) hy⟩
theorem range_step {α : Type} (f : Nat → α) (q : Nat) : (List.range (q + 1)).map f = (List.range q).map f ++ [f q] := by rw [List.range_succ, List.map_append]; rfl
theorem take_step {ys : List Value} {q : Nat} {y : Value} (h : ys[q]? = some y) : ys.take (q + 1) = ys.take q ++ [y] := by
  obtain ⟨hk, e⟩ := List.getElem?_eq_some_iff.1 h
  rw [List.take_succ_eq_append_getElem hk, e]
theorem PlnS.lt {w3 wr : World} {base x6 q : Nat} {vi tm ds wt sv : Int} {ys : List Value} {L : List StepT} (h : PlnS w3 base x6 vi ys L tm ds wt sv q wr) : x6 < wr.heap.size := by
  obtain ⟨g, gc, hb, _⟩ := h.box
  exact lt_of_block hb
theorem PlnS.on {w3 wr w' : World} {base x6 q : Nat} {vi tm ds wt sv : Int} {ys : List Value} {L : List StepT} (h : PlnS w3 base x6 vi ys L tm ds wt sv q wr) (f : Below wr.heap.size wr w') : PlnS w3 base x6 vi ys L tm ds wt sv q w' := by
  obtain ⟨g, gc, hb, hn, hr⟩ := h.box
  exact ⟨h.low.trans (f.mono h.low.size), h.x6a, h.len, g, gc, (f.block x6 (lt_of_block hb)).trans hb, hn, RowS.on hr (loc_steps base) f⟩
theorem StpR.mono {w : World} {base b2 base' b2' : Nat} {v : Value} {L : List StepT} {ys : List Value} (h : StpR w base b2 v L ys) (h1 : base' ≤ base) (h2 : b2' ≤ b2) : StpR w base' b2' v L ys := ⟨h.len, own_mono h.own h2, fun k x y hx hy => ⟨IRow.mono (h.sat k x y hx hy).1 h1, (h.sat k x y hx hy).2⟩⟩
theorem mul_bd {t c : Int} (h1 : -110 ≤ t) (h2 : t ≤ 3520000000) (h3 : 0 ≤ c) (h4 : c ≤ 1000000) : -110000000 ≤ t * c ∧ t * c ≤ 3520000000000000 := by
  have a1 := Int.mul_le_mul_of_nonneg_right h2 h3
  have a2 := Int.mul_le_mul_of_nonneg_right h1 h3
  omega
/-- A step more behind the steps, in a region that draws its order. -/
theorem step_plan {Z X : World} {base b2 g q gc : Nat} {la : Option Addr} {ln lcp : Nat} {L : List StepT} {ys : List Value} {st : StepT} {cells : Array Value} {ops : Array Oper} {o : Oper} {a : Act} {K : Act → World → Prop} {Q : Exit → Act → World → Prop} {E : Prop} (s xo : Operand) (hgd : o.guard = none)
    (ho : o.op = .call { callee := .builtin .append, args := #[s, xo], argTypes := #[32, 32] }) (hs : a.eval s = .slice (some ⟨g, 0, none⟩) q gc) (hx : a.eval xo = .slice (some ⟨Z.heap.size, 0, none⟩) 1 1)
    (BZ : Below Z.heap.size Z X) (hblk : X.heap[Z.heap.size]? = some (.cells cells 45)) (hcs : cells.toList = encS st (.slice la ln lcp)) (hrow : StpR Z base b2 (.slice (some ⟨g, 0, none⟩) q gc) L ys) (hlen : L.length = q) (hq : q ≤ 200) (hb : b2 ≤ Z.heap.size) (hu : IRow Z base (.slice la ln lcp) st.load) (hap : Apt (.slice (some ⟨g, 0, none⟩) q gc) (.slice la ln lcp))
    (h : ∀ g3 cp3 wA, StpR wA base b2 (.slice (some ⟨g3, 0, none⟩) (q + 1) cp3) (L ++ [st]) (ys ++ [.slice la ln lcp]) → (∀ b, b < Z.heap.size → b ≠ g → wA.heap[b]? = Z.heap[b]?) → (g3 = g ∨ Z.heap.size ≤ g3) → Below b2 Z wA → K (a.put o.dst (.slice (some ⟨g3, 0, none⟩) (q + 1) cp3)) wA) : if Region.wanted o (yielded ops a.tmps) = true then Oper.wp Try.prog o a X K Q else E := by
  refine step_app_row (e := 45) (z := 9) (t := 32) (enc := encS) (Sat := SatS base) (fun _ _ => rfl) (by decide) (loc_steps _) info88 rfl Try.underlying32 s xo hgd ho hs hx hblk (RowS.on hrow (loc_steps _) BZ) hlen (by omega) (by omega) (Nat.le_trans hb BZ.size) hcs (by intro u hu; simp [encS] at hu; rcases hu with rfl | rfl | rfl | rfl | rfl | rfl | rfl | rfl | rfl <;> rfl) (hu.later (Nat.le_refl _) BZ) (InH.on (irow_in hu) BZ) hap ?_
  intro g3 cp3 wA r1 r2 r3
  refine h g3 cp3 wA r1 (fun b hb hn => (r2.block b (Nat.lt_of_lt_of_le hb BZ.size) fun e => hn (by injection e)).trans (BZ.block b hb)) ?_ ((BZ.mono hb).grown r2 (Nat.le_trans hb BZ.size) fun q' h9 => (World.ownsRow.lt hrow.own q' h9).1)
  rcases r3 with e | ⟨e, _⟩
  · have e : some g3 = some g := e
    injection e with e
    exact .inl e
  · exact .inr (by rw [e]; exact BZ.size)
end Go.Proofs.Ytndbikoccdjafaa
