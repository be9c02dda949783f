/-
  What the call of the document's Weigh does.
-/
import Derived.Test.YtlflbjnglmbdeaaLawM
namespace Go.Proofs.Ytlflbjnglmbdeaa
open Go.RowKit Go.Sort

/-- The weight of a list of numbers as places: on from a, with so much behind. -/
def weighF (n : Nat) (W : Nat → Nat → Option Int) (sum a : Int) : List Int → Int
  | [] => sum
  | b :: r => if wt n W a b < 0 then -1 else weighF n W (sum + wt n W a b) b r
def weighZ (n : Nat) (W : Nat → Nat → Option Int) : List Int → Int
  | [] => -1
  | a :: r => if inN n a then weighF n W 0 a r else -1
/-- Whole numbers in memory, wherever. -/
def IntsAt (w : World) (a : Option Addr) (zs : List Int) : Prop := ∀ k, k < zs.length → ∃ b off, a = some ⟨b, off, none⟩ ∧ w.cell? ⟨b, off + k, none⟩ = some (.int .i64 zs[k]!)
theorem IntsAt.later {w w' : World} {a : Option Addr} {zs : List Int} (h : IntsAt w a zs) (f : Below w.heap.size w w') : IntsAt w' a zs := fun k hk => by
  obtain ⟨b, off, e, h1⟩ := h k hk
  exact ⟨b, off, e, (f.cell (p := ⟨b, _, none⟩) (block_lt_of_cell h1)).trans h1⟩
theorem intsAt_row {w : World} {base : Nat} {va : Option Addr} {vm vc : Nat} {zs : List Int} (h : IRow w base (.slice va vm vc) zs) : IntsAt w va zs := fun k hk => by
  rcases h.2 with ⟨_, e2⟩ | ⟨g, cap, cur, e, _⟩
  · omega
  · cases e
    exact ⟨g, 0, rfl, by rw [Nat.zero_add]; exact h.cell k hk⟩
theorem wt_bnd {n : Nat} {W : Nat → Nat → Option Int} (hW : WOk n W) (a b : Int) : -1 ≤ wt n W a b ∧ wt n W a b ≤ 1000000 := by
  unfold wt
  split
  · rename_i h
    cases e : W a.toNat b.toNat with
    | none => simp
    | some x => have := hW _ _ x (by omega) (by omega) e; simp only [Option.getD_some]; omega
  · omega
theorem wt_in {n : Nat} {W : Nat → Nat → Option Int} {a b : Nat} (ha : a < n) (hb : b < n) : wt n W a b = (W a b).getD (-1) := by unfold wt; rw [if_pos (by omega)]; rfl
theorem wt_out {n : Nat} {W : Nat → Nat → Option Int} {a b : Int} (h : ¬ (0 ≤ b ∧ b < n)) : wt n W a b = -1 := by unfold wt; rw [if_neg (by omega)]
theorem weighF_drop (n : Nat) (W : Nat → Nat → Option Int) (s a : Int) (zs : List Int) (k : Nat) (hk : k < zs.length) : weighF n W s a (zs.drop k) = if wt n W a zs[k]! < 0 then -1 else weighF n W (s + wt n W a zs[k]!) zs[k]! (zs.drop (k + 1)) := by
  rw [List.drop_eq_getElem_cons hk, getElem!_pos zs k hk]
  rfl
/-- While Weigh runs. -/
structure WgIn (B : Nat) (w : World) (n tg tc Q : Nat) (W : Nat → Nat → Option Int) (a : Option Addr) (zs : List Int) (wr : World) : Prop where
  below : Below B w wr
  box : MBox wr B n tg tc Q (cellsM n W)
  ints : IntsAt wr a zs
theorem WgIn.drewN {B n tg tc Q : Nat} {w wr : World} {W : Nat → Nat → Option Int} {a : Option Addr} {zs : List Int} (h : WgIn B w n tg tc Q W a zs wr) (q : Nat) : WgIn B w n tg tc Q W a zs (wr.drewN q) := ⟨Qu.below_drewN h.below q, h.box.drewN q, h.ints.later (Qu.below_drewN (Below.refl _ _) q)⟩
end Go.Proofs.Ytlflbjnglmbdeaa
