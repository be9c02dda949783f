/-
  What the laws of chapter 6 share: a matrix in its box, the call of Graph, ways the other way round.
-/
import Derived.Test.YtojkdmkeankcgaaGraphD
import Derived.Test.YtojkdmkeankcgaaAll
namespace Go.Proofs.Ytojkdmkeankcgaa
open Go.RowKit Go.Sort

/-- A matrix in a box. -/
structure MBox (wr : World) (b n tg tc Q : Nat) (xs : List Int) : Prop where
  box : wr.heap[b]? = some (.cells #[.int .i64 n, .slice (some ⟨tg, 0, none⟩) Q tc] 39 (0, 0))
  cells : ∀ k, k < Q → wr.cell? ⟨tg, k, none⟩ = some (.int .i64 xs[k]!)
section
variable {w w' : World} {b n tg tc Q : Nat} {xs : List Int}
theorem MBox.later (h : MBox w b n tg tc Q xs) (f : Below w.heap.size w w') : MBox w' b n tg tc Q xs :=
  ⟨(f.block b (Array.getElem?_eq_some_iff.1 h.box).1).trans h.box, fun k hk => (f.cell (p := ⟨tg, k, none⟩) (block_lt_of_cell (h.cells k hk))).trans (h.cells k hk)⟩
theorem MBox.drewN (h : MBox w b n tg tc Q xs) (q : Nat) : MBox (w.drewN q) b n tg tc Q xs := h.later (Qu.below_drewN (Below.refl _ _) q)
theorem MBox.c0 (h : MBox w b n tg tc Q xs) : w.cell? ⟨b, 0, none⟩ = some (.int .i64 n) := by rw [cell_of_row _ b 0 _ _ _ h.box]; rfl
theorem MBox.c1 (h : MBox w b n tg tc Q xs) : w.cell? ⟨b, 1, none⟩ = some (.slice (some ⟨tg, 0, none⟩) Q tc) := by rw [cell_of_row _ b 1 _ _ _ h.box]; rfl
theorem MBox.mk' {base : Nat} (hr : IRow w base (.slice (some ⟨tg, 0, none⟩) Q tc) xs) (hl : xs.length = Q) (hb : w.heap[b]? = some (.cells #[.int .i64 n, .slice (some ⟨tg, 0, none⟩) Q tc] 39 (0, 0))) : MBox w b n tg tc Q xs := ⟨hb, fun k hk => hr.cell k (by omega)⟩
end
/-! ### ways the other way round -/
section
variable {n : Nat} {W V : Nat → Nat → Option Int}
theorem Way.lt {p q : Nat} {d : Int} (h : Way n W p q d) (hp : p < n) : q < n := by
  cases h with
  | here => exact hp
  | on _ _ hv _ => exact hv
theorem Way.turn (hV : ∀ a b, a < n → b < n → V b a = W a b) {p q : Nat} {d : Int} (h : Way n W p q d) : Way n V q p d := by
  induction h with
  | here => exact .here
  | @on u v d x h hu hv hx ih =>
    have h1 : Way n V v u x := by
      have := (Way.here (n := n) (W := V) (p := v)).on hv hu (by rw [hV u v hu hv]; exact hx)
      rw [Int.zero_add] at this
      exact this
    have := h1.trans ih
    rw [Int.add_comm] at this
    exact this
theorem least_turn (hW : WOk n W) (hV : ∀ a b, a < n → b < n → V b a = W a b) {p q : Nat} (hp : p < n) (hq : q < n) : least n W p q = least n V q p := by
  have hVo : WOk n V := fun a b v ha hb h => hW b a v hb ha (by rw [← hV b a hb ha]; exact h)
  have hV' : ∀ a b, a < n → b < n → W b a = V a b := fun a b ha hb => (hV b a hb ha).symm
  have h1 := least_is hW p hp
  have h2 := least_is hVo q hq
  cases e1 : least n W p q with
  | none =>
    cases e2 : least n V q p with
    | none => rfl
    | some d =>
      obtain ⟨d', h3, _⟩ := h1.le ((h2.way p d hp e2).turn hV')
      rw [e1] at h3; cases h3
  | some d =>
    obtain ⟨d', h3, h4⟩ := h2.le ((h1.way q d hq e1).turn hV)
    obtain ⟨d'', h5, h6⟩ := h1.le ((h2.way p d' hp h3).turn hV')
    rw [e1] at h5
    cases h5
    rw [h3]
    congr 1
    omega
end
/-- Behind the call of Graph: the road, the graph, its table and its least weights. -/
structure G3 (B : Nat) (w : World) (n : Nat) (a : Option Addr) (m c : Nat) (A : List Arc) (g : Nat) (W : Nat → Nat → Option Int) (b tg tc lg lc Q : Nat) (wr : World) : Prop where
  rin : RIn B w n a m c A wr
  gr : GAt wr g n W
  mt : MBox wr b n tg tc Q (cellsM n W)
  ml : MBox wr (b + 1) n lg lc Q (cellsM n (least n W))
section
variable {B n m c g b tg tc lg lc Q b3 b4 : Nat} {w wr w' w2 : World} {a : Option Addr} {A : List Arc} {W : Nat → Nat → Option Int}
theorem G3.later (h : G3 B w n a m c A g W b tg tc lg lc Q wr) (f : Below wr.heap.size wr w') : G3 B w n a m c A g W b tg tc lg lc Q w' := ⟨h.rin.later f, h.gr.later f, h.mt.later f, h.ml.later f⟩
theorem G3.drewN (h : G3 B w n a m c A g W b tg tc lg lc Q wr) (q : Nat) : G3 B w n a m c A g W b tg tc lg lc Q (wr.drewN q) := h.later (Qu.below_drewN (Below.refl _ _) q)
theorem g3_mk (hR : RIn B w n a m c A w2) (hG : GAt w2 g n W) (h3 : IRow w2 b3 (.slice (some ⟨tg, 0, none⟩) Q tc) (cellsM n W)) (h4 : IRow w2 b4 (.slice (some ⟨lg, 0, none⟩) Q lc) (cellsM n (least n W))) (hQ : n * n = Q) :
    G3 B w n a m c A g W w2.heap.size tg tc lg lc Q ((w2.alloc (.cells #[.int .i64 n, .slice (some ⟨tg, 0, none⟩) Q tc] 39)).alloc (.cells #[.int .i64 n, .slice (some ⟨lg, 0, none⟩) Q lc] 39)) := by
  have f1 : Below w2.heap.size w2 (w2.alloc (.cells #[.int .i64 n, .slice (some ⟨tg, 0, none⟩) Q tc] 39)) := (Below.refl _ _).alloc (Nat.le_refl _) _
  have f2 : Below (w2.alloc (.cells #[.int .i64 n, .slice (some ⟨tg, 0, none⟩) Q tc] 39)).heap.size (w2.alloc (.cells #[.int .i64 n, .slice (some ⟨tg, 0, none⟩) Q tc] 39)) ((w2.alloc (.cells #[.int .i64 n, .slice (some ⟨tg, 0, none⟩) Q tc] 39)).alloc (.cells #[.int .i64 n, .slice (some ⟨lg, 0, none⟩) Q lc] 39)) := (Below.refl _ _).alloc (Nat.le_refl _) _
  have hs : (w2.alloc (.cells #[.int .i64 n, .slice (some ⟨tg, 0, none⟩) Q tc] 39)).heap.size = w2.heap.size + 1 := by simp
  refine ⟨(hR.later f1).later f2, (hG.later f1).later f2, MBox.later (MBox.mk' (h3.later (Nat.le_refl _) f1) (by rw [cellsM_len]; exact hQ) (heap_alloc_new _ _)) f2, MBox.mk' ((h4.later (Nat.le_refl _) f1).later (Nat.le_refl _) f2) (by rw [cellsM_len]; exact hQ) (by rw [← hs]; exact heap_alloc_new _ _)⟩
end
/-- Two matrices, each in its box. -/
structure M2 (B : Nat) (w : World) (n b ga ca gb cb Q : Nat) (xs ys : List Int) (wr : World) : Prop where
  below : Below B w wr
  a : MBox wr b n ga ca Q xs
  b : MBox wr (b + 1) n gb cb Q ys
theorem M2.drewN {B n b ga ca gb cb Q : Nat} {w wr : World} {xs ys : List Int} (h : M2 B w n b ga ca gb cb Q xs ys wr) (q : Nat) : M2 B w n b ga ca gb cb Q xs ys (wr.drewN q) := ⟨Qu.below_drewN h.below q, h.a.drewN q, h.b.drewN q⟩
theorem m2_mk {B n ga ca gb cb Q b3 b4 : Nat} {w w2 : World} {xs ys : List Int} (hb : Below B w w2) (hB : B ≤ w2.heap.size) (h3 : IRow w2 b3 (.slice (some ⟨ga, 0, none⟩) Q ca) xs) (h4 : IRow w2 b4 (.slice (some ⟨gb, 0, none⟩) Q cb) ys) (hx : xs.length = Q) (hy : ys.length = Q) :
    M2 B w n w2.heap.size ga ca gb cb Q xs ys ((w2.alloc (.cells #[.int .i64 n, .slice (some ⟨ga, 0, none⟩) Q ca] 39)).alloc (.cells #[.int .i64 n, .slice (some ⟨gb, 0, none⟩) Q cb] 39)) := by
  have f1 : Below w2.heap.size w2 (w2.alloc (.cells #[.int .i64 n, .slice (some ⟨ga, 0, none⟩) Q ca] 39)) := (Below.refl _ _).alloc (Nat.le_refl _) _
  have f2 : Below (w2.alloc (.cells #[.int .i64 n, .slice (some ⟨ga, 0, none⟩) Q ca] 39)).heap.size (w2.alloc (.cells #[.int .i64 n, .slice (some ⟨ga, 0, none⟩) Q ca] 39)) ((w2.alloc (.cells #[.int .i64 n, .slice (some ⟨ga, 0, none⟩) Q ca] 39)).alloc (.cells #[.int .i64 n, .slice (some ⟨gb, 0, none⟩) Q cb] 39)) := (Below.refl _ _).alloc (Nat.le_refl _) _
  have hs : (w2.alloc (.cells #[.int .i64 n, .slice (some ⟨ga, 0, none⟩) Q ca] 39)).heap.size = w2.heap.size + 1 := by simp
  exact ⟨(hb.alloc hB _).alloc (by rw [hs]; omega) _, MBox.later (MBox.mk' (h3.later (Nat.le_refl _) f1) hx (heap_alloc_new _ _)) f2, MBox.mk' ((h4.later (Nat.le_refl _) f1).later (Nat.le_refl _) f2) hy (by rw [← hs]; exact heap_alloc_new _ _)⟩
end Go.Proofs.Ytojkdmkeankcgaa
