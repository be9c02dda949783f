/-
  The notions that the contracts of queue go by: what a call may have turned, the map of places, the row of pairs, an order in memory.
-/
import Derived.Test.YtojkdmkeankcgaaProg
import Derived.Test.YtojkdmkeankcgaaQHeapL
import Derived.WalkKit
import Derived.WalkSpells
import Derived.WalkLawsBesides
import Derived.Deep.QuietTactic
import Derived.BigQuiet
import Derived.BigRegion
import Derived.Deep.RegionWith
import Derived.Deep.RegionLaw
import Derived.Deep.RegionHeld
import Derived.Maps.OwnSet
namespace Go.Proofs.Ytojkdmkeankcgaa.Qu
open Go.RowKit Go.Maps

/-- From w to w' nothing that was there has turned but blocks of S. -/
structure Fr (S : Nat → Prop) (w w' : World) : Prop where
  os : w'.os = w.os
  tape : w'.tape = w.tape
  output : w'.output = w.output
  size : w.heap.size ≤ w'.heap.size
  block : ∀ k, k < w.heap.size → ¬ S k → w'.heap[k]? = w.heap[k]?
theorem Fr.refl (S : Nat → Prop) (w : World) : Fr S w w := ⟨rfl, rfl, rfl, Nat.le_refl _, fun _ _ _ => rfl⟩
theorem Fr.trans {S T : Nat → Prop} {w w1 w2 : World} (h : Fr S w w1) (k : Fr T w1 w2) (hT : ∀ i, T i → S i ∨ w.heap.size ≤ i) : Fr S w w2 :=
  ⟨k.os.trans h.os, k.tape.trans h.tape, k.output.trans h.output, Nat.le_trans h.size k.size, fun i hi hS => by
    rw [k.block i (Nat.lt_of_lt_of_le hi h.size) (fun ht => by rcases hT i ht with a | a; exact hS a; omega), h.block i hi hS]⟩
theorem Fr.trans0 {S : Nat → Prop} {w w1 w2 : World} (h : Fr S w w1) (k : Fr S w1 w2) : Fr S w w2 := h.trans k (fun _ h => .inl h)
theorem drewN_heap (w : World) (n : Nat) : (w.drewN n).heap = w.heap := by
  induction n with
  | zero => rfl
  | succ n ih => exact ih
theorem Fr.drewN {S : Nat → Prop} {a w : World} (h : Fr S a w) (n : Nat) : Fr S a (w.drewN n) := h.trans0 ⟨rfl, rfl, rfl, Nat.le_refl _, fun _ _ _ => by rw [drewN_heap]⟩
theorem Fr.drew {S : Nat → Prop} {a w : World} (h : Fr S a w) : Fr S a w.drew := h.drewN 1
theorem Fr.alloc {S : Nat → Prop} {a w : World} (h : Fr S a w) (b : Obj) : Fr S a (w.alloc b) := h.trans0 ⟨rfl, rfl, rfl, by simp, fun k hk _ => Below.heap_alloc w b k hk⟩
theorem Fr.setCell {S : Nat → Prop} {a w : World} (h : Fr S a w) (p : Addr) (v : Value) (hp : S p.block ∨ a.heap.size ≤ p.block) : Fr S a (w.setCell p v) :=
  ⟨h.os, h.tape, h.output, by simpa [World.setCell] using h.size, fun k hk hS => by
    rw [heap_setCell_other w p k v (fun e => by subst e; rcases hp with a | a; exact hS a; omega)]; exact h.block k hk hS⟩
theorem Fr.below {S : Nat → Prop} {w w' : World} {B : Nat} (h : Fr S w w') (hB : B ≤ w.heap.size) (hS : ∀ k, S k → B ≤ k) : Below B w w' :=
  ⟨h.os, h.tape, h.output, h.size, fun k hk => h.block k (by omega) (fun a => by have := hS k a; omega)⟩
theorem Fr.of_below {S : Nat → Prop} {w w' : World} (h : Below w.heap.size w w') : Fr S w w' := ⟨h.os, h.tape, h.output, h.size, fun k hk _ => h.block k hk⟩
theorem Fr.of_grown {S : Nat → Prop} {w w' : World} {o : Option Nat} (h : w.grownBy w' o) (ho : ∀ k, o = some k → S k) : Fr S w w' :=
  ⟨h.os, h.tape, h.output, h.size, fun k hk hS => h.block k hk (fun e => hS (ho k e.symm))⟩
theorem Fr.mono {S T : Nat → Prop} {w w' : World} (h : Fr S w w') (hT : ∀ k, S k → T k) : Fr T w w' := ⟨h.os, h.tape, h.output, h.size, fun k hk hS => h.block k hk (fun a => hS (hT k a))⟩

def I64 (x : Int) : Prop := -9223372036854775808 ≤ x ∧ x ≤ 9223372036854775807
theorem I64.wf {x : Int} (h : I64 x) : (Lit.int .i64 x).wf = true := WalkArith.wf_i64 h

/-! ### the map of places -/
theorem law : Keyed Try.prog 3 := int_keyed Try.underlying3
theorem zero3 (w : World) : (zeroValue 3).run Try.prog w = .ok (.int .i64 0) w := by kernel_rfl
def ki (x : Int) : Lit := .int .i64 x
def dI (x : Int) : DataW Unit := .lit (.int .i64 x)
theorem keyOf3 {x : Int} (h : I64 x) : keyOf Try.prog 3 (.int .i64 x) = some (ki x) := keyOf_int_mk Try.underlying3 h.wf
theorem ki_ne {x y : Int} (h : x ≠ y) : ki x ≠ ki y := fun e => h (by unfold ki at e; simpa using e)
theorem ki_key (x : Int) : WideAt.IsKeyLit (ki x) := trivial
abbrev OwnI (w : World) (mb n : Nat) (D : DataW Unit) : Prop := w.ownsMap Try.prog 3 (plainElem Try.prog 3) mb n D
theorem OwnI.tight {w : World} {mb n : Nat} {D : DataW Unit} (h : OwnI w mb n D) : OwnI w mb (Maps.size D) D := by
  obtain ⟨es, clock, hb, F, hs, rfl⟩ := h
  exact ⟨es, clock, hb, F, by simp [Maps.size, length_sorted], rfl⟩
/-- D holds the places of M's items. -/
structure Pl (D : DataW Unit) (M : List Pr) : Prop where
  here : ∀ i, i < M.length → Maps.has D (ki (at' M i).1) = true ∧ D.atKey (ki (at' M i).1) (dI 0) = dI i
  none : ∀ x, (∀ i, i < M.length → (at' M i).1 ≠ x) → Maps.has D (ki x) = false
  size : Maps.size D = M.length
theorem Pl.inj {D : DataW Unit} {M : List Pr} (h : Pl D M) {i j : Nat} (hi : i < M.length) (hj : j < M.length) (e : (at' M i).1 = (at' M j).1) : i = j := by
  have a := (h.here i hi).2
  rw [e, (h.here j hj).2] at a
  unfold dI at a
  simp at a
  omega
def MapIs (w : World) (mb : Nat) (M : List Pr) : Prop := ∃ D, OwnI w mb M.length D ∧ Pl D M
theorem MapIs.kept {w w' : World} {mb : Nat} {M : List Pr} {S : Nat → Prop} (h : MapIs w mb M) (f : Fr S w w') (hs : ¬ S mb) : MapIs w' mb M := by
  obtain ⟨D, hD, hp⟩ := h
  have hlt := hD.lt
  obtain ⟨es, clock, hb, F, hs2, hD⟩ := hD
  exact ⟨D, ⟨es, clock, (f.block mb hlt hs).trans hb, F, hs2, hD⟩, hp⟩
theorem MapIs.of_block {w w' : World} {mb : Nat} {M : List Pr} (h : MapIs w mb M) (e : w'.heap[mb]? = w.heap[mb]?) : MapIs w' mb M := by
  obtain ⟨D, ⟨es, clock, hb, F, hs2, hD⟩, hp⟩ := h
  exact ⟨D, ⟨es, clock, e.trans hb, F, hs2, hD⟩, hp⟩
theorem MapIs.isMap {w : World} {mb : Nat} {M : List Pr} (h : MapIs w mb M) : ∃ es clock, w.heap[mb]? = some (.map es clock) := by
  obtain ⟨D, ⟨es, clock, hb, _⟩, _⟩ := h
  exact ⟨es, clock, hb⟩

/-! ### the row of pairs -/
def cellsOf (p : Pr) : List Value := [.int .i64 p.1, .int .i64 p.2]
def flat (L : List Pr) : List Value := L.flatMap cellsOf
theorem flat_len : ∀ L : List Pr, (flat L).length = L.length * 2
  | [] => rfl
  | p :: r => by rw [show flat (p :: r) = cellsOf p ++ flat r from rfl, List.length_append, flat_len r]; simp [cellsOf]; omega
theorem flat_app (L M : List Pr) : flat (L ++ M) = flat L ++ flat M := by simp [flat]
theorem flat_get : ∀ (L : List Pr) (i : Nat), i < L.length → (flat L)[i * 2]? = some (.int .i64 (at' L i).1) ∧ (flat L)[i * 2 + 1]? = some (.int .i64 (at' L i).2)
  | [], _, h => by simp at h
  | p :: r, 0, _ => by simp [flat, cellsOf, at']
  | p :: r, i + 1, h => by
    have := flat_get r i (by simpa using h)
    rw [show flat (p :: r) = cellsOf p ++ flat r from rfl]
    have e1 : (i + 1) * 2 = (i * 2) + 2 := by omega
    have e2 : (i + 1) * 2 + 1 = (i * 2 + 1) + 2 := by omega
    rw [e1, show i * 2 + 2 + 1 = (i * 2 + 1) + 2 by omega]
    have ha : at' (p :: r) (i + 1) = at' r i := by simp [at']
    rw [ha]
    exact ⟨by simpa [cellsOf] using this.1, by simpa [cellsOf] using this.2⟩
theorem flat_set : ∀ (L : List Pr) (i : Nat) (p : Pr), i < L.length → ((flat L).set (i * 2) (.int .i64 p.1)).set (i * 2 + 1) (.int .i64 p.2) = flat (L.set i p)
  | [], _, _, h => by simp at h
  | q :: r, 0, p, _ => by simp [flat, cellsOf]
  | q :: r, i + 1, p, h => by
    have := flat_set r i p (by simpa using h)
    rw [show flat (q :: r) = cellsOf q ++ flat r from rfl, show (q :: r).set (i + 1) p = q :: r.set i p from rfl, show flat (q :: r.set i p) = cellsOf q ++ flat (r.set i p) from rfl, ← this]
    rw [show (i + 1) * 2 = i * 2 + 2 by omega, show i * 2 + 2 + 1 = (i * 2 + 1) + 2 by omega]
    simp [cellsOf]
def Row (w : World) (v : Value) (L : List Pr) : Prop := w.ownsRow 0 121 2 v L.length (flat L)
theorem Row.of_block {w w' : World} {v : Value} {L : List Pr} (h : Row w v L) (e : ∀ g, v.ownBlock = some g → w'.heap[g]? = w.heap[g]?) : Row w' v L := by
  obtain ⟨h1, h2⟩ := h
  refine ⟨h1, ?_⟩
  rcases h2 with h2 | ⟨g, cap, cur, rfl, a, hb, r⟩
  · exact .inl h2
  · exact .inr ⟨g, cap, cur, rfl, a, (e g rfl).trans hb, r⟩
theorem Row.nonempty {w : World} {v : Value} {L : List Pr} (h : Row w v L) (hl : 0 < L.length) : ∃ g cap, v = .slice (some ⟨g, 0, none⟩) L.length cap ∧ L.length ≤ cap ∧ cap ≤ 9223372036854775807 := by
  rcases h.2 with ⟨_, h2⟩ | ⟨g, cap, cur, rfl, _, _, h3, h4, _⟩
  · omega
  · exact ⟨g, cap, rfl, h3, by unfold maxLen at h4; omega⟩
theorem Row.shape {w : World} {v : Value} {L : List Pr} (h : Row w v L) : ∃ a cap, v = .slice a L.length cap ∧ L.length ≤ cap ∧ cap ≤ 9223372036854775807 := by
  rcases h.2 with ⟨rfl, h2⟩ | ⟨g, cap, cur, rfl, _, _, h3, h4, _⟩
  · exact ⟨none, 0, by rw [h2], by omega, by omega⟩
  · exact ⟨_, cap, rfl, h3, by unfold maxLen at h4; omega⟩
theorem add0 (g j : Nat) : (⟨g, 0, none⟩ : Addr).add j = ⟨g, j, none⟩ := by
  unfold Addr.add
  split
  · rename_i h; subst h; rfl
  · simp
theorem Row.cells {w : World} {g n cap : Nat} {L : List Pr} (h : Row w (.slice (some ⟨g, 0, none⟩) n cap) L) (i : Nat) (hi : i < L.length) :
    w.cell? ⟨g, i * 2, none⟩ = some (.int .i64 (at' L i).1) ∧ w.cell? ⟨g, i * 2 + 1, none⟩ = some (.int .i64 (at' L i).2) := by
  have h1 : ∀ j u, (flat L)[j]? = some u → w.cell? ((⟨g, 0, none⟩ : Addr).add j) = some u := World.ownsRow.cells (g := g) h rfl
  have h2 := flat_get L i hi
  have a := h1 _ _ h2.1
  have b := h1 _ _ h2.2
  rw [add0] at a b
  exact ⟨a, b⟩
theorem Row.blk {w : World} {g n cap : Nat} {L : List Pr} (h : Row w (.slice (some ⟨g, 0, none⟩) n cap) L) : ∃ cur, w.heap[g]? = some (.cells cur 121 (0, 0)) := by
  rcases h.2 with ⟨h2, _⟩ | ⟨g2, cap2, cur, e, _, hb, _⟩
  · cases h2
  · cases e; exact ⟨cur, hb⟩
theorem Row.frozen {w : World} {g n cap : Nat} {L : List Pr} (h : Row w (.slice (some ⟨g, 0, none⟩) n cap) L) (i : Nat) : w.frozen? ⟨g, i, none⟩ = false := by
  obtain ⟨cur, hb⟩ := h.blk
  exact frozen_of_row w g i _ _ hb
theorem own_set {w : World} {g n cap j : Nat} {xs : List Value} (h : w.ownsRow 0 121 2 (.slice (some ⟨g, 0, none⟩) n cap) n xs) (u : Value) : (w.setCell ⟨g, j, none⟩ u).ownsRow 0 121 2 (.slice (some ⟨g, 0, none⟩) n cap) n (xs.set j u) := by
  obtain ⟨h1, h2⟩ := h
  refine ⟨by simpa using h1, ?_⟩
  rcases h2 with ⟨h2, _⟩ | ⟨g2, cap2, cur, e, a, hb, r1, r2, r3, r4⟩
  · cases h2
  · cases e
    refine .inr ⟨g, cap, cur.setIfInBounds j u, rfl, a, heap_setCell_same w g j _ _ u hb, r1, r2, by simpa using r3, ?_⟩
    rw [← r4, Array.toList_setIfInBounds, List.take_set]
theorem Row.set {w : World} {g n cap : Nat} {L : List Pr} (h : Row w (.slice (some ⟨g, 0, none⟩) n cap) L) (i : Nat) (hi : i < L.length) (p : Pr) :
    Row ((w.setCell ⟨g, i * 2, none⟩ (.int .i64 p.1)).setCell ⟨g, i * 2 + 1, none⟩ (.int .i64 p.2)) (.slice (some ⟨g, 0, none⟩) n cap) (L.set i p) := by
  have hn : n = L.length := by
    rcases h.2 with ⟨h2, _⟩ | ⟨g2, cap2, cur, e, _⟩
    · cases h2
    · cases e; rfl
  subst hn
  unfold Row
  rw [← flat_set L i p hi, List.length_set]
  exact own_set (own_set h _) _
/-- An order in memory: L the row's pairs, M those whose places the map holds. -/
structure Ord (w : World) (ob mb : Nat) (v : Value) (L M : List Pr) (S : Nat → Prop) : Prop where
  blk : w.heap[ob]? = some (.cells #[v, .map (some mb)] 112 (0, 0))
  row : Row w v L
  map : MapIs w mb M
  so : S ob
  sm : S mb
  sr : ∀ g, v.ownBlock = some g → S g
  lt : ∀ k, S k → k < w.heap.size
  wf : ∀ i, i < L.length → I64 (at' L i).1 ∧ I64 (at' L i).2
  len : L.length ≤ 4096
section
variable {w w' : World} {ob mb : Nat} {v : Value} {L M : List Pr} {S : Nat → Prop}
theorem Ord.c0 (h : Ord w ob mb v L M S) : w.cell? ⟨ob, 0, none⟩ = some v := by rw [cell_of_row w ob 0 _ _ _ h.blk]; rfl
theorem Ord.c1 (h : Ord w ob mb v L M S) : w.cell? ⟨ob, 1, none⟩ = some (.map (some mb)) := by rw [cell_of_row w ob 1 _ _ _ h.blk]; rfl
theorem Ord.f (h : Ord w ob mb v L M S) (i : Nat) : w.frozen? ⟨ob, i, none⟩ = false := frozen_of_row w ob i _ _ h.blk
theorem Ord.mo (h : Ord w ob mb v L M S) : mb ≠ ob := by
  obtain ⟨es, clock, hm⟩ := h.map.isMap
  intro e
  have hb := h.blk
  rw [← e, hm] at hb
  cases hb
theorem Ord.mg (h : Ord w ob mb v L M S) {g : Nat} (e : v.ownBlock = some g) : mb ≠ g := by
  obtain ⟨es, clock, hm⟩ := h.map.isMap
  intro e2
  rcases h.row.2 with ⟨rfl, _⟩ | ⟨g2, cap, cur, rfl, _, hb, _⟩
  · cases e
  · have e3 : g2 = g := by simpa [Value.ownBlock] using e
    rw [e3, ← e2, hm] at hb
    cases hb
theorem Ord.og (h : Ord w ob mb v L M S) {g : Nat} (e : v.ownBlock = some g) : ob ≠ g := by
  intro e2
  have ho := h.blk
  rcases h.row.2 with ⟨rfl, _⟩ | ⟨g2, cap, cur, rfl, _, hb, _⟩
  · cases e
  · have e3 : g2 = g := by simpa [Value.ownBlock] using e
    rw [e3, ← e2, ho] at hb
    simp at hb
theorem Ord.later (h : Ord w ob mb v L M S) (f : Below w.heap.size w w') : Ord w' ob mb v L M S :=
  ⟨(f.block ob (h.lt _ h.so)).trans h.blk, h.row.of_block (fun g e => f.block g (h.lt _ (h.sr g e))), h.map.of_block (f.block mb (h.lt _ h.sm)), h.so, h.sm, h.sr, fun k hk => Nat.lt_of_lt_of_le (h.lt k hk) f.size, h.wf, h.len⟩
theorem Ord.fr {T : Nat → Prop} (h : Ord w ob mb v L M S) (f : Fr T w w') (d : ∀ k, S k → ¬ T k) : Ord w' ob mb v L M S :=
  ⟨(f.block ob (h.lt _ h.so) (d _ h.so)).trans h.blk, h.row.of_block (fun g e => f.block g (h.lt _ (h.sr g e)) (d _ (h.sr g e))), h.map.of_block (f.block mb (h.lt _ h.sm) (d _ h.sm)), h.so, h.sm, h.sr, fun k hk => Nat.lt_of_lt_of_le (h.lt k hk) f.size, h.wf, h.len⟩
end
end Go.Proofs.Ytojkdmkeankcgaa.Qu
