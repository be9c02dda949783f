/-
  Several texts in one.
-/
import Derived.WalkKit
import Derived.Test.YtojkdmkeankcgaaGreatProg
import Derived.WalkSpells
import Derived.WalkLawsBesides
import Derived.Deep.QuietTactic
import Derived.BigQuiet
import Derived.BigRegion
import Derived.Deep.RegionWith
import Derived.Deep.RegionLaw
import Derived.Deep.RegionHeld
import Derived.Maps.OwnSet
/-  Plain: pairs (item, key), their order, lists of pairs in the order of a heap, and what one exchange does to it. -/
namespace Go.Proofs.YtojkdmkeankcgaaGreat.Qu

/-- (item, key). -/
abbrev Pr := Int × Int
def lt (a b : Pr) : Bool := decide (a.2 < b.2 ∨ a.2 = b.2 ∧ a.1 < b.1)
theorem lt_iff (a b : Pr) : lt a b = true ↔ a.2 < b.2 ∨ a.2 = b.2 ∧ a.1 < b.1 := by simp [lt]
theorem lt_asymm {a b : Pr} (h : lt a b = true) : lt b a = false := by
  rw [lt_iff] at h; simp only [lt, decide_eq_false_iff_not]; omega
theorem lt_irrefl (a : Pr) : lt a a = false := by simp only [lt, decide_eq_false_iff_not]; omega
theorem le_trans {a b c : Pr} (h : lt b a = false) (k : lt c b = false) : lt c a = false := by
  simp only [lt, decide_eq_false_iff_not] at *; omega
theorem lt_le {a b c : Pr} (h : lt a b = true) (k : lt c b = false) : lt c a = false := le_trans (lt_asymm h) k
theorem le_anti {a b : Pr} (h : lt a b = false) (k : lt b a = false) : a = b := by
  simp only [lt, decide_eq_false_iff_not] at *; apply Prod.ext <;> omega

/-- The pair at a place. -/
def at' (L : List Pr) (i : Nat) : Pr := L.getD i (0, 0)
theorem at_get {L : List Pr} {i : Nat} (h : i < L.length) : L[i]? = some (at' L i) := by simp [at', List.getD_eq_getElem?_getD, h]
/-- Two places exchanged. -/
def swp (L : List Pr) (i j : Nat) : List Pr := (L.set i (at' L j)).set j (at' L i)
theorem swp_len (L : List Pr) (i j : Nat) : (swp L i j).length = L.length := by simp [swp]
theorem at_swp (L : List Pr) {i j : Nat} (hi : i < L.length) (hj : j < L.length) (k : Nat) : at' (swp L i j) k = if k = j then at' L i else if k = i then at' L j else at' L k := by
  unfold at' swp
  simp only [List.getD_eq_getElem?_getD, List.getElem?_set, List.length_set]
  by_cases h1 : k = j
  · subst h1; simp [hj, at', List.getD_eq_getElem?_getD]
  · rw [if_neg (Ne.symm h1), if_neg h1]
    by_cases h2 : k = i
    · subst h2; simp [hi, at', List.getD_eq_getElem?_getD]
    · rw [if_neg (Ne.symm h2), if_neg h2]
theorem swp_perm (L : List Pr) {i j : Nat} (hi : i < L.length) (hj : j < L.length) : (swp L i j).Perm L := by
  unfold swp
  have h1 : at' L i = L[i] := by simp [at', List.getD_eq_getElem?_getD, hi]
  have h2 : at' L j = L[j] := by simp [at', List.getD_eq_getElem?_getD, hj]
  rw [h1, h2]
  exact List.set_set_perm hi hj

/-- L' came out of L by exchanges among the first n. -/
structure Sw (n : Nat) (L L' : List Pr) : Prop where
  perm : L'.Perm L
  rest : ∀ k, n ≤ k → at' L' k = at' L k
theorem Sw.len {n : Nat} {L L' : List Pr} (h : Sw n L L') : L'.length = L.length := h.perm.length_eq
theorem Sw.refl (n : Nat) (L : List Pr) : Sw n L L := ⟨.refl _, fun _ _ => rfl⟩
theorem Sw.step {n : Nat} {L L' : List Pr} (h : Sw n L L') {i j : Nat} (hi : i < n) (hj : j < n) (hn : n ≤ L.length) : Sw n L (swp L' i j) := by
  have hl := h.len
  refine ⟨(swp_perm L' (by omega) (by omega)).trans h.perm, fun k hk => ?_⟩
  rw [at_swp L' (by omega) (by omega), if_neg (by omega), if_neg (by omega)]
  exact h.rest k hk
theorem Sw.trans {n : Nat} {L L' L'' : List Pr} (h : Sw n L L') (k : Sw n L' L'') : Sw n L L'' := ⟨k.perm.trans h.perm, fun i hi => (k.rest i hi).trans (h.rest i hi)⟩

def par (k : Nat) : Nat := (k - 1) / 2
/-- The pair at k is not below its parent. -/
def ok (L : List Pr) (k : Nat) : Prop := lt (at' L k) (at' L (par k)) = false
/-- The first n are a heap. -/
def Heap (L : List Pr) (n : Nat) : Prop := ∀ k, 0 < k → k < n → ok L k
/-- A heap but for what stands at i. -/
structure FixAt (L : List Pr) (n i : Nat) : Prop where
  edges : ∀ k, 0 < k → k < n → k ≠ i → par k ≠ i → ok L k
  over : ∀ k, 0 < k → k < n → par k = i → 0 < i → lt (at' L k) (at' L (par i)) = false
/-- What goes down from i0 is at i. -/
structure Down (L : List Pr) (n i0 i : Nat) : Prop where
  edges : ∀ k, 0 < k → k < n → par k ≠ i → (k ≠ i ∨ i ≠ i0) → ok L k
  over : ∀ k, 0 < k → k < n → par k = i → 0 < i → lt (at' L k) (at' L (par i)) = false
/-- What goes up is at j. -/
structure Up (L : List Pr) (n j : Nat) : Prop where
  edges : ∀ k, 0 < k → k < n → k ≠ j → ok L k
  over : ∀ k, 0 < k → k < n → par k = j → 0 < j → lt (at' L k) (at' L (par j)) = false

theorem FixAt.down {L : List Pr} {n i : Nat} (h : FixAt L n i) : Down L n i i := ⟨fun k h0 hn hp hk => h.edges k h0 hn (hk.resolve_right (by simp)) hp, h.over⟩

theorem par_lt {k : Nat} (h : 0 < k) : par k < k := by unfold par; omega
theorem Down.swap {L : List Pr} {n i0 i j : Nat} (h : Down L n i0 i) (hn : n ≤ L.length) (hi : i0 ≤ i) (hj : 0 < j) (hjn : j < n) (hp : par j = i) (hlt : lt (at' L j) (at' L i) = true)
    (hs : ∀ k, 0 < k → k < n → par k = i → lt (at' L k) (at' L j) = false) : Down (swp L i j) n i0 j := by
  have hij := par_lt hj
  have hsw := at_swp L (i := i) (j := j) (by omega) (by omega)
  refine ⟨fun k h0 hk hpk _ => ?_, fun k h0 hk hpk _ => ?_⟩
  · have hpl := par_lt h0
    unfold ok
    rw [hsw, hsw, if_neg hpk]
    by_cases e1 : k = j
    · subst e1
      rw [if_pos rfl, hp, if_pos rfl]
      exact lt_asymm hlt
    · rw [if_neg e1]
      by_cases e2 : par k = i
      · rw [if_pos e2, if_neg (by omega)]
        exact hs k h0 hk e2
      · rw [if_neg e2]
        by_cases e3 : k = i
        · subst e3
          rw [if_pos rfl]
          exact h.over j hj hjn hp h0
        · rw [if_neg e3]
          exact h.edges k h0 hk e2 (.inl e3)
  · have hpl := par_lt h0
    rw [hsw, hsw, hp, if_neg (by omega), if_neg (by omega), if_neg (by omega), if_pos rfl]
    have := h.edges k h0 hk (by omega) (.inl (by omega))
    unfold ok at this
    rwa [hpk] at this
theorem Down.stop_moved {L : List Pr} {n i0 i : Nat} (h : Down L n i0 i) (hi : i ≠ i0) (hs : ∀ k, 0 < k → k < n → par k = i → lt (at' L k) (at' L i) = false) : Heap L n := by
  intro k h0 hk
  by_cases e : par k = i
  · unfold ok; rw [e]; exact hs k h0 hk e
  · exact h.edges k h0 hk e (.inr hi)
theorem Down.stop_same {L : List Pr} {n i : Nat} (h : Down L n i i) (hs : ∀ k, 0 < k → k < n → par k = i → lt (at' L k) (at' L i) = false) : Up L n i := by
  refine ⟨fun k h0 hk hki => ?_, h.over⟩
  by_cases e : par k = i
  · unfold ok; rw [e]; exact hs k h0 hk e
  · exact h.edges k h0 hk e (.inl hki)
theorem Up.stop0 {L : List Pr} {n : Nat} (h : Up L n 0) : Heap L n := fun k h0 hk => h.edges k h0 hk (by omega)
theorem Up.stop {L : List Pr} {n j : Nat} (h : Up L n j) (hs : ok L j) : Heap L n := fun k h0 hk => by
  by_cases e : k = j
  · subst e; exact hs
  · exact h.edges k h0 hk e
theorem Up.swap {L : List Pr} {n j : Nat} (h : Up L n j) (hn : n ≤ L.length) (hj : 0 < j) (hjn : j < n) (hlt : lt (at' L j) (at' L (par j)) = true) : Up (swp L (par j) j) n (par j) := by
  have hij := par_lt hj
  have hsw := at_swp L (i := par j) (j := j) (by omega) (by omega)
  refine ⟨fun k h0 hk hki => ?_, fun k h0 hk hpk hi => ?_⟩
  · have hpl := par_lt h0
    unfold ok
    rw [hsw, hsw]
    by_cases e1 : k = j
    · subst e1
      rw [if_pos rfl, if_neg (by omega), if_pos rfl]
      exact lt_asymm hlt
    · rw [if_neg e1, if_neg hki]
      by_cases e2 : par k = j
      · rw [if_pos e2]; exact h.over k h0 hk e2 hj
      · rw [if_neg e2]
        by_cases e3 : par k = par j
        · rw [if_pos e3]
          have := h.edges k h0 hk e1
          unfold ok at this
          rw [e3] at this
          exact lt_le hlt this
        · rw [if_neg e3]; exact h.edges k h0 hk e1
  · have hpl := par_lt hi
    rw [hsw, hsw, if_neg (show ¬ par (par j) = j by omega), if_neg (show ¬ par (par j) = par j by omega)]
    have hi2 := h.edges (par j) hi (by omega) (by omega)
    unfold ok at hi2
    by_cases e1 : k = j
    · rw [if_pos e1]; exact hi2
    · have := par_lt h0
      rw [if_neg e1, if_neg (by omega)]
      have h3 := h.edges k h0 hk e1
      unfold ok at h3
      rw [hpk] at h3
      exact le_trans hi2 h3

/-- The first of a heap is the least. -/
theorem Heap.least {L : List Pr} {n : Nat} (h : Heap L n) : ∀ k, k < n → lt (at' L k) (at' L 0) = false := by
  intro k
  induction k using Nat.strongRecOn with
  | ind k ih =>
    intro hk
    by_cases e : k = 0
    · subst e; exact lt_irrefl _
    · have hp := par_lt (show 0 < k by omega)
      exact le_trans (ih (par k) hp (by omega)) (h k (by omega) hk)
/-- A heap one of whose pairs is replaced. -/
theorem Heap.fix {L L' : List Pr} {n i : Nat} (h : Heap L n) (hi : i < n) (hL : ∀ k, k < n → k ≠ i → at' L' k = at' L k) : FixAt L' n i := by
  refine ⟨fun k h0 hk h1 h2 => ?_, fun k h0 hk hp hi0 => ?_⟩
  · have := par_lt h0
    unfold ok
    rw [hL k hk h1, hL (par k) (by omega) h2]
    exact h k h0 hk
  · have := par_lt h0
    have := par_lt hi0
    rw [hL k hk (by omega), hL (par i) (by omega) (by omega)]
    have a := h k h0 hk
    have b := h i hi0 hi
    unfold ok at a b
    rw [hp] at a
    exact le_trans b a
theorem Heap.push {L : List Pr} (h : Heap L L.length) (p : Pr) : Up (L ++ [p]) (L ++ [p]).length L.length := by
  have hat : ∀ k, k < L.length → at' (L ++ [p]) k = at' L k := fun k hk => by unfold at'; simp [List.getD_eq_getElem?_getD, List.getElem?_append_left hk]
  refine ⟨fun k h0 hk h1 => ?_, fun k h0 hk hp hi0 => ?_⟩
  · simp at hk
    have := par_lt h0
    unfold ok
    rw [hat k (by omega), hat _ (by omega)]
    exact h k h0 (by omega)
  · simp at hk
    have := par_lt h0
    omega
end Go.Proofs.YtojkdmkeankcgaaGreat.Qu
/-  The notions that the contracts of queue go by: what a call may have turned, the map of places, the row of pairs, an order in memory. -/
namespace Go.Proofs.YtojkdmkeankcgaaGreat.Qu
open Go.RowKit Go.Maps

/-- From w to w' nothing that was there has turned but blocks of S. -/
structure Fr (S : Nat → Prop) (w w' : World) : Prop where
  os : w'.os = w.os
  tape : w'.tape = w.tape
  output : w'.output = w.output
  size : w.heap.size ≤ w'.heap.size
  block : ∀ k, k < w.heap.size → ¬ S k → w'.heap[k]? = w.heap[k]?
theorem Fr.refl (S : Nat → Prop) (w : World) : Fr S w w := ⟨rfl, rfl, rfl, Nat.le_refl _, fun _ _ _ => rfl⟩
theorem Fr.trans {S T : Nat → Prop} {w w1 w2 : World} (h : Fr S w w1) (k : Fr T w1 w2) (hT : ∀ i, T i → S i ∨ w.heap.size ≤ i) : Fr S w w2 :=
  ⟨k.os.trans h.os, k.tape.trans h.tape, k.output.trans h.output, Nat.le_trans h.size k.size, fun i hi hS => by
    rw [k.block i (Nat.lt_of_lt_of_le hi h.size) (fun ht => by rcases hT i ht with a | a; exact hS a; omega), h.block i hi hS]⟩
theorem Fr.trans0 {S : Nat → Prop} {w w1 w2 : World} (h : Fr S w w1) (k : Fr S w1 w2) : Fr S w w2 := h.trans k (fun _ h => .inl h)
theorem drewN_heap (w : World) (n : Nat) : (w.drewN n).heap = w.heap := by
  induction n with
  | zero => rfl
  | succ n ih => exact ih
theorem Fr.drewN {S : Nat → Prop} {a w : World} (h : Fr S a w) (n : Nat) : Fr S a (w.drewN n) := h.trans0 ⟨rfl, rfl, rfl, Nat.le_refl _, fun _ _ _ => by rw [drewN_heap]⟩
theorem Fr.drew {S : Nat → Prop} {a w : World} (h : Fr S a w) : Fr S a w.drew := h.drewN 1
theorem Fr.alloc {S : Nat → Prop} {a w : World} (h : Fr S a w) (b : Obj) : Fr S a (w.alloc b) := h.trans0 ⟨rfl, rfl, rfl, by simp, fun k hk _ => Below.heap_alloc w b k hk⟩
theorem Fr.setCell {S : Nat → Prop} {a w : World} (h : Fr S a w) (p : Addr) (v : Value) (hp : S p.block ∨ a.heap.size ≤ p.block) : Fr S a (w.setCell p v) :=
  ⟨h.os, h.tape, h.output, by simpa [World.setCell] using h.size, fun k hk hS => by
    rw [heap_setCell_other w p k v (fun e => by subst e; rcases hp with a | a; exact hS a; omega)]; exact h.block k hk hS⟩
theorem Fr.below {S : Nat → Prop} {w w' : World} {B : Nat} (h : Fr S w w') (hB : B ≤ w.heap.size) (hS : ∀ k, S k → B ≤ k) : Below B w w' :=
  ⟨h.os, h.tape, h.output, h.size, fun k hk => h.block k (by omega) (fun a => by have := hS k a; omega)⟩
theorem Fr.of_below {S : Nat → Prop} {w w' : World} (h : Below w.heap.size w w') : Fr S w w' := ⟨h.os, h.tape, h.output, h.size, fun k hk _ => h.block k hk⟩
theorem Fr.of_grown {S : Nat → Prop} {w w' : World} {o : Option Nat} (h : w.grownBy w' o) (ho : ∀ k, o = some k → S k) : Fr S w w' :=
  ⟨h.os, h.tape, h.output, h.size, fun k hk hS => h.block k hk (fun e => hS (ho k e.symm))⟩
theorem Fr.mono {S T : Nat → Prop} {w w' : World} (h : Fr S w w') (hT : ∀ k, S k → T k) : Fr T w w' := ⟨h.os, h.tape, h.output, h.size, fun k hk hS => h.block k hk (fun a => hS (hT k a))⟩

def I64 (x : Int) : Prop := -9223372036854775808 ≤ x ∧ x ≤ 9223372036854775807
theorem I64.wf {x : Int} (h : I64 x) : (Lit.int .i64 x).wf = true := WalkArith.wf_i64 h

/-! ### the map of places -/
theorem law : Keyed Tryz.prog 3 := int_keyed Tryz.underlying3
theorem zero3 (w : World) : (zeroValue 3).run Tryz.prog w = .ok (.int .i64 0) w := by kernel_rfl
def ki (x : Int) : Lit := .int .i64 x
def dI (x : Int) : DataW Unit := .lit (.int .i64 x)
theorem keyOf3 {x : Int} (h : I64 x) : keyOf Tryz.prog 3 (.int .i64 x) = some (ki x) := keyOf_int_mk Tryz.underlying3 h.wf
theorem ki_ne {x y : Int} (h : x ≠ y) : ki x ≠ ki y := fun e => h (by unfold ki at e; simpa using e)
theorem ki_key (x : Int) : WideAt.IsKeyLit (ki x) := trivial
abbrev OwnI (w : World) (mb n : Nat) (D : DataW Unit) : Prop := w.ownsMap Tryz.prog 3 (plainElem Tryz.prog 3) mb n D
theorem OwnI.tight {w : World} {mb n : Nat} {D : DataW Unit} (h : OwnI w mb n D) : OwnI w mb (Maps.size D) D := by
  obtain ⟨es, clock, hb, F, hs, rfl⟩ := h
  exact ⟨es, clock, hb, F, by simp [Maps.size, length_sorted], rfl⟩
/-- D holds the places of M's items. -/
structure Pl (D : DataW Unit) (M : List Pr) : Prop where
  here : ∀ i, i < M.length → Maps.has D (ki (at' M i).1) = true ∧ D.atKey (ki (at' M i).1) (dI 0) = dI i
  none : ∀ x, (∀ i, i < M.length → (at' M i).1 ≠ x) → Maps.has D (ki x) = false
  size : Maps.size D = M.length
theorem Pl.inj {D : DataW Unit} {M : List Pr} (h : Pl D M) {i j : Nat} (hi : i < M.length) (hj : j < M.length) (e : (at' M i).1 = (at' M j).1) : i = j := by
  have a := (h.here i hi).2
  rw [e, (h.here j hj).2] at a
  unfold dI at a
  simp at a
  omega
def MapIs (w : World) (mb : Nat) (M : List Pr) : Prop := ∃ D, OwnI w mb M.length D ∧ Pl D M
theorem MapIs.kept {w w' : World} {mb : Nat} {M : List Pr} {S : Nat → Prop} (h : MapIs w mb M) (f : Fr S w w') (hs : ¬ S mb) : MapIs w' mb M := by
  obtain ⟨D, hD, hp⟩ := h
  have hlt := hD.lt
  obtain ⟨es, clock, hb, F, hs2, hD⟩ := hD
  exact ⟨D, ⟨es, clock, (f.block mb hlt hs).trans hb, F, hs2, hD⟩, hp⟩
theorem MapIs.of_block {w w' : World} {mb : Nat} {M : List Pr} (h : MapIs w mb M) (e : w'.heap[mb]? = w.heap[mb]?) : MapIs w' mb M := by
  obtain ⟨D, ⟨es, clock, hb, F, hs2, hD⟩, hp⟩ := h
  exact ⟨D, ⟨es, clock, e.trans hb, F, hs2, hD⟩, hp⟩
theorem MapIs.isMap {w : World} {mb : Nat} {M : List Pr} (h : MapIs w mb M) : ∃ es clock, w.heap[mb]? = some (.map es clock) := by
  obtain ⟨D, ⟨es, clock, hb, _⟩, _⟩ := h
  exact ⟨es, clock, hb⟩

/-! ### the row of pairs -/
def cellsOf (p : Pr) : List Value := [.int .i64 p.1, .int .i64 p.2]
def flat (L : List Pr) : List Value := L.flatMap cellsOf
theorem flat_len : ∀ L : List Pr, (flat L).length = L.length * 2
  | [] => rfl
  | p :: r => by rw [show flat (p :: r) = cellsOf p ++ flat r from rfl, List.length_append, flat_len r]; simp [cellsOf]; omega
theorem flat_app (L M : List Pr) : flat (L ++ M) = flat L ++ flat M := by simp [flat]
theorem flat_get : ∀ (L : List Pr) (i : Nat), i < L.length → (flat L)[i * 2]? = some (.int .i64 (at' L i).1) ∧ (flat L)[i * 2 + 1]? = some (.int .i64 (at' L i).2)
  | [], _, h => by simp at h
  | p :: r, 0, _ => by simp [flat, cellsOf, at']
  | p :: r, i + 1, h => by
    have := flat_get r i (by simpa using h)
    rw [show flat (p :: r) = cellsOf p ++ flat r from rfl]
    have e1 : (i + 1) * 2 = (i * 2) + 2 := by omega
    have e2 : (i + 1) * 2 + 1 = (i * 2 + 1) + 2 := by omega
    rw [e1, show i * 2 + 2 + 1 = (i * 2 + 1) + 2 by omega]
    have ha : at' (p :: r) (i + 1) = at' r i := by simp [at']
    rw [ha]
    exact ⟨by simpa [cellsOf] using this.1, by simpa [cellsOf] using this.2⟩
theorem flat_set : ∀ (L : List Pr) (i : Nat) (p : Pr), i < L.length → ((flat L).set (i * 2) (.int .i64 p.1)).set (i * 2 + 1) (.int .i64 p.2) = flat (L.set i p)
  | [], _, _, h => by simp at h
  | q :: r, 0, p, _ => by simp [flat, cellsOf]
  | q :: r, i + 1, p, h => by
    have := flat_set r i p (by simpa using h)
    rw [show flat (q :: r) = cellsOf q ++ flat r from rfl, show (q :: r).set (i + 1) p = q :: r.set i p from rfl, show flat (q :: r.set i p) = cellsOf q ++ flat (r.set i p) from rfl, ← this]
    rw [show (i + 1) * 2 = i * 2 + 2 by omega, show i * 2 + 2 + 1 = (i * 2 + 1) + 2 by omega]
    simp [cellsOf]
def Row (w : World) (v : Value) (L : List Pr) : Prop := w.ownsRow 0 143 2 v L.length (flat L)
theorem Row.of_block {w w' : World} {v : Value} {L : List Pr} (h : Row w v L) (e : ∀ g, v.ownBlock = some g → w'.heap[g]? = w.heap[g]?) : Row w' v L := by
  obtain ⟨h1, h2⟩ := h
  refine ⟨h1, ?_⟩
  rcases h2 with h2 | ⟨g, cap, cur, rfl, a, hb, r⟩
  · exact .inl h2
  · exact .inr ⟨g, cap, cur, rfl, a, (e g rfl).trans hb, r⟩
theorem Row.nonempty {w : World} {v : Value} {L : List Pr} (h : Row w v L) (hl : 0 < L.length) : ∃ g cap, v = .slice (some ⟨g, 0, none⟩) L.length cap ∧ L.length ≤ cap ∧ cap ≤ 9223372036854775807 := by
  rcases h.2 with ⟨_, h2⟩ | ⟨g, cap, cur, rfl, _, _, h3, h4, _⟩
  · omega
  · exact ⟨g, cap, rfl, h3, by unfold maxLen at h4; omega⟩
theorem Row.shape {w : World} {v : Value} {L : List Pr} (h : Row w v L) : ∃ a cap, v = .slice a L.length cap ∧ L.length ≤ cap ∧ cap ≤ 9223372036854775807 := by
  rcases h.2 with ⟨rfl, h2⟩ | ⟨g, cap, cur, rfl, _, _, h3, h4, _⟩
  · exact ⟨none, 0, by rw [h2], by omega, by omega⟩
  · exact ⟨_, cap, rfl, h3, by unfold maxLen at h4; omega⟩
theorem add0 (g j : Nat) : (⟨g, 0, none⟩ : Addr).add j = ⟨g, j, none⟩ := by
  unfold Addr.add
  split
  · rename_i h; subst h; rfl
  · simp
theorem Row.cells {w : World} {g n cap : Nat} {L : List Pr} (h : Row w (.slice (some ⟨g, 0, none⟩) n cap) L) (i : Nat) (hi : i < L.length) :
    w.cell? ⟨g, i * 2, none⟩ = some (.int .i64 (at' L i).1) ∧ w.cell? ⟨g, i * 2 + 1, none⟩ = some (.int .i64 (at' L i).2) := by
  have h1 : ∀ j u, (flat L)[j]? = some u → w.cell? ((⟨g, 0, none⟩ : Addr).add j) = some u := World.ownsRow.cells (g := g) h rfl
  have h2 := flat_get L i hi
  have a := h1 _ _ h2.1
  have b := h1 _ _ h2.2
  rw [add0] at a b
  exact ⟨a, b⟩
theorem Row.blk {w : World} {g n cap : Nat} {L : List Pr} (h : Row w (.slice (some ⟨g, 0, none⟩) n cap) L) : ∃ cur, w.heap[g]? = some (.cells cur 143 (0, 0)) := by
  rcases h.2 with ⟨h2, _⟩ | ⟨g2, cap2, cur, e, _, hb, _⟩
  · cases h2
  · cases e; exact ⟨cur, hb⟩
theorem Row.frozen {w : World} {g n cap : Nat} {L : List Pr} (h : Row w (.slice (some ⟨g, 0, none⟩) n cap) L) (i : Nat) : w.frozen? ⟨g, i, none⟩ = false := by
  obtain ⟨cur, hb⟩ := h.blk
  exact frozen_of_row w g i _ _ hb
theorem own_set {w : World} {g n cap j : Nat} {xs : List Value} (h : w.ownsRow 0 143 2 (.slice (some ⟨g, 0, none⟩) n cap) n xs) (u : Value) : (w.setCell ⟨g, j, none⟩ u).ownsRow 0 143 2 (.slice (some ⟨g, 0, none⟩) n cap) n (xs.set j u) := by
  obtain ⟨h1, h2⟩ := h
  refine ⟨by simpa using h1, ?_⟩
  rcases h2 with ⟨h2, _⟩ | ⟨g2, cap2, cur, e, a, hb, r1, r2, r3, r4⟩
  · cases h2
  · cases e
    refine .inr ⟨g, cap, cur.setIfInBounds j u, rfl, a, heap_setCell_same w g j _ _ u hb, r1, r2, by simpa using r3, ?_⟩
    rw [← r4, Array.toList_setIfInBounds, List.take_set]
theorem Row.set {w : World} {g n cap : Nat} {L : List Pr} (h : Row w (.slice (some ⟨g, 0, none⟩) n cap) L) (i : Nat) (hi : i < L.length) (p : Pr) :
    Row ((w.setCell ⟨g, i * 2, none⟩ (.int .i64 p.1)).setCell ⟨g, i * 2 + 1, none⟩ (.int .i64 p.2)) (.slice (some ⟨g, 0, none⟩) n cap) (L.set i p) := by
  have hn : n = L.length := by
    rcases h.2 with ⟨h2, _⟩ | ⟨g2, cap2, cur, e, _⟩
    · cases h2
    · cases e; rfl
  subst hn
  unfold Row
  rw [← flat_set L i p hi, List.length_set]
  exact own_set (own_set h _) _
/-- An order in memory: L the row's pairs, M those whose places the map holds. -/
structure Ord (w : World) (ob mb : Nat) (v : Value) (L M : List Pr) (S : Nat → Prop) : Prop where
  blk : w.heap[ob]? = some (.cells #[v, .map (some mb)] 115 (0, 0))
  row : Row w v L
  map : MapIs w mb M
  so : S ob
  sm : S mb
  sr : ∀ g, v.ownBlock = some g → S g
  lt : ∀ k, S k → k < w.heap.size
  wf : ∀ i, i < L.length → I64 (at' L i).1 ∧ I64 (at' L i).2
  len : L.length ≤ 4096
section
variable {w w' : World} {ob mb : Nat} {v : Value} {L M : List Pr} {S : Nat → Prop}
theorem Ord.c0 (h : Ord w ob mb v L M S) : w.cell? ⟨ob, 0, none⟩ = some v := by rw [cell_of_row w ob 0 _ _ _ h.blk]; rfl
theorem Ord.c1 (h : Ord w ob mb v L M S) : w.cell? ⟨ob, 1, none⟩ = some (.map (some mb)) := by rw [cell_of_row w ob 1 _ _ _ h.blk]; rfl
theorem Ord.f (h : Ord w ob mb v L M S) (i : Nat) : w.frozen? ⟨ob, i, none⟩ = false := frozen_of_row w ob i _ _ h.blk
theorem Ord.mo (h : Ord w ob mb v L M S) : mb ≠ ob := by
  obtain ⟨es, clock, hm⟩ := h.map.isMap
  intro e
  have hb := h.blk
  rw [← e, hm] at hb
  cases hb
theorem Ord.mg (h : Ord w ob mb v L M S) {g : Nat} (e : v.ownBlock = some g) : mb ≠ g := by
  obtain ⟨es, clock, hm⟩ := h.map.isMap
  intro e2
  rcases h.row.2 with ⟨rfl, _⟩ | ⟨g2, cap, cur, rfl, _, hb, _⟩
  · cases e
  · have e3 : g2 = g := by simpa [Value.ownBlock] using e
    rw [e3, ← e2, hm] at hb
    cases hb
theorem Ord.og (h : Ord w ob mb v L M S) {g : Nat} (e : v.ownBlock = some g) : ob ≠ g := by
  intro e2
  have ho := h.blk
  rcases h.row.2 with ⟨rfl, _⟩ | ⟨g2, cap, cur, rfl, _, hb, _⟩
  · cases e
  · have e3 : g2 = g := by simpa [Value.ownBlock] using e
    rw [e3, ← e2, ho] at hb
    simp at hb
theorem Ord.later (h : Ord w ob mb v L M S) (f : Below w.heap.size w w') : Ord w' ob mb v L M S :=
  ⟨(f.block ob (h.lt _ h.so)).trans h.blk, h.row.of_block (fun g e => f.block g (h.lt _ (h.sr g e))), h.map.of_block (f.block mb (h.lt _ h.sm)), h.so, h.sm, h.sr, fun k hk => Nat.lt_of_lt_of_le (h.lt k hk) f.size, h.wf, h.len⟩
theorem Ord.fr {T : Nat → Prop} (h : Ord w ob mb v L M S) (f : Fr T w w') (d : ∀ k, S k → ¬ T k) : Ord w' ob mb v L M S :=
  ⟨(f.block ob (h.lt _ h.so) (d _ h.so)).trans h.blk, h.row.of_block (fun g e => f.block g (h.lt _ (h.sr g e)) (d _ (h.sr g e))), h.map.of_block (f.block mb (h.lt _ h.sm) (d _ h.sm)), h.so, h.sm, h.sr, fun k hk => Nat.lt_of_lt_of_le (h.lt k hk) f.size, h.wf, h.len⟩
end
end Go.Proofs.YtojkdmkeankcgaaGreat.Qu
/-  What the calls of the order's Len and Less do. -/
namespace Go.Proofs.YtojkdmkeankcgaaGreat.Qu
open Go.RowKit Go.Maps

section
variable {w : World} {ob mb : Nat} {v : Value} {L M : List Pr} {S : Nat → Prop}
theorem len_any (h : Ord w ob mb v L M S) : Calls Tryz.prog 100 #[.pointer (some ⟨ob, 0, none⟩)] w fun e w' => e = .returned (.int .i64 L.length) ∧ w' = w := by
  have c0 := h.c0
  obtain ⟨a, cap, rfl, h1, h2⟩ := h.row.shape
  go_enter Tryz.func100, Tryz.ntmps100
  go_wp2
  go_ret
  exact ⟨rfl, rfl⟩

set_option maxRecDepth 100000 in
set_option maxHeartbeats 800000 in
theorem less_any (h : Ord w ob mb v L M S) (i j : Nat) (hi : i < L.length) (hj : j < L.length) :
    Calls Tryz.prog 152 #[.pointer (some ⟨ob, 0, none⟩), .int .i64 i, .int .i64 j] w fun e w' => e = .returned (.bool (lt (at' L i) (at' L j))) ∧ Below w.heap.size w w' := by
  have o0 := h.c0
  obtain ⟨g, cap, rfl, h1, h2⟩ := h.row.nonempty (by omega)
  obtain ⟨a0, a1⟩ := h.row.cells i hi
  obtain ⟨b0, b1⟩ := h.row.cells j hj
  have hl := h.len
  have ho : ob < w.heap.size := h.lt _ h.so
  have hgg : g < w.heap.size := h.lt _ (h.sr g rfl)
  have HL : Hid (lt (at' L i) (at' L j) = decide ((at' L i).2 < (at' L j).2 ∨ (at' L i).2 = (at' L j).2 ∧ (at' L i).1 < (at' L j).1)) := rfl
  obtain ⟨p, hp⟩ : ∃ p, at' L i = p := ⟨_, rfl⟩
  obtain ⟨q, hq⟩ : ∃ q, at' L j = q := ⟨_, rfl⟩
  rw [hp] at a0 a1
  rw [hq] at b0 b1
  have HR : Hid (lt (at' L i) (at' L j) = lt p q) := by rw [hp, hq]; exact rfl
  obtain ⟨x, k⟩ := p
  obtain ⟨y, l⟩ := q
  simp only at a0 a1 b0 b1
  clear hp hq HL h
  have g1 : ¬ w.heap.size = g := by omega
  have g2 : ¬ w.heap.size + 1 = g := by omega
  have g3 : ¬ w.heap.size = ob := by omega
  have g4 : ¬ w.heap.size + 1 = ob := by omega
  have i1 : (i : Int) < (L.length : Int) := by omega
  have j1 : (j : Int) < (L.length : Int) := by omega
  clear ho hgg hi hj
  go_enter Tryz.func152, Tryz.ntmps152
  go_wp2
  go_region_held (fun w' => w'.cell? ⟨ob, 0, none⟩ = some (.slice (some ⟨g, 0, none⟩) L.length cap) ∧ w'.cell? ⟨g, i * 2, none⟩ = some (.int .i64 x) ∧ w'.cell? ⟨g, i * 2 + 1, none⟩ = some (.int .i64 k) ∧ w'.cell? ⟨g, j * 2, none⟩ = some (.int .i64 y) ∧ w'.cell? ⟨g, j * 2 + 1, none⟩ = some (.int .i64 l)) (go_keep) (fail)
  all_goals
    go_wp2
    all_goals
      rename_i hk
      go_ret
      refine ⟨?_, (((Below.refl _ _).alloc (Nat.le_refl _) _).alloc (by simp) _).drew⟩
      rw [HR.out]
      simp at hk
      simp [lt, hk]
end
end Go.Proofs.YtojkdmkeankcgaaGreat.Qu
/-  What the call of the order's Swap does. -/
namespace Go.Proofs.YtojkdmkeankcgaaGreat.Qu
open Go.RowKit Go.Maps

section
variable {w : World} {ob mb : Nat} {v : Value} {L : List Pr} {S : Nat → Prop}

theorem Pl.swap {D : DataW Unit} (h : Pl D L) (ht : Tidy D) {i j : Nat} (hi : i < L.length) (hj : j < L.length) (hij : i ≠ j) :
    Pl ((D.put (ki (at' L j).1) (dI i)).put (ki (at' L i).1) (dI j)) (swp L i j) := by
  have hsw := at_swp L hi hj
  have hn : (at' L j).1 ≠ (at' L i).1 := fun e => hij (h.inj hi hj e.symm)
  have hm := ht.isMap
  refine ⟨fun k hk => ?_, fun x hx => ?_, ?_⟩
  · rw [swp_len] at hk
    rw [hsw]
    by_cases e1 : k = j
    · rw [if_pos e1]
      exact ⟨has_put_same (hm.put _ _) (ki_key _) _, by rw [atKey_put_same (hm.put _ _) (ki_key _), e1]⟩
    · rw [if_neg e1]
      by_cases e2 : k = i
      · rw [if_pos e2]
        exact ⟨by rw [has_put_other (ki_ne hn)]; exact has_put_same hm (ki_key _) _, by rw [atKey_put_other (ki_ne hn), atKey_put_same hm (ki_key _), e2]⟩
      · rw [if_neg e2]
        have n1 : (at' L k).1 ≠ (at' L i).1 := fun e => e2 (h.inj hk hi e)
        have n2 : (at' L k).1 ≠ (at' L j).1 := fun e => e1 (h.inj hk hj e)
        rw [has_put_other (ki_ne n1), has_put_other (ki_ne n2), atKey_put_other (ki_ne n1), atKey_put_other (ki_ne n2)]
        exact h.here k hk
  · rw [swp_len] at hx
    have n1 : x ≠ (at' L i).1 := by have := hx j hj; rw [hsw, if_pos rfl] at this; exact this.symm
    have n2 : x ≠ (at' L j).1 := by have := hx i hi; rw [hsw, if_neg hij, if_pos rfl] at this; exact this.symm
    rw [has_put_other (ki_ne n1), has_put_other (ki_ne n2)]
    refine h.none x fun k hk e => ?_
    by_cases e1 : k = j
    · subst e1; exact n2 e.symm
    · by_cases e2 : k = i
      · subst e2; exact n1 e.symm
      · have := hx k hk
        rw [hsw, if_neg e1, if_neg e2] at this
        exact this e
  · have a := (h.here j hj).1
    have b := (h.here i hi).1
    have t1 : Tidy (D.put (ki (at' L j).1) (dI i)) := ht.put (ki_key _) _
    rw [size_put t1, size_put ht, has_put_other (ki_ne hn.symm), a, b, swp_len]
    simpa using h.size
theorem set_swp {i j : Nat} {p q : Pr} (hp : at' L i = p) (hq : at' L j = q) : (L.set i q).set j p = swp L i j := by rw [← hp, ← hq]; rfl

set_option maxRecDepth 100000 in
set_option maxHeartbeats 1600000 in
theorem swap_any (h : Ord w ob mb v L L S) (i j : Nat) (hi : i < L.length) (hj : j < L.length) (hij : i ≠ j) :
    Calls Tryz.prog 155 #[.pointer (some ⟨ob, 0, none⟩), .int .i64 i, .int .i64 j] w fun e w' => e = .returned (.tuple #[]) ∧ Ord w' ob mb v (swp L i j) (swp L i j) S ∧ Fr S w w' := by
  have o0 := h.c0
  have o1 := h.c1
  have HO : Hid (Ord w ob mb v L L S) := h
  obtain ⟨g, cap, rfl, h1, h2⟩ := h.row.nonempty (by omega)
  obtain ⟨a0, a1⟩ := h.row.cells i hi
  obtain ⟨b0, b1⟩ := h.row.cells j hj
  have za := h.row.frozen (i * 2)
  have za1 := h.row.frozen (i * 2 + 1)
  have zb := h.row.frozen (j * 2)
  have zb1 := h.row.frozen (j * 2 + 1)
  have hl := h.len
  have hgo : ¬ g = ob := (h.og rfl).symm
  obtain ⟨p, hp⟩ : ∃ p, at' L i = p := ⟨_, rfl⟩
  obtain ⟨q, hq⟩ : ∃ q, at' L j = q := ⟨_, rfl⟩
  rw [hp] at a0 a1
  rw [hq] at b0 b1
  have HP : Hid (at' L i = p) := hp
  have HQ : Hid (at' L j = q) := hq
  obtain ⟨x, k⟩ := p
  obtain ⟨y, l⟩ := q
  simp only at a0 a1 b0 b1
  clear hp hq h
  have i1 : (i : Int) < (L.length : Int) := by omega
  have j1 : (j : Int) < (L.length : Int) := by omega
  have n1 : ¬ i * 2 = j * 2 := by omega
  have n2 : ¬ i * 2 + 1 = j * 2 := by omega
  have n3 : ¬ i * 2 = j * 2 + 1 := by omega
  have n4 : ¬ j * 2 = i * 2 := by omega
  have n5 : ¬ j * 2 + 1 = i * 2 := by omega
  have n6 : ¬ j * 2 = i * 2 + 1 := by omega
  clear hi hj hij
  go_enter Tryz.func155, Tryz.ntmps155
  go_wp2
  go_region
  have HI := HP.out; have HJ := HQ.out
  have hi : i < L.length := by omega
  have hj : j < L.length := by omega
  have hij : i ≠ j := by omega
  have HO2 := HO.out
  have hrow0 := ((HO2.row.set i hi (y, l)).set j (by simpa using hj) (x, k))
  rw [set_swp HI HJ] at hrow0
  have hF0 := (((((Fr.refl S w).setCell ⟨g, i * 2, none⟩ (.int .i64 y) (.inl (HO2.sr g rfl))).setCell ⟨g, i * 2 + 1, none⟩ (.int .i64 l) (.inl (HO2.sr g rfl))).setCell ⟨g, j * 2, none⟩ (.int .i64 x) (.inl (HO2.sr g rfl))).setCell ⟨g, j * 2 + 1, none⟩ (.int .i64 k) (.inl (HO2.sr g rfl))).drew
  have hgm : mb ≠ g := HO2.mg rfl
  have hom : mb ≠ ob := HO2.mo
  have hblk : ∀ b, b ≠ g → ((((w.setCell ⟨g, i * 2, none⟩ (.int .i64 y)).setCell ⟨g, i * 2 + 1, none⟩ (.int .i64 l)).setCell ⟨g, j * 2, none⟩ (.int .i64 x)).setCell ⟨g, j * 2 + 1, none⟩ (.int .i64 k)).drew.heap[b]? = w.heap[b]? := by
    intro b hb
    show ((((w.setCell ⟨g, i * 2, none⟩ (.int .i64 y)).setCell ⟨g, i * 2 + 1, none⟩ (.int .i64 l)).setCell ⟨g, j * 2, none⟩ (.int .i64 x)).setCell ⟨g, j * 2 + 1, none⟩ (.int .i64 k)).heap[b]? = _
    rw [heap_setCell_other _ _ b _ hb, heap_setCell_other _ _ b _ hb, heap_setCell_other _ _ b _ hb, heap_setCell_other _ _ b _ hb]
  have hrow : Row (((((w.setCell ⟨g, i * 2, none⟩ (.int .i64 y)).setCell ⟨g, i * 2 + 1, none⟩ (.int .i64 l)).setCell ⟨g, j * 2, none⟩ (.int .i64 x)).setCell ⟨g, j * 2 + 1, none⟩ (.int .i64 k)).drew) (.slice (some ⟨g, 0, none⟩) L.length cap) (swp L i j) := hrow0
  generalize hW : (((((w.setCell ⟨g, i * 2, none⟩ (.int .i64 y)).setCell ⟨g, i * 2 + 1, none⟩ (.int .i64 l)).setCell ⟨g, j * 2, none⟩ (.int .i64 x)).setCell ⟨g, j * 2 + 1, none⟩ (.int .i64 k)).drew) = W1 at hrow hF0 hblk ⊢
  clear hW a0 a1 b0 b1 za za1 zb zb1 hrow0
  obtain ⟨D, hD, hPl⟩ := HO2.map
  have hT := hD.tidy law
  obtain ⟨es, clock, hmb, hDr⟩ := hD
  have hD1 : OwnI W1 mb L.length D := ⟨es, clock, (hblk mb hgm).trans hmb, hDr⟩
  have hwx := (HO2.wf i hi).1
  have hwy := (HO2.wf j hj).1
  rw [HI] at hwx
  rw [HJ] at hwy
  have hw1 : ∀ n : Nat, n ≤ 4096 → I64 (n : Int) := fun n hn => ⟨by omega, by omega⟩
  have q0 : W1.cell? ⟨ob, 0, none⟩ = some (.slice (some ⟨g, 0, none⟩) L.length cap) := by rw [World.cell?_of_block (w := w) (hblk ob (Ne.symm hgo))]; exact o0
  have q1 : W1.cell? ⟨ob, 1, none⟩ = some (.map (some mb)) := by rw [World.cell?_of_block (w := w) (hblk ob (Ne.symm hgo))]; exact o1
  have hsw := at_swp L hi hj
  have q2 := (hrow.cells i (by rw [swp_len]; exact hi)).1
  have q3 := (hrow.cells j (by rw [swp_len]; exact hj)).1
  rw [hsw, if_neg hij, if_pos rfl, HJ] at q2
  rw [hsw, if_pos rfl, HI] at q3
  simp only at q2 q3
  obtain ⟨W2, hrun, hD2, hturn⟩ := World.ownsMap.store (w := W1.drew) (t := 112) (e := 3) hD1 law Tryz.underlying112 (by unfold maxLen; omega) (keyOf3 hwy) (plainElem_int Tryz.underlying3 (hw1 i (by omega)).wf)
  have hg2 := hturn.grown
  have hb2 : ∀ b, S b → b ≠ mb → W2.heap[b]? = W1.heap[b]? := fun b hs hb => hg2.block b (by have := HO2.lt _ hs; have := hF0.size; show b < W1.heap.size; omega) (by simp; exact hb)
  have r0 : W2.cell? ⟨ob, 0, none⟩ = some (.slice (some ⟨g, 0, none⟩) L.length cap) := by rw [World.cell?_of_block (w := W1) (hb2 ob HO2.so hom.symm)]; exact q0
  have r1 : W2.cell? ⟨ob, 1, none⟩ = some (.map (some mb)) := by rw [World.cell?_of_block (w := W1) (hb2 ob HO2.so hom.symm)]; exact q1
  have r3 : W2.cell? ⟨g, j * 2, none⟩ = some (.int .i64 x) := by rw [World.cell?_of_block (w := W1) (hb2 g (HO2.sr g rfl) hgm.symm)]; exact q3
  obtain ⟨W3, hrun3, hD3, hturn3⟩ := World.ownsMap.store (w := W2.drew) (t := 112) (e := 3) hD2 law Tryz.underlying112 (by unfold maxLen; omega) (keyOf3 hwx) (plainElem_int Tryz.underlying3 (hw1 j (by omega)).wf)
  have hg3 := hturn3.grown
  have hb3 : ∀ b, S b → b ≠ mb → W3.heap[b]? = W1.heap[b]? := fun b hs hb => (hg3.block b (by have := HO2.lt _ hs; have := hF0.size; have := hg2.size; show b < W2.heap.size; simp at *; omega) (by simp; exact hb)).trans (hb2 b hs hb)
  have HE : Hid (Ord W3 ob mb (.slice (some ⟨g, 0, none⟩) L.length cap) (swp L i j) (swp L i j) S ∧ Fr S w W3) := by
    have hfr : Fr S w W3 := (hF0.drew.trans0 (Fr.of_grown hg2 (fun k e => by cases e; exact HO2.sm))).drew.trans0 (Fr.of_grown hg3 (fun k e => by cases e; exact HO2.sm))
    have hpl := hPl.swap hT hi hj hij
    rw [HI, HJ] at hpl
    refine ⟨⟨(hb3 ob HO2.so hom.symm).trans ((hblk ob (Ne.symm hgo)).trans HO2.blk), hrow.of_block (fun b e => by cases e; exact hb3 g (HO2.sr g rfl) hgm.symm), ⟨_, ?_, hpl⟩, HO2.so, HO2.sm, HO2.sr, fun k hk => Nat.lt_of_lt_of_le (HO2.lt k hk) hfr.size, fun k hk => ?_, by rw [swp_len]; exact HO2.len⟩, hfr⟩
    · exact World.ownsMap.mono (n' := (swp L i j).length) (OwnI.tight hD3) (Nat.le_of_eq hpl.size)
    · rw [swp_len] at hk
      rw [hsw]
      split
      · exact HO2.wf i hi
      · split
        · exact HO2.wf j hj
        · exact HO2.wf k hk
  clear hD1 hD2 hD3 hPl hturn hturn3 hg2 hg3 hb2 hb3 hsw hw1 hblk hF0 hrow HO2
  go_wp2
  go_region
  go_wp2
  go_region
  go_end0
  exact ⟨rfl, HE.out⟩
end
end Go.Proofs.YtojkdmkeankcgaaGreat.Qu
/-  What the call of container/heap's up does over an order. -/
namespace Go.Proofs.YtojkdmkeankcgaaGreat.Qu
open Go.RowKit Go.Maps

theorem hide {p : Prop} (h : p) : Hid p := h
theorem methodLess (a : Addr) (w : World) : (method 307 109 (.pointer (some a)) "Less").run Tryz.prog w = .ok (152, .pointer (some a)) w := by kernel_rfl
theorem methodSwap (a : Addr) (w : World) : (method 307 109 (.pointer (some a)) "Swap").run Tryz.prog w = .ok (155, .pointer (some a)) w := by kernel_rfl
theorem methodLen (a : Addr) (w : World) : (method 307 109 (.pointer (some a)) "Len").run Tryz.prog w = .ok (100, .pointer (some a)) w := by kernel_rfl
theorem methodPush (a : Addr) (w : World) : (method 307 109 (.pointer (some a)) "Push").run Tryz.prog w = .ok (154, .pointer (some a)) w := by kernel_rfl
theorem methodPop (a : Addr) (w : World) : (method 307 109 (.pointer (some a)) "Pop").run Tryz.prog w = .ok (153, .pointer (some a)) w := by kernel_rfl

section
variable {w : World} {ob mb : Nat} {v : Value} {L M : List Pr} {S : Nat → Prop}
set_option maxRecDepth 100000 in
set_option maxHeartbeats 1600000 in
theorem up_any (h : Ord w ob mb v L L S) (n j : Nat) (hu : Up L n j) (hn : n ≤ L.length) (hj : j < n) :
    Calls Tryz.prog 99 #[.iface 109 (.pointer (some ⟨ob, 0, none⟩)), .int .i64 j] w fun e w' => e = .returned (.tuple #[]) ∧ ∃ L', Ord w' ob mb v L' L' S ∧ Fr S w w' ∧ Sw n L L' ∧ Heap L' n := by
  have hl := h.len
  have HO : Hid (Ord w ob mb v L L S ∧ Up L n j) := ⟨h, hu⟩
  clear h hu
  go_enter Tryz.func99, Tryz.ntmps99
  go_wp2
  go_loopw [1] (fun sj wr => ∃ (q : Nat) (L' : List Pr), sj = .int .i64 q ∧ q < n ∧ Hid (Ord wr ob mb v L' L' S ∧ Fr S w wr ∧ Sw n L L' ∧ Up L' n q)) (fun sj _ => (intOf sj).toNat)
  case atStart => exact ⟨j, L, rfl, hj, HO.out.1, Fr.refl _ _, Sw.refl _ _, HO.out.2⟩
  case round =>
    obtain ⟨q, L', rfl, hq, HR⟩ := hrel
    have hL : L'.length = L.length := HR.out.2.2.1.len
    by_cases hq0 : q = 0
    · subst hq0
      go_wp2
      go_end0
      exact ⟨rfl, L', HR.out.1, HR.out.2.1, HR.out.2.2.1, HR.out.2.2.2.stop0⟩
    · have hpl := par_lt (show 0 < q by omega)
      have hp0 : (0 : Int) ≤ (q : Int) - 1 := by omega
      have hpe : ((q : Int) - 1) / 2 = (par q : Nat) := by unfold par; omega
      have hpn : (((par q : Nat) : Int) == (q : Int)) = false := by simp; omega
      have hle := less_any HR.out.1 q (par q) (by omega) (by omega)
      have m1 := methodLess ⟨ob, 0, none⟩
      by_cases hlt : lt (at' L' q) (at' L' (par q)) = true
      · rw [hlt] at hle
        have HL := hide hle
        have HS : Hid (∀ w1, Below wr.heap.size wr w1 → Calls Tryz.prog 155 #[.pointer (some ⟨ob, 0, none⟩), .int .i64 (par q : Nat), .int .i64 q] w1 fun e w' => e = .returned (.tuple #[]) ∧ Ord w' ob mb v (swp L' (par q) q) (swp L' (par q) q) S ∧ Fr S w1 w') :=
          fun w1 hb => swap_any (HR.out.1.later hb) (par q) q (by omega) (by omega) (by omega)
        have m2 := methodSwap ⟨ob, 0, none⟩
        clear hle
        go_wp2_with (first | (go_at_call 152; refine HL.out.mono ?_; rintro e w1 ⟨rfl, hb1⟩) | (go_at_call 155; refine (HS.out _ hb1).mono ?_; rintro e w2 ⟨rfl, hO2, hF2⟩))
        go_roundw
        case rel => exact ⟨par q, swp L' (par q) q, rfl, by omega, hO2, (HR.out.2.1.trans0 (Fr.of_below hb1)).trans0 hF2, HR.out.2.2.1.step (by omega) hq hn, HR.out.2.2.2.swap (by omega) (by omega) hq hlt⟩
        case measure => simp [intOf]; omega
      · have hlt2 : lt (at' L' q) (at' L' (par q)) = false := by simpa using hlt
        rw [hlt2] at hle
        have HL := hide hle
        clear hle
        go_wp2_with (first | (go_at_call 152; refine HL.out.mono ?_; rintro e w1 ⟨rfl, hb1⟩))
        go_end0
        exact ⟨rfl, L', HR.out.1.later hb1, HR.out.2.1.trans0 (Fr.of_below hb1), HR.out.2.2.1, HR.out.2.2.2.stop hlt2⟩
end
end Go.Proofs.YtojkdmkeankcgaaGreat.Qu
/-  What the call of container/heap's down does over an order. -/
namespace Go.Proofs.YtojkdmkeankcgaaGreat.Qu
open Go.RowKit Go.Maps

section
variable {w : World} {ob mb : Nat} {v : Value} {L M : List Pr} {S : Nat → Prop}
theorem less_at (h : Ord w ob mb v L M S) (i j : Nat) (hi : i < L.length) (hj : j < L.length) {x y : Int} (hx : x = i) (hy : y = j) {b : Bool} (hb : lt (at' L i) (at' L j) = b) :
    Calls Tryz.prog 152 #[.pointer (some ⟨ob, 0, none⟩), .int .i64 x, .int .i64 y] w fun e w' => e = .returned (.bool b) ∧ Below w.heap.size w w' := by
  subst hx hy hb
  exact less_any h i j hi hj
theorem swap_at (h : Ord w ob mb v L L S) (i j : Nat) (hi : i < L.length) (hj : j < L.length) (hij : i ≠ j) {x y : Int} (hx : x = i) (hy : y = j) :
    Calls Tryz.prog 155 #[.pointer (some ⟨ob, 0, none⟩), .int .i64 x, .int .i64 y] w fun e w' => e = .returned (.tuple #[]) ∧ Ord w' ob mb v (swp L i j) (swp L i j) S ∧ Fr S w w' := by
  subst hx hy
  exact swap_any h i j hi hj hij
theorem kids {k p : Nat} (h : 0 < k) (hp : par k = p) : k = 2 * p + 1 ∨ k = 2 * p + 2 := by unfold par at hp; omega
theorem par1 (p : Nat) : par (2 * p + 1) = p := by unfold par; omega
theorem par2 (p : Nat) : par (2 * p + 2) = p := by unfold par; omega

/-- What stands behind a down. -/
def DownEnd (w : World) (ob mb : Nat) (v : Value) (L : List Pr) (S : Nat → Prop) (n i : Nat) (e : Ending) (w' : World) : Prop :=
  ∃ b L', e = .returned (.bool b) ∧ Ord w' ob mb v L' L' S ∧ Fr S w w' ∧ Sw n L L' ∧ (b = true → Heap L' n) ∧ (b = false → Up L' n i)
theorem down_end {wr : World} {L' : List Pr} {n i p : Nat} (hR : Ord wr ob mb v L' L' S ∧ Fr S w wr ∧ Sw n L L' ∧ Down L' n i p) {w1 : World} (hb : Below wr.heap.size wr w1) (hip : i ≤ p)
    (hs : ∀ k, 0 < k → k < n → par k = p → lt (at' L' k) (at' L' p) = false) : DownEnd w ob mb v L S n i (.returned (.bool (decide (i < p)))) w1 := by
  refine ⟨_, L', rfl, hR.1.later hb, hR.2.1.trans0 (Fr.of_below hb), hR.2.2.1, fun e => ?_, fun e => ?_⟩
  · have : i < p := by simpa using e
    exact hR.2.2.2.stop_moved (by omega) hs
  · have : ¬ i < p := by simpa using e
    obtain rfl : i = p := by omega
    exact hR.2.2.2.stop_same hs
theorem down_step {wr w1 w2 : World} {L' : List Pr} {n i p j : Nat} (hR : Ord wr ob mb v L' L' S ∧ Fr S w wr ∧ Sw n L L' ∧ Down L' n i p) (hb : Below wr.heap.size wr w1) (hF : Fr S w1 w2) (hO : Ord w2 ob mb v (swp L' p j) (swp L' p j) S) (hn : n ≤ L.length) (hip : i ≤ p)
    (hj0 : 0 < j) (hjn : j < n) (hp : par j = p) (hlt : lt (at' L' j) (at' L' p) = true) (hs : ∀ k, 0 < k → k < n → par k = p → lt (at' L' k) (at' L' j) = false) :
    Ord w2 ob mb v (swp L' p j) (swp L' p j) S ∧ Fr S w w2 ∧ Sw n L (swp L' p j) ∧ Down (swp L' p j) n i j := by
  have := par_lt hj0
  have hl := hR.2.2.1.len
  exact ⟨hO, (hR.2.1.trans0 (Fr.of_below hb)).trans0 hF, hR.2.2.1.step (by omega) hjn hn, hR.2.2.2.swap (by omega) hip hj0 hjn hp hlt hs⟩

set_option maxRecDepth 100000 in
set_option maxHeartbeats 3200000 in
theorem down_any (h : Ord w ob mb v L L S) (n i : Nat) (hd : FixAt L n i) (hn : n ≤ L.length) (hi : i < n) :
    Calls Tryz.prog 98 #[.iface 109 (.pointer (some ⟨ob, 0, none⟩)), .int .i64 i, .int .i64 n] w (DownEnd w ob mb v L S n i) := by
  have hl := h.len
  have HO : Hid (Ord w ob mb v L L S ∧ Down L n i i) := ⟨h, hd.down⟩
  clear h hd
  go_enter Tryz.func98, Tryz.ntmps98
  go_wp2
  go_loopw [7] (fun si wr => ∃ (p : Nat) (L' : List Pr), si = .int .i64 p ∧ i ≤ p ∧ p < n ∧ Hid (Ord wr ob mb v L' L' S ∧ Fr S w wr ∧ Sw n L L' ∧ Down L' n i p)) (fun si _ => n - (intOf si).toNat)
  case atStart => exact ⟨i, L, rfl, Nat.le_refl _, hi, HO.out.1, Fr.refl _ _, Sw.refl _ _, HO.out.2⟩
  case round =>
    obtain ⟨p, L', rfl, hip, hp, HR⟩ := hrel
    have hL : L'.length = L.length := HR.out.2.2.1.len
    have m1 := methodLess ⟨ob, 0, none⟩
    have m2 := methodSwap ⟨ob, 0, none⟩
    have hO := HR.out.1
    have HOr := hide hO
    clear hO
    by_cases c1 : 2 * p + 1 < n
    · by_cases c2 : 2 * p + 2 < n ∧ lt (at' L' (2 * p + 2)) (at' L' (2 * p + 1)) = true
      · obtain ⟨c2, t2⟩ := c2
        have c1' : 2 * (p : Int) + 1 < (n : Int) := by omega
        have c2' : 2 * (p : Int) + 2 < (n : Int) := by omega
        have HT := hide t2
        clear t2
        have HS : Hid (∀ k, 0 < k → k < n → par k = p → lt (at' L' k) (at' L' (2 * p + 2)) = false) := fun k h0 hk hpk => by
          rcases kids h0 hpk with rfl | rfl
          · exact lt_asymm HT.out
          · exact lt_irrefl _
        by_cases t3 : lt (at' L' (2 * p + 2)) (at' L' p) = true
        · have HT3 := hide t3
          clear t3
          go_wp2_with (first | (go_at_call 152; refine (less_at (HOr.out.later hb1) (2 * p + 2) p (by omega) (by omega) (by omega) (by omega) HT3.out).mono ?_; rintro e w2 ⟨rfl, hb2⟩) | (go_at_call 152; refine (less_at HOr.out (2 * p + 2) (2 * p + 1) (by omega) (by omega) (by omega) (by omega) HT.out).mono ?_; rintro e w1 ⟨rfl, hb1⟩) | (go_at_call 155; refine (swap_at ((HOr.out.later hb1).later hb2) p (2 * p + 2) (by omega) (by omega) (by omega) (by omega) (by omega)).mono ?_; rintro e w3 ⟨rfl, hO3, hF3⟩))
          go_roundw
          case rel => exact ⟨2 * p + 2, swp L' p (2 * p + 2), by go_num, by omega, c2, down_step HR.out (hb1.trans (hb2.mono hb1.size)) hF3 hO3 hn hip (by omega) c2 (par2 p) HT3.out HS.out⟩
          case measure => simp [intOf]; omega
        · have HT3 : Hid (lt (at' L' (2 * p + 2)) (at' L' p) = false) := by show _ = _; simpa using t3
          clear t3
          go_wp2_with (first | (go_at_call 152; refine (less_at (HOr.out.later hb1) (2 * p + 2) p (by omega) (by omega) (by omega) (by omega) HT3.out).mono ?_; rintro e w2 ⟨rfl, hb2⟩) | (go_at_call 152; refine (less_at HOr.out (2 * p + 2) (2 * p + 1) (by omega) (by omega) (by omega) (by omega) HT.out).mono ?_; rintro e w1 ⟨rfl, hb1⟩))
          go_ret
          exact down_end HR.out (hb1.trans (hb2.mono hb1.size)) hip (fun k h0 hk hpk => le_trans HT3.out (HS.out k h0 hk hpk))
      · have HS : Hid (∀ k, 0 < k → k < n → par k = p → lt (at' L' k) (at' L' (2 * p + 1)) = false) := fun k h0 hk hpk => by
          rcases kids h0 hpk with rfl | rfl
          · exact lt_irrefl _
          · cases e : lt (at' L' (2 * p + 2)) (at' L' (2 * p + 1))
            · rfl
            · exact absurd ⟨hk, e⟩ c2
        clear c2
        have c1' : 2 * (p : Int) + 1 < (n : Int) := by omega
        by_cases c2 : 2 * p + 2 < n
        · have c2' : 2 * (p : Int) + 2 < (n : Int) := by omega
          have HT := hide (HS.out (2 * p + 2) (by omega) c2 (par2 p))
          by_cases t3 : lt (at' L' (2 * p + 1)) (at' L' p) = true
          · have HT3 := hide t3
            clear t3
            go_wp2_with (first | (go_at_call 152; refine (less_at (HOr.out.later hb1) (2 * p + 1) p (by omega) (by omega) (by omega) (by omega) HT3.out).mono ?_; rintro e w2 ⟨rfl, hb2⟩) | (go_at_call 152; refine (less_at HOr.out (2 * p + 2) (2 * p + 1) (by omega) (by omega) (by omega) (by omega) HT.out).mono ?_; rintro e w1 ⟨rfl, hb1⟩) | (go_at_call 155; refine (swap_at ((HOr.out.later hb1).later hb2) p (2 * p + 1) (by omega) (by omega) (by omega) (by omega) (by omega)).mono ?_; rintro e w3 ⟨rfl, hO3, hF3⟩))
            go_roundw
            case rel => exact ⟨2 * p + 1, swp L' p (2 * p + 1), by go_num, by omega, c1, down_step HR.out (hb1.trans (hb2.mono hb1.size)) hF3 hO3 hn hip (by omega) c1 (par1 p) HT3.out HS.out⟩
            case measure => simp [intOf]; omega
          · have HT3 : Hid (lt (at' L' (2 * p + 1)) (at' L' p) = false) := by show _ = _; simpa using t3
            clear t3
            go_wp2_with (first | (go_at_call 152; refine (less_at (HOr.out.later hb1) (2 * p + 1) p (by omega) (by omega) (by omega) (by omega) HT3.out).mono ?_; rintro e w2 ⟨rfl, hb2⟩) | (go_at_call 152; refine (less_at HOr.out (2 * p + 2) (2 * p + 1) (by omega) (by omega) (by omega) (by omega) HT.out).mono ?_; rintro e w1 ⟨rfl, hb1⟩))
            go_ret
            exact down_end HR.out (hb1.trans (hb2.mono hb1.size)) hip (fun k h0 hk hpk => le_trans HT3.out (HS.out k h0 hk hpk))
        · have c2' : decide (2 * (p : Int) + 2 < (n : Int)) = false := by simp; omega
          have c2'' : decide (2 * (p : Int) + 1 + 1 < (n : Int)) = false := by simp; omega
          by_cases t3 : lt (at' L' (2 * p + 1)) (at' L' p) = true
          · have HT3 := hide t3
            clear t3
            go_wp2_with (first | (go_at_call 152; refine (less_at HOr.out (2 * p + 1) p (by omega) (by omega) (by omega) (by omega) HT3.out).mono ?_; rintro e w2 ⟨rfl, hb2⟩) | (go_at_call 155; refine (swap_at (HOr.out.later hb2) p (2 * p + 1) (by omega) (by omega) (by omega) (by omega) (by omega)).mono ?_; rintro e w3 ⟨rfl, hO3, hF3⟩))
            go_roundw
            case rel => exact ⟨2 * p + 1, swp L' p (2 * p + 1), by go_num, by omega, c1, down_step HR.out hb2 hF3 hO3 hn hip (by omega) c1 (par1 p) HT3.out HS.out⟩
            case measure => simp [intOf]; omega
          · have HT3 : Hid (lt (at' L' (2 * p + 1)) (at' L' p) = false) := by show _ = _; simpa using t3
            clear t3
            go_wp2_with (first | (go_at_call 152; refine (less_at HOr.out (2 * p + 1) p (by omega) (by omega) (by omega) (by omega) HT3.out).mono ?_; rintro e w2 ⟨rfl, hb2⟩))
            go_ret
            exact down_end HR.out hb2 hip (fun k h0 hk hpk => le_trans HT3.out (HS.out k h0 hk hpk))
    · have c1' : (n : Int) ≤ 2 * (p : Int) + 1 := by omega
      go_wp2
      go_ret
      exact down_end HR.out (Below.refl _ _) hip (fun k h0 hk hpk => by rcases kids h0 hpk with rfl | rfl <;> omega)
end
end Go.Proofs.YtojkdmkeankcgaaGreat.Qu
