/-
  A graph in memory, and one in the making.
-/
import Derived.Test.YtojkdmkeankcgaaGreatCompact
import Derived.Deep.AppendLies
import Derived.Deep.RegionHeld3
import Derived.Deep.DrawnRows
namespace Go.Proofs.YtojkdmkeankcgaaGreat
open Go.RowKit Go.Sort Go.Lib Go.Shelf

theorem flatL_len : ∀ L : List Leg, (L.flatMap encL).length = L.length * 3
  | [] => rfl
  | x :: r => by rw [List.flatMap_cons, List.length_append, flatL_len r]; simp [encL]; omega
theorem flatL_get : ∀ (L : List Leg) (i c : Nat), i < L.length → c < 3 → (L.flatMap encL)[i * 3 + c]? = some ((encL L[i]!)[c]!)
  | [], _, _, h, _ => by simp at h
  | x :: r, 0, c, _, hc => by
    rw [List.flatMap_cons, List.getElem?_append_left (by simp [encL]; omega)]
    have : c = 0 ∨ c = 1 ∨ c = 2 := by omega
    rcases this with rfl | rfl | rfl <;> simp [encL]
  | x :: r, i + 1, c, h, hc => by
    rw [List.flatMap_cons, List.getElem?_append_right (by simp [encL]; omega), show (i + 1) * 3 + c - (encL x).length = i * 3 + c by simp [encL]; omega, flatL_get r i c (by simpa using h) hc]
    simp
/-- A row of legs that the call owns, as the sort wants it. -/
theorem own_rw {B g cap : Nat} {w : World} {L : List Leg} (h : w.ownsRow B 102 3 (.slice (some ⟨g, 0, none⟩) L.length cap) L.length (L.flatMap encL)) : Rw g w w L.toArray := by
  refine ⟨fun j hj => ?_, (h.lt g rfl).2, Fr.refl _ _⟩
  have hj2 : j < L.length * 3 := by rw [size_flatK] at hj; simpa using hj
  rw [Nat.zero_add, h.cellAt j (by omega), h.frozenAt j, get_flatK encL 3 _ j (by simpa using hj2)]
  refine ⟨?_, rfl⟩
  have := flatL_get L (j / 3) (j % 3) (by omega) (by omega)
  rw [show j / 3 * 3 + j % 3 = j by omega] at this
  rw [this]
  simp
/-- The row's value, and what it holds: nothing, or the legs of S. -/
inductive SRow (B : Nat) (w0 w : World) : Value → List Leg → Prop where
  | none (a : Option Addr) (cap : Nat) : (∃ b, B ≤ b ∧ Fr b w0 w) → SRow B w0 w (.slice a 0 cap) []
  | some (g cap : Nat) (S : List Leg) : S ≠ [] → Rw g w0 w S.toArray → B ≤ g → g < w0.heap.size → S.length ≤ cap → cap ≤ 9223372036854775807 → SRow B w0 w (.slice (some ⟨g, 0, none⟩) S.length cap) S
theorem sort_own (B : Nat) (w : World) (v : Value) (L : List Leg) (h : w.ownsRow B 102 3 v L.length (L.flatMap encL)) (hl : L.length ≤ 300) :
    Calls Tryz.prog 76 #[v, .func (.func 77) #[] #[]] w fun e w' => e = .returned (.tuple #[]) ∧ SRow B w w' v (sortL L) := by
  by_cases hL : L = []
  · subst hL
    have e : sortL [] = [] := by unfold sortL; exact List.mergeSort_nil
    rw [e]
    rcases h.2 with ⟨rfl, _⟩ | ⟨g, cap, cur, rfl, hb, _⟩
    · refine (sort_none none 0 _ w).mono ?_
      rintro e w' ⟨rfl, rfl⟩
      exact ⟨rfl, .none none 0 ⟨B, Nat.le_refl _, Fr.refl _ _⟩⟩
    · refine (sort_none (some ⟨g, 0, none⟩) cap _ w).mono ?_
      rintro e w' ⟨rfl, rfl⟩
      exact ⟨rfl, .none _ cap ⟨g, hb, Fr.refl _ _⟩⟩
  · rcases h.2 with ⟨_, h0⟩ | ⟨g, cap, cur, rfl, hb, hg, hnc, hcm, _⟩
    · exact absurd (List.eq_nil_of_length_eq_zero h0) hL
    · have R := own_rw h
      have hs := sort_legs g cap L.toArray w R.has R.lt (by simp; omega)
      simp only [List.size_toArray] at hs
      refine hs.mono ?_
      rintro e w' ⟨rfl, n, os, rfl⟩
      refine ⟨rfl, ?_⟩
      have h1 := rw_sorted R n (sortL L).toArray (by simp [sortL_len]) os
      have := SRow.some (B := B) (w0 := w) (w := sortWorldK encL 3 w g 0 n (sortL L).toArray os) g cap (sortL L) (fun e => hL (List.eq_nil_of_length_eq_zero (by rw [← sortL_len, e]; rfl))) h1 hb R.lt (by rw [sortL_len]; exact hnc) (by unfold maxLen at hcm; omega)
      rw [sortL_len] at this
      exact this
theorem compact_none (a : Option Addr) (cap : Nat) (f : Value) (w : World) : Calls Tryz.prog 78 #[.slice a 0 cap, f] w fun e w' => e = .returned (.slice a 0 cap) ∧ w' = w := by
  go_enter Tryz.func78, Tryz.ntmps78
  go_wp2
  go_ret
  exact ⟨rfl, rfl⟩
/-- What the compacted row is: C's legs, one behind the other, in a block that was there. -/
def CRow (O : Nat) (w : World) (a : Option Addr) (C : List Leg) : Prop :=
  ∀ i, i < C.length → ∃ b, b < O ∧ a = some ⟨b, 0, none⟩ ∧ w.cell? ⟨b, i * 3, none⟩ = some (.int .i64 (C[i]!).1) ∧ w.cell? ⟨b, i * 3 + 1, none⟩ = some (.int .i64 (C[i]!).2.1) ∧ w.cell? ⟨b, i * 3 + 2, none⟩ = some (.int .i64 (C[i]!).2.2)
theorem CRow.later {O : Nat} {w w' : World} {a : Option Addr} {C : List Leg} (h : CRow O w a C) (f : Below O w w') : CRow O w' a C := fun i hi => by
  obtain ⟨b, hb, ha, h0, h1, h2⟩ := h i hi
  exact ⟨b, hb, ha, (f.cell (p := ⟨b, _, none⟩) hb).trans h0, (f.cell (p := ⟨b, _, none⟩) hb).trans h1, (f.cell (p := ⟨b, _, none⟩) hb).trans h2⟩
theorem compact_own (B : Nat) (w0 w : World) (v : Value) (S : List Leg) (h : SRow B w0 w v S) (hl : S.length ≤ 300) (hB : B ≤ w0.heap.size) (o : Obj) :
    Calls Tryz.prog 78 #[v, .func (.func 79) #[] #[]] (w.alloc o) fun e w' => ∃ a cap, e = .returned (.slice a (comp S.toArray S.length).length cap) ∧ CRow w.heap.size w' a (comp S.toArray S.length) ∧ Below B w0 w' ∧ w'.heap[w.heap.size]? = some o ∧ w.heap.size < w'.heap.size ∧ B ≤ w.heap.size := by
  cases h with
  | none a cap hf =>
    obtain ⟨b, hb, hfr⟩ := hf
    refine (compact_none a cap _ _).mono ?_
    rintro e w' ⟨rfl, rfl⟩
    have := hfr.size
    exact ⟨a, cap, rfl, fun i hi => by simp [comp] at hi, (hfr.below hb hB).alloc (by omega) o, heap_alloc_new _ _, by simp, by omega⟩
  | some g cap _ hne R hB2 hlt hc1 hc2 =>
    have hsz := R.fr.size
    have R2 : Rw g (w.alloc o) (w.alloc o) S.toArray := by
      have := R.alloc o
      exact ⟨this.has, this.lt, Fr.refl _ _⟩
    have hc := compact_legs g cap S.toArray _ _ R2 (by simpa using hl) (by simpa using hc1) hc2
    simp only [List.size_toArray] at hc
    refine hc.mono ?_
    rintro e w' ⟨rfl, hL⟩
    have hs2 : (w.alloc o).heap.size = w.heap.size + 1 := by simp
    refine ⟨_, cap, rfl, fun i hi => ⟨g, by omega, rfl, hL.c0 i hi, hL.c1 i hi, hL.c2 i hi⟩, ((R.fr.below hB2 hB).alloc (by omega) o).trans (hL.fr.below hB2 (by omega)), ?_, by have := hL.fr.size; omega, by omega⟩
    rw [hL.fr.block w.heap.size (by omega) (by omega)]
    exact heap_alloc_new _ _

/-! ### the rows of edges -/
def encE (x : Int × Int) : List Value := [.int .i64 x.1, .int .i64 x.2]
def flatE (l : List (Int × Int)) : List Value := l.flatMap encE
theorem flatE_len : ∀ L : List (Int × Int), (flatE L).length = L.length * 2
  | [] => rfl
  | x :: r => by rw [show flatE (x :: r) = encE x ++ flatE r from rfl, List.length_append, flatE_len r]; simp [encE]; omega
theorem flatE_get : ∀ (L : List (Int × Int)) (i : Nat), i < L.length → (flatE L)[i * 2]? = some (.int .i64 (L[i]!).1) ∧ (flatE L)[i * 2 + 1]? = some (.int .i64 (L[i]!).2)
  | [], _, h => by simp at h
  | x :: r, 0, _ => by simp [flatE, encE]
  | x :: r, i + 1, h => by
    have := flatE_get r i (by simpa using h)
    rw [show flatE (x :: r) = encE x ++ flatE r from rfl, show (i + 1) * 2 = i * 2 + 2 by omega, show i * 2 + 2 + 1 = (i * 2 + 1) + 2 by omega]
    simpa [encE] using this
/-- The lists of a graph: vs their values, R what they hold. -/
structure Outs (B O n : Nat) (w : World) (R : Nat → List (Int × Int)) (vs : List Value) : Prop where
  len : vs.length = n
  blk : w.heap[O]? = some (.cells vs.toArray 73 (0, 0))
  row : ∀ p, p < n → w.ownsRow B 75 2 (vs.getD p undef) (R p).length (flatE (R p))
  dis : ∀ p q g, p < n → q < n → p ≠ q → (vs.getD p undef).ownBlock = some g → (vs.getD q undef).ownBlock ≠ some g
section
variable {B O n : Nat} {w w' : World} {R : Nat → List (Int × Int)} {vs : List Value}
theorem own_of_block {base e size m : Nat} {v : Value} {xs : List Value} (h : w.ownsRow base e size v m xs) (hb : ∀ g, v.ownBlock = some g → w'.heap[g]? = w.heap[g]?) : w'.ownsRow base e size v m xs := by
  obtain ⟨h1, h2⟩ := h
  refine ⟨h1, ?_⟩
  rcases h2 with h2 | ⟨g, cap, cur, rfl, a, hg, r⟩
  · exact .inl h2
  · exact .inr ⟨g, cap, cur, rfl, a, (hb g rfl).trans hg, r⟩
theorem own_tag {base e size m g : Nat} {v : Value} {xs : List Value} (h : w.ownsRow base e size v m xs) (hv : v.ownBlock = some g) : ∃ cur, w.heap[g]? = some (.cells cur e (0, 0)) := by
  rcases h.2 with ⟨rfl, _⟩ | ⟨g2, cap, cur, rfl, a, hg, r⟩
  · cases hv
  · have : g2 = g := by simpa [Value.ownBlock] using hv
    subst this
    exact ⟨cur, hg⟩
theorem Outs.lt (h : Outs B O n w R vs) : O < w.heap.size := by
  rcases Nat.lt_or_ge O w.heap.size with h' | h'
  · exact h'
  · have := h.blk; rw [Array.getElem?_eq_none h'] at this; cases this
theorem Outs.of_block (h : Outs B O n w R vs) (hb : ∀ (k : Nat) (o : Obj), w.heap[k]? = some o → w'.heap[k]? = some o) : Outs B O n w' R vs := by
  refine ⟨h.len, hb O _ h.blk, fun p hp => own_of_block (h.row p hp) (fun g hg => ?_), h.dis⟩
  obtain ⟨cur, hc⟩ := own_tag (h.row p hp) hg
  rw [hc]
  exact hb g _ hc
theorem Outs.later (h : Outs B O n w R vs) (f : Below w.heap.size w w') : Outs B O n w' R vs :=
  h.of_block (fun k o hk => by
    rw [f.block k ?_]
    · exact hk
    · rcases Nat.lt_or_ge k w.heap.size with h' | h'
      · exact h'
      · rw [Array.getElem?_eq_none h'] at hk; cases hk)
theorem Outs.on (h : Outs B O n w R vs) : O ≠ w.heap.size := by have := h.lt; omega
/-- The row of p goes on by one edge. -/
theorem Outs.more (h : Outs B O n w R vs) (p : Nat) (hp : p < n) (x : Int × Int) (o : Obj) {w2 w3 : World} {g cap : Nat} (hf : Below w.heap.size w w2)
    (hown : w3.ownsRow B 75 2 (.slice (some ⟨g, 0, none⟩) ((R p).length + 1) cap) ((R p).length + 1) (flatE (R p) ++ [.int .i64 x.1, .int .i64 x.2]))
    (hg : (w2.alloc o).drew.grownBy w3 (vs.getD p undef).ownBlock) (hat : (vs.getD p undef).ownBlock = some g ∨ g = w2.heap.size + 1) (R' : Nat → List (Int × Int)) (hR : R' p = R p ++ [x]) (hR2 : ∀ q, q ≠ p → R' q = R q) :
    Outs B O n (w3.setCell ⟨O, p, none⟩ (.slice (some ⟨g, 0, none⟩) ((R p).length + 1) cap)) R' (vs.set p (.slice (some ⟨g, 0, none⟩) ((R p).length + 1) cap)) ∧ (∀ k, k < w.heap.size → k ≠ O → (vs.getD p undef).ownBlock ≠ some k → (w3.setCell ⟨O, p, none⟩ (.slice (some ⟨g, 0, none⟩) ((R p).length + 1) cap)).heap[k]? = w.heap[k]?) := by
  have hsz2 : (w2.alloc o).drew.heap.size = w2.heap.size + 1 := by show (w2.alloc o).heap.size = _; simp
  have hw2 := hf.size
  have hkeep : ∀ k, k < w.heap.size → (vs.getD p undef).ownBlock ≠ some k → w3.heap[k]? = w.heap[k]? := fun k hk hne => by
    rw [hg.block k (by rw [hsz2]; omega) (fun e => hne e.symm)]
    show (w2.alloc o).heap[k]? = _
    rw [Below.heap_alloc _ _ _ (by omega), hf.block k hk]
  have hpO : (vs.getD p undef).ownBlock ≠ some O := fun e => by
    obtain ⟨cur, hc⟩ := own_tag (h.row p hp) e
    rw [h.blk] at hc
    simp at hc
  have hO3 := hkeep O h.lt hpO
  rw [h.blk] at hO3
  have hgO : g ≠ O := by
    rcases hat with e | e
    · intro e2; subst e2; exact hpO e
    · have := h.lt; omega
  have hgd : ∀ q, (vs.set p (.slice (some ⟨g, 0, none⟩) ((R p).length + 1) cap)).getD q undef = if q = p then .slice (some ⟨g, 0, none⟩) ((R p).length + 1) cap else vs.getD q undef := fun q => by
    simp only [List.getD_eq_getElem?_getD, List.getElem?_set]
    by_cases hq : p = q
    · subst hq; rw [if_pos rfl, if_pos rfl, if_pos (by rw [h.len]; exact hp)]; rfl
    · rw [if_neg hq, if_neg (fun e => hq e.symm)]
  refine ⟨⟨by rw [List.length_set]; exact h.len, ?_, fun q hq => ?_, fun q r k hq hr hne => ?_⟩, fun k hk hkO hne => ?_⟩
  · rw [heap_setCell_same w3 O p _ _ _ hO3]
    simp
  · rw [hgd]
    split
    · rename_i e
      subst e
      rw [hR]
      refine own_of_block (w := w3) ?_ (fun k hk => heap_setCell_other _ _ _ _ (by simp [Value.ownBlock] at hk; show k ≠ O; omega))
      have : flatE (R q ++ [x]) = flatE (R q) ++ [.int .i64 x.1, .int .i64 x.2] := by simp [flatE, encE]
      rw [this, List.length_append]
      exact hown
    · rename_i e
      rw [hR2 q e]
      refine own_of_block (w := w) (h.row q hq) (fun k hk => ?_)
      have hkO : k ≠ O := fun e2 => by
        obtain ⟨cur, hc⟩ := own_tag (h.row q hq) hk
        rw [e2, h.blk] at hc
        simp at hc
      rw [heap_setCell_other _ _ _ _ hkO]
      exact hkeep k ((h.row q hq).lt k hk).2 (fun e2 => h.dis p q k hp hq (fun e3 => e e3.symm) e2 hk)
  · rw [hgd, hgd]
    have hother : ∀ q, q < n → q ≠ p → (vs.getD q undef).ownBlock ≠ some g := fun q hq hqp e => by
      rcases hat with e2 | e2
      · exact h.dis p q g hp hq (fun e3 => hqp e3.symm) e2 e
      · have := ((h.row q hq).lt g e).2; omega
    intro hk
    split at hk
    · rename_i e1
      have : g = k := by simpa [Value.ownBlock] using hk
      subst this
      rw [if_neg (fun e2 => hne (by omega))]
      exact hother r hr (fun e2 => hne (by omega))
    · rename_i e1
      split
      · rename_i e2
        intro e3
        have : g = k := by simpa [Value.ownBlock] using e3
        subst this
        exact hother q hq e1 hk
      · exact h.dis q r k hq hr hne hk
  · rw [heap_setCell_other _ _ _ _ hkO]
    exact hkeep k hk hne
end
/-- A graph in memory with n places whose edges are W. -/
def GAt (w : World) (g n : Nat) (W : Nat → Nat → Option Int) : Prop := ∃ O vs, w.heap[g]? = some (.cells #[.slice (some ⟨O, 0, none⟩) n n] 100 (0, 0)) ∧ Outs 0 O n w (rowM n W) vs
theorem GAt.later {w w' : World} {g n : Nat} {W : Nat → Nat → Option Int} (h : GAt w g n W) (f : Below w.heap.size w w') : GAt w' g n W := by
  obtain ⟨O, vs, h1, h2⟩ := h
  refine ⟨O, vs, ?_, h2.later f⟩
  rw [f.block g ?_]
  · exact h1
  · rcases Nat.lt_or_ge g w.heap.size with h' | h'
    · exact h'
    · rw [Array.getElem?_eq_none h'] at h1; cases h1
theorem bucket_snoc (p : Nat) (C : List Leg) (c : Nat) (hc : c < C.length) : bucket p (C.take (c + 1)) = if (C[c]!).1 = (p : Int) then bucket p (C.take c) ++ [((C[c]!).2.1, (C[c]!).2.2)] else bucket p (C.take c) := by
  rw [List.take_succ_eq_append_getElem hc, getElem!_pos C c hc]
  unfold bucket
  rw [List.filter_append, List.map_append]
  by_cases h : (C[c]).1 = (p : Int)
  · rw [if_pos h]; simp [h]
  · rw [if_neg h]; simp [h]
end Go.Proofs.YtojkdmkeankcgaaGreat
