/-
  Rows of structs that a call owns, as lists of their cells; rows of tasks.
-/
import Derived.Test.YtgjpkpmikbpcnaaAsk
import Derived.Test.YtgjpkpmikbpcnaaPlainT
import Derived.Maps.AppendAt
namespace Go.Proofs.Ytgjpkpmikbpcnaa
open Go.RowKit

theorem flat_len {z : Nat} : ∀ {R : List (List Value)}, (∀ l ∈ R, l.length = z) → R.flatten.length = R.length * z
  | [], _ => by simp
  | l :: R, h => by
    rw [List.flatten_cons, List.length_append, flat_len fun l hl => h l (List.mem_cons_of_mem _ hl), h l List.mem_cons_self, List.length_cons, Nat.add_mul]
    omega
theorem flat_get {z : Nat} : ∀ {R : List (List Value)}, (∀ l ∈ R, l.length = z) → ∀ (i c : Nat) (l : List Value), R[i]? = some l → c < z → R.flatten[i * z + c]? = l[c]?
  | [], _, i, _, _, h, _ => by simp at h
  | l :: R, h, 0, c, l', e, hc => by
    simp at e
    subst e
    rw [List.flatten_cons, Nat.zero_mul, Nat.zero_add, List.getElem?_append_left (by rw [h l List.mem_cons_self]; exact hc)]
  | l :: R, h, i + 1, c, l', e, hc => by
    have hl := h l List.mem_cons_self
    rw [List.flatten_cons, List.getElem?_append_right (by rw [hl, Nat.add_mul]; omega), hl, show (i + 1) * z + c - z = i * z + c by rw [Nat.add_mul]; omega]
    exact flat_get (fun l hl => h l (List.mem_cons_of_mem _ hl)) i c l' (by simpa using e) hc
theorem flat_set {z : Nat} (hz : 0 < z) {R : List (List Value)} (h : ∀ l ∈ R, l.length = z) (i c : Nat) (l : List Value) (hi : R[i]? = some l) (hc : c < z) (u : Value) : R.flatten.set (i * z + c) u = (R.set i (l.set c u)).flatten := by
  have hiL : i < R.length := (List.getElem?_eq_some_iff.1 hi).1
  have h' : ∀ l' ∈ R.set i (l.set c u), l'.length = z := fun l' hl' => by
    rcases List.mem_or_eq_of_mem_set hl' with hl' | rfl
    · exact h l' hl'
    · rw [List.length_set]; exact h l (List.mem_of_getElem? hi)
  apply List.ext_getElem?
  intro j
  have e := Nat.div_add_mod j z
  rw [Nat.mul_comm] at e
  have hm := Nat.mod_lt j hz
  by_cases hj : j / z < R.length
  · have e1 : R[j / z]? = some R[j / z] := List.getElem?_eq_getElem hj
    by_cases ei : j / z = i
    · have e2 : (R.set i (l.set c u))[j / z]? = some (l.set c u) := by rw [ei]; exact List.getElem?_set_self hiL
      rw [← e, flat_get h' (j / z) (j % z) _ e2 hm]
      by_cases ec : j % z = c
      · rw [ei, ec, List.getElem?_set_self (by rw [flat_len h]; have : (i + 1) * z ≤ R.length * z := Nat.mul_le_mul_right z hiL; rw [Nat.add_mul] at this; omega), List.getElem?_set_self (by rw [h l (List.mem_of_getElem? hi)]; exact hc)]
      · rw [List.getElem?_set_ne (by rw [ei]; omega), List.getElem?_set_ne (fun h => ec h.symm), ei, flat_get h i (j % z) l hi hm]
    · have e2 : (R.set i (l.set c u))[j / z]? = some R[j / z] := by rw [List.getElem?_set_ne (fun h => ei h.symm)]; exact e1
      rw [← e, flat_get h' (j / z) (j % z) _ e2 hm, List.getElem?_set_ne, flat_get h (j / z) (j % z) _ e1 hm]
      intro he
      rcases Nat.lt_or_gt_of_ne ei with hlt | hlt
      · have : (j / z + 1) * z ≤ i * z := Nat.mul_le_mul_right z hlt
        rw [Nat.add_mul] at this; omega
      · have : (i + 1) * z ≤ j / z * z := Nat.mul_le_mul_right z hlt
        rw [Nat.add_mul] at this; omega
  · have hge : R.length * z ≤ j := by
      have : R.length * z ≤ j / z * z := Nat.mul_le_mul_right z (by omega)
      omega
    rw [List.getElem?_eq_none (by rw [List.length_set, flat_len h]; exact hge), List.getElem?_eq_none (by rw [flat_len h', List.length_set]; exact hge)]
/-- One cell of a row stored. -/
theorem own_set {w : World} {base e size g n cap : Nat} {xs : List Value} (h : w.ownsRow base e size (.slice (some ⟨g, 0, none⟩) n cap) n xs) (k : Nat) (u : Value) : (w.setCell ⟨g, k, none⟩ u).ownsRow base e size (.slice (some ⟨g, 0, none⟩) n cap) n (xs.set k u) := by
  obtain ⟨h1, h2⟩ := h
  refine ⟨by simpa using h1, ?_⟩
  rcases h2 with ⟨h2, _⟩ | ⟨g2, cap2, cur, ee, a, hb, r1, r2, r3, r4⟩
  · cases h2
  · cases ee
    refine .inr ⟨g, cap, cur.setIfInBounds k u, rfl, a, heap_setCell_same w g k _ _ _ hb, r1, r2, by simpa using r3, ?_⟩
    rw [← r4, Array.toList_setIfInBounds, List.take_set]
theorem own_frozen {w : World} {base e size g n cap : Nat} {xs : List Value} (h : w.ownsRow base e size (.slice (some ⟨g, 0, none⟩) n cap) n xs) (k : Nat) : w.frozen? ⟨g, k, none⟩ = false := by
  rcases h.2 with ⟨h2, _⟩ | ⟨g2, cap2, cur, ee, _, hb, _⟩
  · cases h2
  · cases ee; exact frozen_of_row w g k _ _ hb
theorem own_cell {w : World} {base e size g n cap : Nat} {xs : List Value} (h : w.ownsRow base e size (.slice (some ⟨g, 0, none⟩) n cap) n xs) (k : Nat) (u : Value) (hk : xs[k]? = some u) : w.cell? ⟨g, k, none⟩ = some u := by
  have := World.ownsRow.cells (g := g) h rfl k _ hk
  rw [add0] at this
  exact this
theorem own_later {w w' : World} {base e size n B : Nat} {v : Value} {xs : List Value} (h : w.ownsRow base e size v n xs) (hB : w.heap.size ≤ B) (f : Below B w w') : w'.ownsRow base e size v n xs := own_of_block h (fun k hk => f.block k (Nat.lt_of_lt_of_le (h.lt k hk).2 hB))

/-- Tasks as cells. -/
def encT (t : Tsk) : List Value := [.bool t.1, .int .i64 t.2]
def flatT (L : List Tsk) : List Value := (L.map encT).flatten
theorem encT_len (L : List Tsk) : ∀ l ∈ L.map encT, l.length = 2 := by
  intro l hl
  obtain ⟨t, _, rfl⟩ := List.mem_map.1 hl
  rfl
theorem flatT_len (L : List Tsk) : (flatT L).length = L.length * 2 := by unfold flatT; rw [flat_len (encT_len L), List.length_map]
theorem flatT_get (L : List Tsk) (i c : Nat) (t : Tsk) (h : L[i]? = some t) (hc : c < 2) : (flatT L)[i * 2 + c]? = (encT t)[c]? := flat_get (encT_len L) i c _ (by simp [h]) hc
theorem flatT_one (L : List Tsk) : ∀ u ∈ flatT L, u.oneCell' = true := by
  intro u hu
  unfold flatT at hu
  simp only [List.mem_flatten, List.mem_map] at hu
  obtain ⟨l, ⟨t, _, rfl⟩, hu⟩ := hu
  simp [encT] at hu
  rcases hu with rfl | rfl <;> rfl
theorem flatT_set (L : List Tsk) (i : Nat) (t : Tsk) (h : i < L.length) : ((flatT L).set (i * 2) (.bool t.1)).set (i * 2 + 1) (.int .i64 t.2) = flatT (L.set i t) := by
  unfold flatT
  have e0 : (L.map encT)[i]? = some (encT L[i]) := by simp [h]
  have s1 := flat_set (by decide) (encT_len L) i 0 _ e0 (by decide) (.bool t.1)
  have h' : ∀ l ∈ (L.map encT).set i ((encT L[i]).set 0 (.bool t.1)), l.length = 2 := fun l hl => by
    rcases List.mem_or_eq_of_mem_set hl with hl | rfl
    · exact encT_len L l hl
    · rfl
  have s2 := flat_set (by decide) h' i 1 _ (List.getElem?_set_self (by simpa using h)) (by decide) (.int .i64 t.2)
  rw [Nat.add_zero] at s1
  rw [s1, s2, List.set_set, List.map_set]
  rfl
/-- A row of tasks. -/
def TRow (w : World) (base : Nat) (v : Value) (L : List Tsk) : Prop := w.ownsRow base 31 2 v L.length (flatT L)
section
variable {w w' : World} {base g cap n : Nat} {v : Value} {L : List Tsk}
theorem TRow.cells (h : TRow w base (.slice (some ⟨g, 0, none⟩) L.length cap) L) (i : Nat) (t : Tsk) (hi : L[i]? = some t) : w.cell? ⟨g, i * 2, none⟩ = some (.bool t.1) ∧ w.cell? ⟨g, i * 2 + 1, none⟩ = some (.int .i64 t.2) :=
  ⟨own_cell h _ _ (flatT_get L i 0 t hi (by decide)), own_cell h _ _ (flatT_get L i 1 t hi (by decide))⟩
theorem TRow.frozen (h : TRow w base (.slice (some ⟨g, 0, none⟩) L.length cap) L) (k : Nat) : w.frozen? ⟨g, k, none⟩ = false := own_frozen h k
theorem TRow.set (h : TRow w base (.slice (some ⟨g, 0, none⟩) L.length cap) L) (i : Nat) (t : Tsk) (hi : i < L.length) : TRow ((w.setCell ⟨g, i * 2, none⟩ (.bool t.1)).setCell ⟨g, i * 2 + 1, none⟩ (.int .i64 t.2)) base (.slice (some ⟨g, 0, none⟩) L.length cap) (L.set i t) := by
  unfold TRow
  rw [← flatT_set L i t hi, List.length_set]
  exact own_set (own_set h _ _) _ _
theorem TRow.later {B : Nat} (h : TRow w base v L) (hB : w.heap.size ≤ B) (f : Below B w w') : TRow w' base v L := own_later h hB f
theorem TRow.shape (h : TRow w base v L) : ∃ a c, v = .slice a L.length c := by
  rcases h.2 with ⟨e, e2⟩ | ⟨g, cap, cur, e, _⟩
  · exact ⟨none, 0, by rw [e, e2]⟩
  · exact ⟨_, cap, e⟩
theorem TRow.lt (h : TRow w base (.slice (some ⟨g, 0, none⟩) n cap) L) : base ≤ g ∧ g < w.heap.size := World.ownsRow.lt h g rfl
end
theorem info37 : (Try.prog.info? 31).map (fun i => (i.zero, i.size, i.bytes)) = some (some (.agg #[.bool false, .int .i64 0]), 2, 16) := by kernel_rfl
end Go.Proofs.Ytgjpkpmikbpcnaa
