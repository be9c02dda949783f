/-
  Several texts in one: CVrw CPts.
-/
import Derived.Test.YtndbikoccdjafaaACCarAG
namespace Go.Proofs.Ytndbikoccdjafaa
open Go.RowKit
def encV (v : Vst) : List Value := [.int .i64 v.1, .int .i64 v.2]
def flatV (L : List Vst) : List Value := (L.map encV).flatten
theorem encV_len (L : List Vst) : ∀ l ∈ L.map encV, l.length = 2 := by
  intro l hl
  obtain ⟨t, _, rfl⟩ := List.mem_map.1 hl
  rfl
theorem flatV_len (L : List Vst) : (flatV L).length = L.length * 2 := by unfold flatV; rw [flat_len (encV_len L), List.length_map]
theorem flatV_get (L : List Vst) (i c : Nat) (t : Vst) (h : L[i]? = some t) (hc : c < 2) : (flatV L)[i * 2 + c]? = (encV t)[c]? := flat_get (encV_len L) i c _ (by simp [h]) hc
theorem flatV_app (A B : List Vst) : flatV A ++ flatV B = flatV (A ++ B) := by simp [flatV]
theorem flatV_one (L : List Vst) : ∀ u ∈ flatV L, u.oneCell' = true := by
  intro u hu
  unfold flatV at hu
  obtain ⟨l, hl, hu⟩ := List.mem_flatten.1 hu
  obtain ⟨t, _, rfl⟩ := List.mem_map.1 hl
  simp [encV] at hu
  rcases hu with rfl | rfl <;> rfl
/-- A row of visits that is the function's own. -/
def VRow (w : World) (base : Nat) (v : Value) (L : List Vst) : Prop := w.ownsRow base 43 2 v L.length (flatV L)
theorem VRow.later {w w' : World} {base B : Nat} {v : Value} {L : List Vst} (h : VRow w base v L) (hB : w.heap.size ≤ B) (f : Below B w w') : VRow w' base v L := own_later h hB f
theorem VRow.shape {w : World} {base : Nat} {v : Value} {L : List Vst} (h : VRow w base v L) : ∃ a c, v = .slice a L.length c ∧ (a = none → c = 0) := by
  rcases h.2 with ⟨e1, e2⟩ | ⟨g, cap, cur, e1, _⟩
  · exact ⟨none, 0, by rw [e1, e2], fun _ => rfl⟩
  · exact ⟨_, cap, e1, fun e => by cases e⟩
theorem VRow.vs {w : World} {base : Nat} {v : Value} {L : List Vst} (h : VRow w base v L) (hb : L.length * 16 ≤ 140737488351232) : VsV w v L := by
  obtain ⟨a, c, rfl, _⟩ := h.shape
  refine ⟨a, c, rfl, hb, fun k hk => ?_⟩
  rcases h.2 with ⟨_, e2⟩ | ⟨g, cap, cur, e1, _⟩
  · omega
  · injection e1 with e1 _ e3
    subst e1 e3
    have hx : L[k]? = some L[k] := List.getElem?_eq_getElem hk
    have hd : L.getD k (0, 0) = L[k] := by rw [List.getD_eq_getElem?_getD, hx]; rfl
    refine ⟨g, 0, rfl, ?_, ?_⟩
    · have := World.ownsRow.cells (g := g) h rfl (k * 2) _ (by rw [show k * 2 = k * 2 + 0 by omega, flatV_get L k 0 _ hx (by decide)]; rfl)
      rw [add0] at this
      rw [Nat.zero_add, this]; simp only [hd]
    · have := World.ownsRow.cells (g := g) h rfl (k * 2 + 1) _ (by rw [flatV_get L k 1 _ hx (by decide)]; rfl)
      rw [add0] at this
      rw [Nat.zero_add, this]; simp only [hd]
theorem vs_news {w : World} {b off m c : Nat} {V : List Vst} (h : VsV w (.slice (some ⟨b, off, none⟩) m c) V) : ∀ (j : Nat) u, (flatV V)[j]? = some u → w.cell? ((⟨b, off, none⟩ : Addr).add j) = some u := by
  intro j u hj
  have hl : j < V.length * 2 := by have := (List.getElem?_eq_some_iff.1 hj).1; rw [flatV_len] at this; exact this
  obtain ⟨q, c, rfl, hc⟩ : ∃ q c, j = q * 2 + c ∧ c < 2 := ⟨j / 2, j % 2, by omega, by omega⟩
  have hk : q < V.length := by omega
  have hx : V[q]? = some V[q] := List.getElem?_eq_getElem hk
  obtain ⟨b', off', e, _, c1, c2, _⟩ := vs_cells h hx
  injection e with e
  injection e with e1 e2 _
  subst e1 e2
  rw [addAt]
  rw [flatV_get V q c _ hx hc] at hj
  rcases (show c = 0 ∨ c = 1 by omega) with rfl | rfl
  · rw [Nat.add_zero, c1]; exact hj
  · rw [← Nat.add_assoc, c2]; exact hj
/-- A slice of visits behind a row of visits. -/
theorem app_vis {w : World} {base k m vc sc : Nat} {va sa : Option Addr} {L V : List Vst} {ops : Array Oper} {rest : List Oper} {o : Oper} {a : Act} {Q : Exit → Act → World → Prop} (s x : Operand) (hgd : o.guard = none)
    (ho : o.op = .call { callee := .builtin .append, args := #[s, x], argTypes := #[30, 30] })
    (hs : a.eval s = .slice va k vc) (hx : a.eval x = .slice sa m sc) (hrow : VRow w base (.slice va k vc) L) (hk : L.length = k) (hV : VsV w (.slice sa m sc) V) (hm : V.length = m) (hz : sa = none → sc = 0) (hkm : k + m ≤ 1000) (hb : base ≤ w.heap.size)
    (h : ∀ va' cap' w', VRow w' base (.slice va' (k + m) cap') (L ++ V) → Below base w w' → w.grownBy w' (Value.ownBlock (.slice va k vc)) → wpList Try.prog ops Q rest (a.put o.dst (.slice va' (k + m) cap')) w') : wpList Try.prog ops Q (o :: rest) a w := by
  obtain ⟨i0, hi0, hy0, hy1, hy2⟩ := info_parts info34
  have hown : w.ownsRow base 43 2 (.slice va k vc) k (flatV L) := by have := hrow; unfold VRow at this; rw [hk] at this; exact this
  cases sa with
  | none =>
    have hm0 : m = 0 := by
      rcases Nat.eq_zero_or_pos m with e | e
      · exact e
      · obtain ⟨b, off, e', _⟩ := vs_cells hV (List.getElem?_eq_getElem (show 0 < V.length by omega))
        cases e'
    have hV0 : V = [] := List.eq_nil_of_length_eq_zero (by omega)
    subst hm0 hV0
    rw [hz rfl] at hx
    refine wpList_append_own_none hgd s x 30 ho base 43 i0 2 Try.underlying30 hi0 _ k _ hs hown hx ?_
    exact h va vc w (by rw [List.append_nil]; exact hrow) (Below.refl _ _) ⟨rfl, rfl, rfl, Nat.le_refl _, fun _ _ _ => rfl⟩
  | some ad =>
    rcases Nat.eq_zero_or_pos m with e | e
    · subst e
      have hV0 : V = [] := List.eq_nil_of_length_eq_zero hm
      subst hV0
      refine wpList_append_own w hgd s x 30 ho base 43 i0 _ 2 16 Try.underlying30 hi0 hy0 hy1 hy2 rfl (by decide) _ k _ hs hown ad 0 sc [] hx rfl (fun j u hj => by simp at hj) (fun u hu => by simp at hu) (by unfold maxLen; omega) (by omega) hb ?_
      intro v' w' h1 h2 _
      have hrow2 : VRow w' base v' (L ++ []) := by unfold VRow; rw [List.append_nil, hk]; simpa using h1
      obtain ⟨a2, c2, e2, _⟩ := hrow2.shape
      rw [List.append_nil, hk] at e2
      subst e2
      exact h a2 c2 w' hrow2 ((Below.refl _ _).grown h2 hb fun q hq => (hown.lt q hq).1) h2
    · obtain ⟨b, off, e', _⟩ := vs_cells hV (List.getElem?_eq_getElem (show 0 < V.length by omega))
      injection e' with e'
      subst e'
      refine wpList_append_own w hgd s x 30 ho base 43 i0 _ 2 16 Try.underlying30 hi0 hy0 hy1 hy2 rfl (by decide) _ k _ hs hown ⟨b, off, none⟩ m sc (flatV V) hx (by rw [flatV_len, hm]) (vs_news hV) (flatV_one V) (by unfold maxLen; omega) (by omega) hb ?_
      intro v' w' h1 h2 _
      rw [flatV_app] at h1
      have hrow2 : VRow w' base v' (L ++ V) := by unfold VRow; rw [List.length_append, hk, hm]; exact h1
      obtain ⟨a2, c2, e2, _⟩ := hrow2.shape
      rw [List.length_append, hk, hm] at e2
      subst e2
      exact h a2 c2 w' hrow2 ((Below.refl _ _).grown h2 hb fun q hq => (hown.lt q hq).1) h2
end Go.Proofs.Ytndbikoccdjafaa
namespace Go.Proofs.Ytndbikoccdjafaa
open Go.RowKit
theorem one_vs {w : World} {B : Nat} {k i : Int} (h : w.heap[B]? = some (.cells #[.int .i64 k, .int .i64 i] 43)) : VsV w (.slice (some ⟨B, 0, none⟩) 1 1) [(k, i)] := by
  refine ⟨some ⟨B, 0, none⟩, 1, rfl, by simp, fun q hq => ?_⟩
  have hq0 : q = 0 := by simp at hq; omega
  subst hq0
  exact ⟨B, 0, rfl, cell_of_row _ _ _ _ _ _ h, cell_of_row _ _ _ _ _ _ h⟩
end Go.Proofs.Ytndbikoccdjafaa
