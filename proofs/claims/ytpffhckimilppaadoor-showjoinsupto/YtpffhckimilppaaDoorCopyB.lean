/-
  A copied tree in memory of its own: the row of its values, and each value's names and kids in blocks of their own.
-/
import Derived.Test.YtpffhckimilppaaDoorCopied
namespace Go.Proofs.YtpffhckimilppaaDoor.Jn
open Go.RowKit
set_option maxRecDepth 100000

/-- A row of elements of one cell in block g (where there are any). -/
def RowF (w : World) (base : Nat) (e : TypeId) (g : Nat) (v : Value) (xs : List Value) : Prop :=
  ∃ a c, v = .slice a xs.length c ∧ xs.length ≤ 9223372036854775807 ∧ (xs ≠ [] → a = some ⟨g, 0, none⟩ ∧ base ≤ g ∧ ∃ arr : Array Value, w.heap[g]? = some (.cells arr e (0, 0)) ∧ ∀ (j : Nat) (u : Value), xs[j]? = some u → arr[j]? = some u)
section
variable {w w' : World} {base g : Nat} {e : TypeId} {v : Value} {xs : List Value}
theorem RowF.kept (h : RowF w base e g v xs) (hb : xs ≠ [] → w'.heap[g]? = w.heap[g]?) : RowF w' base e g v xs := by
  obtain ⟨a, c, h1, h2, h3⟩ := h
  refine ⟨a, c, h1, h2, fun hx => ?_⟩
  obtain ⟨k1, k2, arr, k3, k4⟩ := h3 hx
  exact ⟨k1, k2, arr, (hb hx).trans k3, k4⟩
theorem RowF.lt (h : RowF w base e g v xs) (hx : xs ≠ []) : g < w.heap.size := by
  obtain ⟨_, _, _, _, h3⟩ := h
  obtain ⟨_, _, arr, k3, _⟩ := h3 hx
  exact (Array.getElem?_eq_some_iff.1 k3).1
theorem RowF.later (h : RowF w base e g v xs) (hb : Below w.heap.size w w') : RowF w' base e g v xs := h.kept fun hx => hb.block g (h.lt hx)
theorem RowF.ne {g' : Nat} {e' : TypeId} {arr : Array Value} {f : Nat × Nat} (h : RowF w base e g v xs) (hx : xs ≠ []) (hg : w.heap[g']? = some (.cells arr e' f)) (he : e ≠ e') : g ≠ g' := by
  rintro rfl
  obtain ⟨_, _, _, _, h3⟩ := h
  obtain ⟨_, _, arr2, k3, _⟩ := h3 hx
  rw [hg] at k3
  injection k3 with k3
  injection k3 with _ k3
  exact he k3.symm
theorem RowF.store {k R : Nat} {y : Value} {arr : Array Value} (h : RowF w base e g v xs) (hR : w.heap[R]? = some (.cells arr 42 (0, 0))) (he : e ≠ 42) : RowF (w.setCell ⟨R, k, none⟩ y) base e g v xs :=
  h.kept fun hx => heap_setCell_other w ⟨R, k, none⟩ g y (h.ne hx hR he)
theorem RowF.at (h : RowF w base e g v xs) : SlAt w v xs := by
  obtain ⟨a, c, h1, h2, h3⟩ := h
  refine ⟨a, c, h1, h2, fun j u hu => ?_⟩
  have hx : xs ≠ [] := by rintro rfl; simp at hu
  obtain ⟨k1, _, arr, k3, k4⟩ := h3 hx
  exact ⟨_, k1, by rw [add0, cell_of_row _ g j _ _ _ k3]; exact k4 j u hu⟩
theorem RowF.mono {base' : Nat} (h : RowF w base e g v xs) (hb : base' ≤ base) : RowF w base' e g v xs := by
  obtain ⟨a, c, h1, h2, h3⟩ := h
  refine ⟨a, c, h1, h2, fun hx => ?_⟩
  obtain ⟨k1, k2, k3⟩ := h3 hx
  exact ⟨k1, Nat.le_trans hb k2, k3⟩
end
/-- The cells of a row of values. -/
def Cel (cs : List Value) (T : List VI) (nv kv : Nat → Value) : Prop := ∀ (i : Nat) (x : VI), T[i]? = some x → ∀ (j : Nat) (u : Value), (aggI x (nv i) (kv i))[j]? = some u → cs[i * 6 + j]? = some u
/-- A tree in memory of its own. -/
structure CT (w : World) (base : Nat) (v : Value) (T : List VI) (nv kv : Nat → Value) (H G : Nat → Nat) : Prop where
  row : ∃ cs, w.ownsRow base 42 6 v T.length cs ∧ Cel cs T nv kv
  nms : ∀ (i : Nat) (x : VI), T[i]? = some x → RowF w base 9 (H i) (nv i) (x.names.map strv)
  kds : ∀ (i : Nat) (x : VI), T[i]? = some x → RowF w base 3 (G i) (kv i) (x.kids.map intv)
  inj : ∀ (i i' : Nat) (x x' : VI), T[i]? = some x → T[i']? = some x' → x.kids ≠ [] → x'.kids ≠ [] → G i = G i' → i = i'
/-- A row of values whose names and kids are read wherever they lie. -/
theorem tree_row {w : World} {base : Nat} {v : Value} {T : List VI} {nv kv : Nat → Value} {cs : List Value} (h : w.ownsRow base 42 6 v T.length cs) (hc : Cel cs T nv kv) (hv : ∀ (i : Nat) (x : VI), T[i]? = some x → VAt w x (nv i) (kv i)) : TreeAt w v T := by
  rcases h.2 with ⟨rfl, h0⟩ | ⟨g, cap, cur, rfl, _, hg, hnc, hcm, _⟩
  · exact ⟨none, 0, by rw [h0], by omega, fun i x hx => by have := (List.getElem?_eq_some_iff.1 hx).1; omega⟩
  · refine ⟨_, cap, rfl, by unfold maxLen at hcm; omega, fun i x hx => ⟨g, 0, nv i, kv i, rfl, hv i x hx, fun j u hu => ?_⟩⟩
    have := h.cells (g := g) rfl (i * 6 + j) u (hc i x hx j u hu)
    rw [add0] at this
    rw [Nat.zero_add]; exact this
theorem CT.tree {w : World} {base : Nat} {v : Value} {T : List VI} {nv kv : Nat → Value} {H G : Nat → Nat} (h : CT w base v T nv kv H G) : TreeAt w v T := by
  obtain ⟨cs, h1, h2⟩ := h.row
  exact tree_row h1 h2 fun i x hx => ⟨(h.nms i x hx).at, (h.kds i x hx).at⟩
theorem row_later {w w' : World} {base n : Nat} {v : Value} {cs : List Value} (h : w.ownsRow base 42 6 v n cs) (hb : Below w.heap.size w w') : w'.ownsRow base 42 6 v n cs := own_of_block h fun k hk => hb.block k (h.lt k hk).2
theorem CT.later {w w' : World} {base : Nat} {v : Value} {T : List VI} {nv kv : Nat → Value} {H G : Nat → Nat} (h : CT w base v T nv kv H G) (hb : Below w.heap.size w w') : CT w' base v T nv kv H G := by
  obtain ⟨cs, h1, h2⟩ := h.row
  exact ⟨⟨cs, row_later h1 hb, h2⟩, fun i x hx => (h.nms i x hx).later hb, fun i x hx => (h.kds i x hx).later hb, h.inj⟩
/-- While the copy is made: k values have their own names and kids. -/
structure Out2 (w : World) (base R cap : Nat) (T : List VI) (k : Nat) : Prop where
  ex : ∃ (nv kv : Nat → Value) (H G : Nat → Nat) (cs : List Value), w.ownsRow base 42 6 (.slice (some ⟨R, 0, none⟩) T.length cap) T.length cs ∧ Cel cs T nv kv ∧
    (∀ (i : Nat) (x : VI), T[i]? = some x → (i < k → RowF w base 9 (H i) (nv i) (x.names.map strv) ∧ RowF w base 3 (G i) (kv i) (x.kids.map intv)) ∧ (k ≤ i → SlAtN w R (nv i) (x.names.map strv) ∧ SlAtN w R (kv i) (x.kids.map intv))) ∧
    (∀ (i i' : Nat) (x x' : VI), i < k → i' < k → T[i]? = some x → T[i']? = some x' → x.kids ≠ [] → x'.kids ≠ [] → G i = G i' → i = i')
section
variable {w w' : World} {base R cap k : Nat} {T : List VI}
theorem own_R {n : Nat} {cs : List Value} (h : w.ownsRow base 42 6 (.slice (some ⟨R, 0, none⟩) n cap) n cs) : ∃ arr, w.heap[R]? = some (.cells arr 42 (0, 0)) ∧ base ≤ R := by
  rcases h.2 with ⟨h, _⟩ | ⟨g, c, cur, e, hb, hg, _⟩
  · cases h
  · cases e; exact ⟨cur, hg, hb⟩
theorem Out2.lt (h : Out2 w base R cap T k) : R < w.heap.size := by
  obtain ⟨_, _, _, _, _, h1, _⟩ := h.ex
  obtain ⟨arr, h2, _⟩ := own_R h1
  exact (Array.getElem?_eq_some_iff.1 h2).1
theorem Out2.low (h : Out2 w base R cap T k) : base ≤ R := by
  obtain ⟨_, _, _, _, _, h1, _⟩ := h.ex
  exact (own_R h1).choose_spec.2
theorem Out2.cell (h : Out2 w base R cap T k) {x : VI} (hx : T[k]? = some x) : ∃ nv kv, SlAtN w R nv (x.names.map strv) ∧ SlAtN w R kv (x.kids.map intv) ∧ w.cell? ⟨R, k * 6 + 4, none⟩ = some nv ∧ w.cell? ⟨R, k * 6 + 5, none⟩ = some kv ∧ ∀ j, w.frozen? ⟨R, j, none⟩ = false := by
  obtain ⟨nv, kv, H, G, cs, h1, h2, h3, h4⟩ := h.ex
  obtain ⟨k1, k2⟩ := (h3 k x hx).2 (Nat.le_refl _)
  have c := fun j u hu => h1.cells (g := R) rfl (k * 6 + j) u (h2 k x hx j u hu)
  have c4 := c 4 _ rfl
  have c5 := c 5 _ rfl
  rw [add0] at c4 c5
  obtain ⟨arr, hR, _⟩ := own_R h1
  exact ⟨nv k, kv k, k1, k2, c4, c5, fun j => frozen_of_row w R j _ _ hR⟩
theorem Out2.step (h : Out2 w base R cap T k) (hb : Below w.heap.size w w') {x : VI} (hx : T[k]? = some x) {g h' : Nat} {nv' kv' : Value} (hn : RowF w' base 9 h' nv' (x.names.map strv)) (hk : RowF w' base 3 g kv' (x.kids.map intv)) (hg : w.heap.size ≤ g) :
    Out2 ((w'.setCell ⟨R, k * 6 + 4, none⟩ nv').setCell ⟨R, k * 6 + 5, none⟩ kv') base R cap T (k + 1) := by
  obtain ⟨nv, kv, H, G, cs, h1, h2, h3, h4⟩ := h.ex
  have h1' := row_later h1 hb
  obtain ⟨arr, hR, _⟩ := own_R h1'
  have s1 := World.ownsRow.stored h1' (k * 6 + 4) nv'
  obtain ⟨arr2, hR2, _⟩ := own_R s1.1
  have s2 := World.ownsRow.stored s1.1 (k * 6 + 5) kv'
  have hkl : k < T.length := (List.getElem?_eq_some_iff.1 hx).1
  have hcl : cs.length = T.length * 6 := h1.1
  refine ⟨fun i => if i = k then nv' else nv i, fun i => if i = k then kv' else kv i, fun i => if i = k then h' else H i, fun i => if i = k then g else G i, _, s2.1, ?_, ?_, ?_⟩
  · intro i y hy j u hu
    have hj := agg_lt hu
    have hil : i < T.length := (List.getElem?_eq_some_iff.1 hy).1
    by_cases e : i = k
    · subst e
      rw [hx] at hy; cases hy
      simp only [if_true] at hu
      have hj6 : j = 0 ∨ j = 1 ∨ j = 2 ∨ j = 3 ∨ j = 4 ∨ j = 5 := by omega
      have base0 := h2 i x hx j
      rcases hj6 with rfl | rfl | rfl | rfl | rfl | rfl
      · rw [List.getElem?_set_ne (by omega), List.getElem?_set_ne (by omega)]; exact base0 u hu
      · rw [List.getElem?_set_ne (by omega), List.getElem?_set_ne (by omega)]; exact base0 u hu
      · rw [List.getElem?_set_ne (by omega), List.getElem?_set_ne (by omega)]; exact base0 u hu
      · rw [List.getElem?_set_ne (by omega), List.getElem?_set_ne (by omega)]; exact base0 u hu
      · rw [List.getElem?_set_ne (by omega), List.getElem?_set_self (by omega)]; exact hu
      · rw [List.getElem?_set_self (by simp; omega)]; exact hu
    · simp only [if_neg e] at hu
      rw [List.getElem?_set_ne (by omega), List.getElem?_set_ne (by omega)]
      exact h2 i y hy j u hu
  · intro i y hy
    refine ⟨fun hi => ?_, fun hi => ?_⟩
    · by_cases e : i = k
      · subst e
        rw [hx] at hy; cases hy
        simp only [if_true]
        exact ⟨(hn.store hR (by decide)).store hR2 (by decide), (hk.store hR (by decide)).store hR2 (by decide)⟩
      · simp only [if_neg e]
        obtain ⟨k1, k2⟩ := (h3 i y hy).1 (by omega)
        exact ⟨((k1.later hb).store hR (by decide)).store hR2 (by decide), ((k2.later hb).store hR (by decide)).store hR2 (by decide)⟩
    · have e : i ≠ k := by omega
      simp only [if_neg e]
      obtain ⟨k1, k2⟩ := (h3 i y hy).2 (by omega)
      exact ⟨(k1.later hb).store.store, (k2.later hb).store.store⟩
  · intro i i' y y' hi hi' hy hy' n1 n2 e
    have old : ∀ (i : Nat) (y : VI), i < k → T[i]? = some y → y.kids ≠ [] → G i < w.heap.size := fun i y hi hy hn => ((h3 i y hy).1 hi).2.lt (by simpa using hn)
    by_cases e1 : i = k
    · by_cases e2 : i' = k
      · omega
      · simp only [if_pos e1, if_neg e2] at e
        have := old i' y' (by omega) hy' n2
        omega
    · by_cases e2 : i' = k
      · simp only [if_pos e2, if_neg e1] at e
        have := old i y (by omega) hy n1
        omega
      · simp only [if_neg e1, if_neg e2] at e
        exact h4 i i' y y' (by omega) (by omega) hy hy' n1 n2 e
theorem Out2.done (h : Out2 w base R cap T T.length) : ∃ nv kv H G, CT w base (.slice (some ⟨R, 0, none⟩) T.length cap) T nv kv H G := by
  obtain ⟨nv, kv, H, G, cs, h1, h2, h3, h4⟩ := h.ex
  have hlt : ∀ {i : Nat} {x : VI}, T[i]? = some x → i < T.length := fun hx => (List.getElem?_eq_some_iff.1 hx).1
  exact ⟨nv, kv, H, G, ⟨cs, h1, h2⟩, fun i x hx => ((h3 i x hx).1 (hlt hx)).1, fun i x hx => ((h3 i x hx).1 (hlt hx)).2, fun i i' x x' hx hx' => h4 i i' x x' (hlt hx) (hlt hx') hx hx'⟩
end
/-- The first copy, of the values alone. -/
theorem out_copy2 (w : World) {a : Option Addr} {c : Nat} {T : List VI} (h : TreeAt w (.slice a T.length c) T) (hn : T.length ≤ 100000) (h0 : T.length ≠ 0) (ty : TypeId) :
    ∃ R cap w', (Builtin.append_ #[23, 23] ty #[.slice (some ⟨w.heap.size, 0, none⟩) 0 0, .slice a T.length c]).run Tryd.prog (w.alloc (.cells #[] 42)) = .ok (.slice (some ⟨R, 0, none⟩) T.length cap) w' ∧ Below w.heap.size w w' ∧ Out2 w' w.heap.size R cap T 0 := by
  obtain ⟨i0, hi0, hy0, hy1, hy2⟩ := info_parts info42
  have fA : Below w.heap.size w (w.alloc (.cells #[] 42)) := (Below.refl _ _).alloc (Nat.le_refl _) _
  have hown : (w.alloc (.cells #[] 42)).ownsRow w.heap.size 42 6 (.slice (some ⟨w.heap.size, 0, none⟩) 0 0) 0 [] := World.ownsRow_made w #[] 0 (Nat.le_refl _) (by decide) rfl
  obtain ⟨ad, news, rfl, hl, h1, hc, hx⟩ := tree_cells (h.later fA) h0
  obtain ⟨v', w', hr, ho, hgr, _⟩ := run_append_own (P := Tryd.prog) (w.alloc (.cells #[] 42)) w.heap.size 23 ty 42 i0 _ 6 88 Tryd.underlying23 hi0 hy0 hy1 hy2 rfl (by decide) _ 0 [] hown ad T.length c news hl hc h1 (by unfold maxLen; omega) (by omega) (by simp)
  rw [Nat.zero_add, List.nil_append] at ho
  have hbb : Below w.heap.size w w' := fA.grown hgr fA.size fun k hk => (hown.lt k hk).1
  have hoo := ho
  rcases ho.2 with ⟨_, e⟩ | ⟨R, cap, cur, rfl, hbR, _⟩
  · exact absurd e h0
  · refine ⟨R, cap, w', hr, hbb, ?_⟩
    have hT0 : ∀ {xs : List Value} {v : Value}, SlAt w v xs → SlAtN w' R v xs := fun hs => (hs.apart hbR).later hbb
    have hxo : ∀ i : Nat, ∃ p : Value × Value, ∀ x, T[i]? = some x → VAt w x p.1 p.2 ∧ ∀ (j : Nat) (u : Value), (aggI x p.1 p.2)[j]? = some u → news[i * 6 + j]? = some u := fun i => by
      cases hT : T[i]? with
      | none => exact ⟨(.bool false, .bool false), fun x hx => by cases hx⟩
      | some y =>
        obtain ⟨a', c', e, hl', ha⟩ := h
        injection e with e1 _ _
        subst e1
        obtain ⟨g, o, nv, kv, e2, hv, hcc⟩ := ha i y hT
        injection e2 with e2
        subst e2
        refine ⟨(nv, kv), fun x hx => by
          cases hx
          refine ⟨hv, fun j u hu => ?_⟩
          have hil : i < T.length := (List.getElem?_eq_some_iff.1 hT).1
          have hj := agg_lt hu
          obtain ⟨u2, hu2⟩ : ∃ u2, news[i * 6 + j]? = some u2 := ⟨_, List.getElem?_eq_getElem (by omega)⟩
          have q1 := hc _ u2 hu2
          have q2 := hcc j u hu
          have q3 := (fA.cell (p := ⟨g, o + i * 6 + j, none⟩) (block_lt_of_cell q2)).trans q2
          have e5 : (⟨g, o, none⟩ : Addr).add (i * 6 + j) = ⟨g, o + i * 6 + j, none⟩ := by
            unfold Addr.add
            split
            · rename_i hz
              have : o + i * 6 + j = o := by omega
              rw [this]
            · rw [Nat.add_assoc]
          rw [e5, q3] at q1
          cases q1
          exact hu2⟩
    obtain ⟨f, hf⟩ := Classical.axiomOfChoice hxo
    refine ⟨fun i => (f i).1, fun i => (f i).2, fun _ => 0, fun _ => 0, news, hoo, fun i x hx => (hf i x hx).2, fun i x hx => ⟨fun hi => by omega, fun _ => ⟨hT0 (hf i x hx).1.names, hT0 (hf i x hx).1.kids⟩⟩, fun i i' x x' hi => by omega⟩
end Go.Proofs.YtpffhckimilppaaDoor.Jn
