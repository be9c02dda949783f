/-
  What the calls of the document's Put and Drop do.
-/
import Derived.Test.YtbgolkkfpajkdaaRefA
namespace Go.Proofs.Ytbgolkkfpajkdaa
open Go.RowKit Go.Maps

/-- An append at its operation, with where the row lies then. -/
theorem wpList_append_moved {P : Program} {w : World} {ops : Array Oper} {rest : List Oper} {o : Oper} {a : Act} {Q : Exit → Act → World → Prop}
    (hg : o.guard = none) (s x : Operand) (t : TypeId) (hop : o.op = Op.call { callee := Callee.builtin Builtin.append, args := #[s, x], argTypes := #[t, t] })
    (base : Nat) (e : TypeId) (i : TypeInfo) (z : Value) (size bytes : Nat) (ht : P.underlying t = some (.slice e)) (hi : P.info? e = some i) (hz : i.zero = some z)
    (hsize : i.size = size) (hby : i.bytes = bytes) (hzs : z.cells.size = size) (hsz : 0 < size)
    (v : Value) (n : Nat) (xs : List Value) (hs : a.eval s = v) (hown : w.ownsRow base e size v n xs)
    (ad : Addr) (m c : Nat) (news : List Value) (hx : a.eval x = .slice (some ad) m c) (hl : news.length = m * size) (hnews : ∀ j u, news[j]? = some u → w.cell? (ad.add j) = some u) (h1 : ∀ u ∈ news, u.oneCell' = true)
    (h63 : n + m ≤ maxLen) (hbytes : (n + m) * bytes ≤ 140737488355328) (hbase : base ≤ w.heap.size)
    (hK : ∀ v' w', w'.ownsRow base e size v' (n + m) (xs ++ news) → w.grownBy w' v.ownBlock → Moved w.heap.size v.ownBlock v'.ownBlock → wpList P ops Q rest (a.put o.dst v') w') :
    wpList P ops Q (o :: rest) a w := by
  refine wpList_plain hg fun K' hK' => ?_
  obtain ⟨v', w', hr, h2, h3, h4⟩ := append_moved (P := P) w base t o.type e i z size bytes ht hi hz hsize hby hzs hsz v n xs hown ad m c news hl hnews h1 h63 hbytes hbase
  unfold Oper.wp
  simp [execOp, hop, resolve, invoke, builtin, hs, hx, hr, Result.andThen]
  exact hK' _ _ (hK v' w' h2 h3 h4)
theorem info52 : (Try.prog.info? 52).map (fun i => (i.zero, i.size, i.bytes)) = some (some (.agg #[.int .i64 0, .int .i64 0]), 2, 16) := by kernel_rfl

/-- What stands behind a call of the document's queue. -/
def RE (r : Nat) (X' : List Pr) (T : Nat → Prop) (w w' : World) : Prop := Fr T w w' ∧ ∃ T', RAt r X' w' T' ∧ (∀ k, T' k → T k ∨ w.heap.size ≤ k) ∧ (∀ k, T' k → k < w'.heap.size)
section
variable {w w' : World} {r : Nat} {X : List Pr} {T : Nat → Prop}
theorem re_same (h : RAt r X w T) (hT : ∀ k, T k → k < w.heap.size) : RE r X T w w := ⟨Fr.refl _ _, T, h, fun _ h => .inl h, hT⟩
/-- A new row is stored. -/
theorem re_store {w3 : World} {v v3 : Value} {X' : List Pr} (hr : T r) (hT : ∀ k, T k → k < w.heap.size) (hF : Fr T w w3) (hb : w3.heap[r]? = some (.cells #[v] 29 (0, 0))) (hrow : RowE w3 v3 X') (hm : ∀ g, v3.ownBlock = some g → T g ∨ w.heap.size ≤ g) : RE r X' T w (w3.setCell ⟨r, 0, none⟩ v3) := by
  have hF4 := hF.setCell ⟨r, 0, none⟩ v3 (.inl hr)
  have hsz : (w3.setCell ⟨r, 0, none⟩ v3).heap.size = w3.heap.size := by simp [World.setCell]
  have hne : ∀ g, v3.ownBlock = some g → g ≠ r := by
    intro g e e2
    subst e2
    rcases hrow.2 with ⟨rfl, _⟩ | ⟨g2, cap, cur, rfl, _, hb2, _⟩
    · cases e
    · have e3 : g2 = g := by simpa [Value.ownBlock] using e
      rw [e3, hb] at hb2
      simp at hb2
  have hlt : ∀ g, v3.ownBlock = some g → g < w3.heap.size := fun g e => (World.ownsRow.lt hrow g e).2
  refine ⟨hF4, fun k => T k ∨ v3.ownBlock = some k, ⟨⟨v3, ?_, hrow.of_block (fun g e => heap_setCell_other _ _ _ _ (hne g e)), fun g e => .inr e⟩, .inl hr⟩, fun k h => ?_, fun k h => ?_⟩
  · rw [heap_setCell_same w3 r 0 _ _ v3 hb]; rfl
  · rcases h with h | h
    · exact .inl h
    · exact hm k h
  · rw [hsz]
    rcases h with h | h
    · exact Nat.lt_of_lt_of_le (hT k h) hF.size
    · exact hlt k h
theorem one_cells (x k : Int) : ∀ u ∈ [Value.int .i64 x, Value.int .i64 k], u.oneCell' = true := by simp [Value.oneCell']

set_option maxRecDepth 100000 in
set_option maxHeartbeats 800000 in
theorem rput_any (h : RAt r X w T) (hT : ∀ k, T k → k < w.heap.size) (hl : X.length ≤ 4096) (hd : Dis X) (x k : Int) :
    Calls Try.prog 17 #[.pointer (some ⟨r, 0, none⟩), .int .i64 x, .int .i64 k] w fun e w' => e = .returned (.bool (putM X x k).2) ∧ RE r (putM X x k).1 T w w' := by
  have HF := find_any h hl x
  have hsame := re_same h hT
  obtain ⟨v, h1, h2, h3⟩ := h.ex
  have c0 := cell_of_row w r 0 _ _ _ h1
  simp only [List.getElem?_toArray, List.getElem?_cons_zero] at c0
  have zf := frozen_of_row w r 0 _ _ h1
  rcases find_look X x with ⟨e1, e2⟩ | ⟨i, hi, e1, e2, e3, _⟩
  · rw [e2] at HF
    replace HF := hide HF
    have hpm : putM X x k = if X.length < 4096 then (X ++ [(x, k)], true) else (X, false) := by unfold putM; rw [e1]
    rw [hpm]
    obtain ⟨a, cap, hv, hc1, hc2⟩ := h2.shape
    by_cases hl2 : X.length < 4096
    · rw [if_pos hl2]
      obtain ⟨i0, hi0, hy0, hy1, hy2⟩ := info_parts info52
      have hrl : r < w.heap.size := hT r h.tr
      have hn4 : ¬ (4096 : Int) ≤ (X.length : Int) := by omega
      have hrv : some r ≠ v.ownBlock := fun e => by
        rcases h2.2 with ⟨rfl, _⟩ | ⟨g2, cap, cur, rfl, _, hb2, _⟩
        · cases e
        · have e3 : g2 = r := by simpa [Value.ownBlock] using e.symm
          rw [e3, h1] at hb2
          simp at hb2
      have HE : Hid (∀ v3 w3, w3.ownsRow 0 52 2 v3 (X.length + 1) (flat X ++ [.int .i64 x, .int .i64 k]) → (w.alloc (.cells #[.int .i64 x, .int .i64 k] 52)).grownBy w3 v.ownBlock → Moved (w.alloc (.cells #[.int .i64 x, .int .i64 k] 52)).heap.size v.ownBlock v3.ownBlock →
          (w3.cell? ⟨r, 0, none⟩ = some v ∧ w3.frozen? ⟨r, 0, none⟩ = false) ∧ RE r (X ++ [(x, k)]) T w (w3.setCell ⟨r, 0, none⟩ v3)) := by
        intro v3 w3 ho hg hm
        have hb3 : w3.heap[r]? = some (.cells #[v] 29 (0, 0)) := by rw [hg.block r (by simp; omega) hrv, Below.heap_alloc _ _ _ hrl]; exact h1
        refine ⟨⟨by rw [cell_of_row w3 r 0 _ _ _ hb3]; rfl, frozen_of_row w3 r 0 _ _ hb3⟩, re_store h.tr hT (((Fr.refl T w).alloc _).trans0 (Fr.of_grown hg (fun g e => h3 g e))) hb3 ?_ (fun g e => ?_)⟩
        · unfold RowE
          rw [flat_app, List.length_append]
          exact ho
        · rcases hm with h4 | ⟨g2, h4, h5⟩
          · exact .inl (h3 g (h4 ▸ e))
          · rw [h4] at e
            cases e
            exact .inr (by simp at h5; omega)
      have HRow := hide (World.ownsRow.alloc h2 (.cells #[.int .i64 x, .int .i64 k] 52))
      have HN : Hid (∀ j u, [Value.int .i64 x, Value.int .i64 k][j]? = some u → (w.alloc (.cells #[.int .i64 x, .int .i64 k] 52)).cell? ((⟨w.heap.size, 0, none⟩ : Addr).add j) = some u) := fun j u hj => cells_new w [.int .i64 x, .int .i64 k] 52 w.heap.size rfl j u hj
      subst hv
      clear h h1 h2 h3 hsame hpm e1 e2 hrv
      go_enter Try.func17, Try.ntmps17
      go_wp2_with (first | (go_at_call 21; refine HF.out.mono ?_; rintro e w2 ⟨rfl, rfl⟩) | (at_builtin; refine wpList_append_moved rfl (.tmp 23) (.tmp 27) 27 rfl 0 52 i0 (.agg #[.int .i64 0, .int .i64 0]) 2 16 Try.underlying27 hi0 hy0 hy1 hy2 rfl (by decide) (.slice a X.length cap) X.length (flat X) rfl HRow.out _ 1 1 [.int .i64 x, .int .i64 k] rfl rfl HN.out (one_cells x k) (by unfold maxLen; omega) (by omega) (by simp) ?_; intro v3 w3 ho hg hm; obtain ⟨a3, cap3, rfl⟩ := own_shape ho; obtain ⟨⟨t0, t1⟩, hre⟩ := HE.out _ w3 ho hg hm; have HRE := hide hre; clear hre ho hg hm))
      go_ret
      exact ⟨rfl, HRE.out⟩
    · rw [if_neg hl2]
      have hX : X.length = 4096 := by omega
      have HS := hide hsame
      subst hv
      rw [hX] at c0
      clear h h1 h2 h3 hsame hpm e1 e2
      go_enter Try.func17, Try.ntmps17
      go_wp2_with (go_at_call 21; refine HF.out.mono ?_; rintro e w2 ⟨rfl, rfl⟩)
      go_ret
      exact ⟨rfl, HS.out⟩
  · rw [e3] at HF
    replace HF := hide HF
    have hpm : putM X x k = if k < (at' X i).2 then (X.map (repl x k), true) else (X, false) := by unfold putM; rw [e2]
    rw [hpm]
    obtain ⟨g, cap, hv, hc1, hc2⟩ := h2.nonempty (by omega)
    subst hv
    obtain ⟨_, a1⟩ := h2.cells i hi
    obtain ⟨cur, hgb⟩ := h2.blk
    have zg := frozen_of_row w g (i * 2 + 1) _ _ hgb
    have i1 : (i : Int) < (X.length : Int) := by omega
    by_cases hlt : k < (at' X i).2
    · rw [if_pos hlt]
      have hgr : r ≠ g := fun e => by rw [← e, h1] at hgb; simp at hgb
      have HE : Hid (RE r (X.map (repl x k)) T w (w.setCell ⟨g, i * 2 + 1, none⟩ (.int .i64 k))) := by
        have hF : Fr T w (w.setCell ⟨g, i * 2 + 1, none⟩ (.int .i64 k)) := (Fr.refl T w).setCell _ _ (.inl (h3 g rfl))
        refine ⟨hF, T, ⟨⟨.slice (some ⟨g, 0, none⟩) X.length cap, by rw [heap_setCell_other w ⟨g, i * 2 + 1, none⟩ r _ hgr]; exact h1, ?_, h3⟩, h.tr⟩, fun _ h => .inl h, fun b hb => by simpa [World.setCell] using hT b hb⟩
        have h4 := flat_set X i ((at' X i).1, k) hi
        have h5 : (flat X).set (i * 2) (.int .i64 ((at' X i).1, k).1) = flat X := by
          apply List.ext_getElem?
          intro j
          rw [List.getElem?_set]
          split
          · rename_i e
            subst e
            have := (flat_get X i hi).1
            rw [this, if_pos (by rw [flat_len]; omega)]
          · rfl
        rw [h5] at h4
        unfold RowE
        rw [List.length_map, ← e1, ← set_repl hd hi k, ← h4]
        obtain ⟨g1, g2⟩ := h2
        refine ⟨by simpa using g1, ?_⟩
        rcases g2 with ⟨g2, _⟩ | ⟨gg, cap2, cur2, e, a, hb, r1, r2, r3, r4⟩
        · cases g2
        · cases e
          refine .inr ⟨g, cap, cur2.setIfInBounds (i * 2 + 1) (.int .i64 k), rfl, a, heap_setCell_same w g _ _ _ _ hb, r1, r2, by simpa using r3, ?_⟩
          rw [← r4, Array.toList_setIfInBounds, List.take_set]
      obtain ⟨z, hz⟩ : ∃ z, (at' X i).2 = z := ⟨_, rfl⟩
      rw [hz] at a1 hlt
      clear h h1 h2 h3 hsame hpm e1 e2 e3 hz hgb hd
      go_enter Try.func17, Try.ntmps17
      go_wp2_with (go_at_call 21; refine HF.out.mono ?_; rintro e w2 ⟨rfl, rfl⟩)
      go_ret
      exact ⟨rfl, HE.out⟩
    · rw [if_neg hlt]
      obtain ⟨z, hz⟩ : ∃ z, (at' X i).2 = z := ⟨_, rfl⟩
      rw [hz] at a1 hlt
      have HS := hide hsame
      have hlt2 : z ≤ k := by omega
      clear h h1 h2 h3 hsame hpm e1 e2 e3 hz hgb hd hlt
      go_enter Try.func17, Try.ntmps17
      go_wp2_with (go_at_call 21; refine HF.out.mono ?_; rintro e w2 ⟨rfl, rfl⟩)
      go_ret
      exact ⟨rfl, HS.out⟩
end
end Go.Proofs.Ytbgolkkfpajkdaa
