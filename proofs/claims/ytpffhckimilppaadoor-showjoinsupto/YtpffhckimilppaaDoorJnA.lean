/-
  Two copied trees while the second one's values are shifted and put behind the first one's.
-/
import Derived.Test.YtpffhckimilppaaDoorCopyB
import Derived.Test.YtpffhckimilppaaDoorJnP
namespace Go.Proofs.YtpffhckimilppaaDoor.Jn
open Go.RowKit
set_option maxRecDepth 100000

/-- An append of one value, just built, onto a row of values of the call's own. -/
theorem append_val {base : Nat} {w : World} {tv : Value} {n c : Nat} {cs vals : List Value} {arr : Array Value} (ty : TypeId) (hr : w.ownsRow base 42 6 tv n cs) (hb : base ≤ w.heap.size) (harr : arr.toList = vals) (h6 : vals.length = 6) (h1 : ∀ u ∈ vals, u.oneCell' = true) (hn : n ≤ 100000) (hv : tv.ownBlock ≠ none) :
    ∃ v' w', (Builtin.append_ #[23, 23] ty #[tv, .slice (some ⟨w.heap.size, 0, none⟩) 1 c]).run Tryd.prog (w.alloc (.cells arr 42)) = .ok v' w' ∧ w'.ownsRow base 42 6 v' (n + 1) (cs ++ vals) ∧ w'.ownsRow base 42 6 tv n cs ∧ (∀ b, b < w.heap.size → some b ≠ tv.ownBlock → w'.heap[b]? = w.heap[b]?) ∧
      (v'.ownBlock = tv.ownBlock ∨ ∃ g, v'.ownBlock = some g ∧ w.heap.size ≤ g) ∧ w.heap.size ≤ w'.heap.size ∧ w.grownBy w' tv.ownBlock := by
  obtain ⟨i0, hi0, hy0, hy1, hy2⟩ := info_parts info42
  have hb1 : Below w.heap.size w (w.alloc (.cells arr 42)) := (Below.refl _ _).alloc (Nat.le_refl _) _
  have hr1 := row_later hr hb1
  have hnews : ∀ j u, vals[j]? = some u → (w.alloc (.cells arr 42)).cell? ((⟨w.heap.size, 0, none⟩ : Addr).add j) = some u := fun j u hu => by
    rw [add0, cell_of_row _ w.heap.size j _ _ _ (heap_alloc_new _ _), ← Array.getElem?_toList, harr]; exact hu
  have hs1 : (w.alloc (.cells arr 42)).heap.size = w.heap.size + 1 := by simp
  obtain ⟨v', w', hrun, ho, hg, _⟩ := run_append_own (P := Tryd.prog) (w.alloc (.cells arr 42)) base 23 ty 42 i0 _ 6 88 Tryd.underlying23 hi0 hy0 hy1 hy2 rfl (by decide) tv n cs hr1 ⟨w.heap.size, 0, none⟩ 1 c vals (by rw [h6]) hnews h1 (by unfold maxLen; omega) (by omega) (by omega)
  have hblk : ∀ b, b < w.heap.size → some b ≠ tv.ownBlock → w'.heap[b]? = w.heap[b]? := fun b hlt hne => (hg.block b (by omega) hne).trans (heap_alloc_old w _ hlt)
  have hgr : w.grownBy w' tv.ownBlock := ⟨hg.os, hg.tape, hg.output, by have := hg.size; omega, fun b hlt hne => hblk b hlt hne⟩
  rcases hr.2 with ⟨rfl, _⟩ | ⟨g, cap, cur, rfl, hbg, hgg, hnc, hcm, hcs, htake⟩
  · exact absurd rfl hv
  · have hgl : g < w.heap.size := (Array.getElem?_eq_some_iff.1 hgg).1
    have hgg1 : (w.alloc (.cells arr 42)).heap[g]? = some (.cells cur 42 (0, 0)) := (heap_alloc_old w _ hgl).trans hgg
    by_cases hroom : n + 1 ≤ cap
    · have hfit : n * 6 + vals.length ≤ cur.size := by rw [h6, hcs]; omega
      have hr2 := run_append_room (P := Tryd.prog) (w.alloc (.cells arr 42)) 23 ty 42 i0 Tryd.underlying23 hi0 g n cap cur hgg1 ⟨w.heap.size, 0, none⟩ 1 c vals (by rw [h6, hy1]) hnews h1 hroom (by rw [hy1]; exact hfit)
      rw [hrun] at hr2
      cases hr2
      refine ⟨_, _, hrun, ho, ?_, hblk, .inl rfl, hgr.size, hgr⟩
      rcases ho.2 with ⟨e, _⟩ | ⟨g2, cap2, cur2, e2, hb2, hg2, hnc2, hcm2, hcs2, ht2⟩
      · cases e
      · cases e2
        refine ⟨hr.1, .inr ⟨g, cap, cur2, rfl, hbg, hg2, hnc, hcm, hcs2, ?_⟩⟩
        have := congrArg (List.take (n * 6)) ht2
        rw [List.take_take, Nat.min_eq_left (by omega), List.take_left' hr.1] at this
        exact this
    · have holds : ∀ j u, cs[j]? = some u → (w.alloc (.cells arr 42)).cell? ((⟨g, 0, none⟩ : Addr).add j) = some u := fun j u hu => hr1.cells (g := g) rfl j u hu
      have hr2 := run_append_grow (P := Tryd.prog) (w.alloc (.cells arr 42)) 23 ty 42 i0 _ Tryd.underlying23 hi0 hy0 ⟨g, 0, none⟩ n cap cs (by rw [hr.1, hy1]) holds ⟨w.heap.size, 0, none⟩ 1 c vals (by rw [h6, hy1]) hnews (by omega) (by omega) (growslice_fits (by omega) (by rw [hy2]; omega))
      rw [hrun] at hr2
      cases hr2
      refine ⟨_, _, hrun, ho, ?_, hblk, .inr ⟨_, rfl, (by show w.heap.size ≤ (w.alloc (.cells arr 42)).heap.size; omega)⟩, hgr.size, hgr⟩
      exact own_of_block hr1 fun k hk => by
        cases hk
        exact heap_alloc_old _ _ (by show g < (w.alloc (.cells arr 42)).heap.size; omega)
theorem app_val {base : Nat} {w : World} {ops : Array Oper} {rest : List Oper} {o : Oper} {a : Act} {Q : Exit → Act → World → Prop} (s x : Operand) {tv : Value} {n c : Nat} {cs vals : List Value} {arr : Array Value}
    (hgd : o.guard = none) (ho : o.op = .call { callee := .builtin .append, args := #[s, x], argTypes := #[23, 23] }) (hs : a.eval s = tv) (hx : a.eval x = .slice (some ⟨w.heap.size, 0, none⟩) 1 c)
    (hr : w.ownsRow base 42 6 tv n cs) (hb : base ≤ w.heap.size) (harr : arr.toList = vals) (h6 : vals.length = 6) (h1 : ∀ u ∈ vals, u.oneCell' = true) (hn : n ≤ 100000) (hv : tv.ownBlock ≠ none)
    (h : ∀ v' w', w'.ownsRow base 42 6 v' (n + 1) (cs ++ vals) → w'.ownsRow base 42 6 tv n cs → (∀ b, b < w.heap.size → some b ≠ tv.ownBlock → w'.heap[b]? = w.heap[b]?) →
      (v'.ownBlock = tv.ownBlock ∨ ∃ g, v'.ownBlock = some g ∧ w.heap.size ≤ g) → w.heap.size ≤ w'.heap.size → w.grownBy w' tv.ownBlock → wpList Tryd.prog ops Q rest (a.put o.dst v') w') : wpList Tryd.prog ops Q (o :: rest) a (w.alloc (.cells arr 42)) := by
  obtain ⟨v', w', k1, k2, k3, k4, k5, k6, k7⟩ := append_val (c := c) o.type hr hb harr h6 h1 hn hv
  exact app_run s x 23 hgd ho hs hx k1 (h v' w' k2 k3 k4 k5 k6 k7)
/-- A tree of its own memory through whatever leaves all blocks but one of values. -/
theorem CT.kept {w w' : World} {base Rb capb : Nat} {T : List VI} {nv kv : Nat → Value} {H G : Nat → Nat} {o : Option Nat} (h : CT w base (.slice (some ⟨Rb, 0, none⟩) T.length capb) T nv kv H G)
    (hb : ∀ b, b < w.heap.size → some b ≠ o → w'.heap[b]? = w.heap[b]?) (ho : ∀ g, o = some g → g ≠ Rb ∧ ∃ arr f, w.heap[g]? = some (.cells arr 42 f)) : CT w' base (.slice (some ⟨Rb, 0, none⟩) T.length capb) T nv kv H G := by
  obtain ⟨cs, h1, h2⟩ := h.row
  have hne : ∀ {e g v xs}, RowF w base e g v xs → e ≠ 42 → RowF w' base e g v xs := fun hr he => hr.kept fun hx => hb _ (hr.lt hx) fun e2 => by
    obtain ⟨_, arr, f, hg⟩ := ho _ e2.symm
    exact hr.ne hx hg he rfl
  refine ⟨⟨cs, own_of_block h1 fun k hk => ?_, h2⟩, fun i x hx => hne (h.nms i x hx) (by decide), fun i x hx => hne (h.kds i x hx) (by decide), h.inj⟩
  have hlt := (h1.lt k hk).2
  cases hk
  exact hb Rb hlt fun e2 => (ho _ e2.symm).1 rfl
/-- One kid is written over. -/
theorem CT.kid {w : World} {base Rb capb : Nat} {T : List VI} {nv kv : Nat → Value} {H G : Nat → Nat} (h : CT w base (.slice (some ⟨Rb, 0, none⟩) T.length capb) T nv kv H G) {i j : Nat} {x : VI} (hx : T[i]? = some x) (hj : j < x.kids.length) (z : Int) :
    CT (w.setCell ⟨G i, j, none⟩ (.int .i64 z)) base (.slice (some ⟨Rb, 0, none⟩) T.length capb) (T.set i { x with kids := x.kids.set j z }) nv kv H G ∧ (∃ arr, w.heap[G i]? = some (.cells arr 3 (0, 0))) ∧ base ≤ G i := by
  have hi : i < T.length := (List.getElem?_eq_some_iff.1 hx).1
  have hne : x.kids ≠ [] := by intro e; rw [e] at hj; simp at hj
  have hk := h.kds i x hx
  have hk' := hk
  obtain ⟨ka, kc, ek, hkl, hk3⟩ := hk
  obtain ⟨ea, hbg, arr, hg, hcs⟩ := hk3 (by simpa using hne)
  obtain ⟨cs, h1, h2⟩ := h.row
  have hset : ∀ {i' : Nat} {y : VI}, (T.set i { x with kids := x.kids.set j z })[i']? = some y → ∃ y0, T[i']? = some y0 ∧ ((i' = i ∧ y0 = x ∧ y = { x with kids := x.kids.set j z }) ∨ (i' ≠ i ∧ y = y0)) := fun {i' y} hy => by
    by_cases e : i' = i
    · subst e
      rw [List.getElem?_set_self hi] at hy
      exact ⟨x, hx, .inl ⟨rfl, rfl, (Option.some.inj hy).symm⟩⟩
    · rw [List.getElem?_set_ne (fun h => e h.symm)] at hy
      exact ⟨y, hy, .inr ⟨e, rfl⟩⟩
  have hoth : ∀ {b : Nat}, b ≠ G i → (w.setCell ⟨G i, j, none⟩ (.int .i64 z)).heap[b]? = w.heap[b]? := fun hb => heap_setCell_other w ⟨G i, j, none⟩ _ _ hb
  refine ⟨⟨?_, fun i' y hy => ?_, fun i' y hy => ?_, fun i' i2 y y2 hy hy2 n1 n2 e => ?_⟩, ⟨arr, hg⟩, hbg⟩
  · refine ⟨cs, ?_, fun i' y hy j' u hu => ?_⟩
    · rw [List.length_set]
      refine own_of_block h1 fun k hk => ?_
      cases hk
      obtain ⟨arr2, hR, _⟩ := own_R h1
      exact hoth fun e => by
        rw [← e, hR] at hg
        injection hg with hg; injection hg with _ hg; exact absurd hg (by decide)
    · obtain ⟨y0, hy0, ⟨rfl, rfl, rfl⟩ | ⟨_, rfl⟩⟩ := hset hy
      · exact h2 i' y0 hy0 j' u hu
      · exact h2 i' y hy0 j' u hu
  · obtain ⟨y0, hy0, hc⟩ := hset hy
    have hn := h.nms i' y0 hy0
    have he : y.names = y0.names := by rcases hc with ⟨_, rfl, rfl⟩ | ⟨_, rfl⟩ <;> rfl
    rw [he]
    exact hn.kept fun hxs => hoth (hn.ne hxs hg (by decide))
  · obtain ⟨y0, hy0, hc⟩ := hset hy
    rcases hc with ⟨rfl, rfl, rfl⟩ | ⟨e, rfl⟩
    · refine ⟨ka, kc, by rw [ek]; simp, by simpa using hkl, fun _ => ⟨ea, hbg, arr.setIfInBounds j (.int .i64 z), heap_setCell_same w _ j _ _ _ hg, fun j' u hu => ?_⟩⟩
      rw [List.map_set] at hu
      have hjl : j < arr.size := by
        have := hcs j (intv (y0.kids[j])) (by simp [hj])
        exact (Array.getElem?_eq_some_iff.1 this).1
      by_cases ej : j' = j
      · subst ej
        rw [List.getElem?_set_self (by simpa using hj)] at hu
        rw [Array.getElem?_setIfInBounds_self_of_lt hjl]; exact hu
      · rw [List.getElem?_set_ne (fun h => ej h.symm)] at hu
        rw [Array.getElem?_setIfInBounds_ne (fun h => ej h.symm)]
        exact hcs j' u hu
    · have hk2 := h.kds i' y hy0
      exact hk2.kept fun hxs => hoth fun eg => e (h.inj i' i y x hy0 hx (by simpa using hxs) hne eg)
  · have kl : ∀ {i' : Nat} {y : VI}, (T.set i { x with kids := x.kids.set j z })[i']? = some y → y.kids ≠ [] → ∃ y0, T[i']? = some y0 ∧ y0.kids ≠ [] := fun {i' y} hy hn => by
      obtain ⟨y0, hy0, ⟨rfl, rfl, rfl⟩ | ⟨_, rfl⟩⟩ := hset hy
      · exact ⟨y0, hy0, hne⟩
      · exact ⟨y, hy0, hn⟩
    obtain ⟨z1, q1, q2⟩ := kl hy n1
    obtain ⟨z2, q3, q4⟩ := kl hy2 n2
    exact h.inj i' i2 z1 z2 q1 q3 q2 q4 e
def nvJ (n : Nat) (f g : Nat → Value) : Nat → Value := fun j => if j < n then f j else g (j - n)
/-- While the values are put. -/
structure JS (w w3 : World) (b3 b4 Ra Rb capb : Nat) (A : List VI) (nvA kvA nv kv : Nat → Value) (H G : Nat → Nat) (C : List VI) (i : Nat) (tv : Value) (wr : World) : Prop where
  below : Below w.heap.size w wr
  keep : ∀ b, b < b4 → b ≠ Ra → wr.heap[b]? = w3.heap[b]?
  bt : CT wr b4 (.slice (some ⟨Rb, 0, none⟩) C.length capb) C nv kv H G
  tr : ∃ cs, wr.ownsRow b3 42 6 tv (A.length + i) cs ∧ Cel cs (A ++ C.take i) (nvJ A.length nvA nv) (nvJ A.length kvA kv)
  own : tv.ownBlock = some Ra ∨ ∃ g, tv.ownBlock = some g ∧ b4 ≤ g ∧ g ≠ Rb
  le4 : b4 ≤ wr.heap.size
section
variable {w w3 : World} {b3 b4 Ra Rb capb : Nat} {A : List VI} {nvA kvA nv kv : Nat → Value} {H G : Nat → Nat} {C : List VI} {i : Nat} {tv : Value} {wr w' : World}
theorem JS.later (h : JS w w3 b3 b4 Ra Rb capb A nvA kvA nv kv H G C i tv wr) (hb : Below wr.heap.size wr w') : JS w w3 b3 b4 Ra Rb capb A nvA kvA nv kv H G C i tv w' := by
  obtain ⟨cs, h1, h2⟩ := h.tr
  exact ⟨below_on h.below hb, fun b hlt hne => (hb.block b (Nat.lt_of_lt_of_le hlt h.le4)).trans (h.keep b hlt hne), h.bt.later hb, ⟨cs, row_later h1 hb, h2⟩, h.own, Nat.le_trans h.le4 hb.size⟩
theorem JS.owned (h : JS w w3 b3 b4 Ra Rb capb A nvA kvA nv kv H G C i tv wr) : tv.ownBlock ≠ none := by
  rcases h.own with e | ⟨g, e, _⟩ <;> rw [e] <;> simp
theorem JS.kid (h : JS w w3 b3 b4 Ra Rb capb A nvA kvA nv kv H G C i tv wr) {i0 j : Nat} {x : VI} (hx : C[i0]? = some x) (hi : i ≤ i0) (hj : j < x.kids.length) (z : Int) (hw : w.heap.size ≤ b4) :
    JS w w3 b3 b4 Ra Rb capb A nvA kvA nv kv H G (C.set i0 { x with kids := x.kids.set j z }) i tv (wr.setCell ⟨G i0, j, none⟩ (.int .i64 z)) := by
  obtain ⟨k1, ⟨arr, k2⟩, k3⟩ := h.bt.kid hx hj z
  obtain ⟨cs, h1, h2⟩ := h.tr
  refine ⟨h.below.setCell (p := ⟨G i0, j, none⟩) (Nat.le_trans hw k3) _, fun b hlt hne => (heap_setCell_other wr ⟨G i0, j, none⟩ b _ (by show b ≠ G i0; omega)).trans (h.keep b hlt hne), by rw [List.length_set]; exact k1, ⟨cs, ?_, ?_⟩, h.own, by simpa [World.setCell] using h.le4⟩
  · refine own_of_block h1 fun k hk => heap_setCell_other wr ⟨G i0, j, none⟩ k _ fun e => ?_
    have e' : k = G i0 := e
    subst e'
    rcases h1.2 with ⟨rfl, _⟩ | ⟨g, cap, cur, rfl, _, hg, _⟩
    · cases hk
    · cases hk
      rw [hg] at k2
      injection k2 with k2; injection k2 with _ k2; exact absurd k2 (by decide)
  · rw [List.take_set_of_le hi]; exact h2
theorem JS.app (h : JS w w3 b3 b4 Ra Rb capb A nvA kvA nv kv H G C i tv wr) {x : VI} (hx : C[i]? = some x) {v' : Value} {cs : List Value} (hcs : wr.ownsRow b3 42 6 tv (A.length + i) cs) (hcl : Cel cs (A ++ C.take i) (nvJ A.length nvA nv) (nvJ A.length kvA kv))
    (h1 : w'.ownsRow b3 42 6 v' (A.length + i + 1) (cs ++ aggI x (nv i) (kv i))) (h2 : ∀ b, b < wr.heap.size → some b ≠ tv.ownBlock → w'.heap[b]? = wr.heap[b]?) (h3 : v'.ownBlock = tv.ownBlock ∨ ∃ g, v'.ownBlock = some g ∧ wr.heap.size ≤ g) (h4 : wr.heap.size ≤ w'.heap.size) (h5 : wr.grownBy w' tv.ownBlock) (hw : w.heap.size ≤ b3) (hRa : Ra < b4 ∧ b4 ≤ Rb) :
    JS w w3 b3 b4 Ra Rb capb A nvA kvA nv kv H G C (i + 1) v' w' := by
  have hi : i < C.length := (List.getElem?_eq_some_iff.1 hx).1
  have hRbl : Rb < wr.heap.size := by
    obtain ⟨cs2, k1, _⟩ := h.bt.row
    exact (k1.lt Rb rfl).2
  have hty : ∀ g, tv.ownBlock = Option.some g → g ≠ Rb ∧ ∃ arr f, wr.heap[g]? = Option.some (.cells arr 42 f) := fun g hg => by
    refine ⟨?_, ?_⟩
    · rcases h.own with e | ⟨g', e, _, hne⟩
      · rw [e] at hg; cases hg; omega
      · rw [e] at hg; cases hg; exact hne
    · rcases hcs.2 with ⟨rfl, _⟩ | ⟨g2, cap, cur, rfl, _, hgg, _⟩
      · cases hg
      · cases hg; exact ⟨cur, _, hgg⟩
  refine ⟨h.below.grown h5 (Nat.le_trans h.below.size (Nat.le_refl _)) fun k hk => Nat.le_trans hw (hcs.lt k hk).1, fun b hlt hne => (h2 b (Nat.lt_of_lt_of_le hlt h.le4) fun e => ?_).trans (h.keep b hlt hne), h.bt.kept h2 hty, ⟨_, h1, ?_⟩, ?_, Nat.le_trans h.le4 h4⟩
  · rcases h.own with e2 | ⟨g, e2, hge, _⟩
    · rw [e2] at e; cases e; exact hne rfl
    · rw [e2] at e; cases e; omega
  · have et : C.take (i + 1) = C.take i ++ [x] := by rw [List.take_add_one, hx]; rfl
    rw [et, ← List.append_assoc]
    have hl : (A ++ C.take i).length = A.length + i := by rw [List.length_append, List.length_take]; omega
    have hcl6 : cs.length = (A.length + i) * 6 := hcs.1
    intro k y hy j u hu
    by_cases hk : k < A.length + i
    · rw [List.getElem?_append_left (by rw [hl]; exact hk)] at hy
      have hj := agg_lt hu
      rw [List.getElem?_append_left (by omega)]
      exact hcl k y hy j u hu
    · have hkl := (List.getElem?_eq_some_iff.1 hy).1
      rw [List.length_append, hl] at hkl
      simp only [List.length_cons, List.length_nil] at hkl
      have ek : k = A.length + i := by omega
      subst ek
      rw [List.getElem?_append_right (by omega), hl, Nat.sub_self] at hy
      cases hy
      have en : nvJ A.length nvA nv (A.length + i) = nv i := by unfold nvJ; rw [if_neg (by omega)]; congr 1; omega
      have ekv : nvJ A.length kvA kv (A.length + i) = kv i := by unfold nvJ; rw [if_neg (by omega)]; congr 1; omega
      rw [en, ekv] at hu
      rw [List.getElem?_append_right (by omega), show (A.length + i) * 6 + j - cs.length = j by omega]
      exact hu
  · rcases h3 with e | ⟨g, e, hg⟩
    · rw [e]; exact h.own
    · exact .inr ⟨g, e, Nat.le_trans h.le4 hg, by omega⟩
/-- The whole of t as it is read. -/
theorem JS.tree {tvA : Value} {HA GA : Nat → Nat} (h : JS w w3 b3 b4 Ra Rb capb A nvA kvA nv kv H G C i tv wr) (hA : CT w3 b3 tvA A nvA kvA HA GA) (hb4 : b4 = w3.heap.size) (hRa : ∃ arr f, w3.heap[Ra]? = some (.cells arr 42 f)) :
    ∀ (k : Nat) (y : VI), (A ++ C.take i)[k]? = some y → VAt wr y (nvJ A.length nvA nv k) (nvJ A.length kvA kv k) := fun k y hy => by
  obtain ⟨arr, f, hR⟩ := hRa
  by_cases hk : k < A.length
  · rw [List.getElem?_append_left hk] at hy
    unfold nvJ
    rw [if_pos hk, if_pos hk]
    have hn := hA.nms k y hy
    have hkd := hA.kds k y hy
    refine ⟨(hn.kept fun hx => h.keep _ ?_ ?_).at, (hkd.kept fun hx => h.keep _ ?_ ?_).at⟩
    · rw [hb4]; exact hn.lt hx
    · exact hn.ne hx hR (by decide)
    · rw [hb4]; exact hkd.lt hx
    · exact hkd.ne hx hR (by decide)
  · rw [List.getElem?_append_right (by omega)] at hy
    have hy2 : C[k - A.length]? = some y := by
      have hlt := (List.getElem?_eq_some_iff.1 hy).1
      rw [List.length_take] at hlt
      rw [List.getElem?_take_of_lt (by omega)] at hy
      exact hy
    unfold nvJ
    rw [if_neg hk, if_neg hk]
    exact ⟨(h.bt.nms _ y hy2).at, (h.bt.kds _ y hy2).at⟩
end
end Go.Proofs.YtpffhckimilppaaDoor.Jn
