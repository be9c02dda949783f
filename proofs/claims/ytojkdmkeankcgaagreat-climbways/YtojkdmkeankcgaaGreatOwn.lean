/-
  What the calls that copy arcs do: slices.Clone and the document's Copied.
-/
import Derived.Test.YtojkdmkeankcgaaGreatCheckP
import Derived.Laws.AppendOwnNone
import Derived.Lib.SliceRun
namespace Go.Proofs.YtojkdmkeankcgaaGreat
open Go.RowKit Go.Sort

def encA (x : Arc) : List Value := [.int .i64 x.1, .int .i64 x.2.1, .int .i64 x.2.2.1, .int .i64 x.2.2.2]
def flatA (A : List Arc) : List Value := A.flatMap encA
theorem flatA_len : ∀ A : List Arc, (flatA A).length = A.length * 4
  | [] => rfl
  | x :: r => by rw [show flatA (x :: r) = encA x ++ flatA r from rfl, List.length_append, flatA_len r]; simp [encA]; omega
theorem flatA_get : ∀ (A : List Arc) (i c : Nat), i < A.length → c < 4 → (flatA A)[i * 4 + c]? = some ((encA A[i]!)[c]!)
  | [], _, _, h, _ => by simp at h
  | x :: r, 0, c, _, hc => by
    rw [show flatA (x :: r) = encA x ++ flatA r from rfl, List.getElem?_append_left (by simp [encA]; omega)]
    have : c = 0 ∨ c = 1 ∨ c = 2 ∨ c = 3 := by omega
    rcases this with rfl | rfl | rfl | rfl <;> simp [encA]
  | x :: r, i + 1, c, h, hc => by
    rw [show flatA (x :: r) = encA x ++ flatA r from rfl, List.getElem?_append_right (by simp [encA]; omega), show (i + 1) * 4 + c - (encA x).length = i * 4 + c by simp [encA]; omega, flatA_get r i c (by simpa using h) hc]
    simp
theorem flatA_one (A : List Arc) : ∀ u ∈ flatA A, u.oneCell' = true := by
  intro u hu
  unfold flatA at hu
  rw [List.mem_flatMap] at hu
  obtain ⟨x, _, hx⟩ := hu
  simp [encA] at hx
  rcases hx with rfl | rfl | rfl | rfl <;> rfl
theorem info50 : (Tryz.prog.info? 54).map (fun i => (i.zero, i.size, i.bytes)) = some (some (.agg #[.int .i64 0, .int .i64 0, .int .i64 0, .int .i64 0]), 4, 32) := by kernel_rfl
theorem addAt (b off j : Nat) : (⟨b, off, none⟩ : Addr).add j = ⟨b, off + j, none⟩ := by
  unfold Addr.add
  split
  · rename_i h; subst h; rfl
  · rfl
theorem arcs_news {w : World} {b off m : Nat} {A : List Arc} (h : ArcsAt w (some ⟨b, off, none⟩) m A) : ∀ j u, (flatA A)[j]? = some u → w.cell? ((⟨b, off, none⟩ : Addr).add j) = some u := by
  intro j u hu
  have hj : j < m * 4 := by
    have := (List.getElem?_eq_some_iff.1 hu).1
    rw [flatA_len, h.len] at this
    exact this
  obtain ⟨b2, off2, e, c0, c1, c2, c3⟩ := h.cell (j / 4) (by omega)
  cases e
  have hf := flatA_get A (j / 4) (j % 4) (by rw [h.len]; omega) (by omega)
  rw [show j / 4 * 4 + j % 4 = j by omega, hu] at hf
  rw [addAt, Option.some.inj hf]
  have : j % 4 = 0 ∨ j % 4 = 1 ∨ j % 4 = 2 ∨ j % 4 = 3 := by omega
  rcases this with e | e | e | e
  · rw [e, show off + j = off + j / 4 * 4 by omega]; exact c0
  · rw [e, show off + j = off + j / 4 * 4 + 1 by omega]; exact c1
  · rw [e, show off + j = off + j / 4 * 4 + 2 by omega]; exact c2
  · rw [e, show off + j = off + j / 4 * 4 + 3 by omega]; exact c3
theorem own_arcs {w : World} {base m : Nat} {v : Value} {A : List Arc} (h : w.ownsRow base 54 4 v m (flatA A)) (hl : A.length = m) : ∃ a c, v = .slice a m c ∧ ArcsAt w a m A := by
  rcases h.2 with ⟨rfl, rfl⟩ | ⟨g, cap, cur, rfl, hb, hg, hnc, hcm, _⟩
  · exact ⟨none, 0, rfl, hl, by omega, fun k hk => by omega⟩
  · refine ⟨_, cap, rfl, hl, by unfold maxLen at hcm; omega, fun k hk => ⟨g, 0, rfl, ?_⟩⟩
    have f := fun c hc => flatA_get A k c (by omega) hc
    simp only [Nat.zero_add]
    exact ⟨by rw [h.cellAt _ (by omega)]; exact f 0 (by omega), by rw [h.cellAt _ (by omega)]; exact f 1 (by omega), by rw [h.cellAt _ (by omega)]; exact f 2 (by omega), by rw [h.cellAt _ (by omega)]; exact f 3 (by omega)⟩
theorem arcs_none {w : World} {m : Nat} {A : List Arc} (h : ArcsAt w none m A) : m = 0 := by
  rcases Nat.eq_zero_or_pos m with e | e
  · exact e
  · obtain ⟨b, off, e2, _⟩ := h.cell 0 e; cases e2
/-- An append of arcs that are there onto a row that the call owns. -/
theorem app_arcs {w : World} {ops : Array Oper} {rest : List Oper} {o : Oper} {a : Act} {Q : Exit → Act → World → Prop} (s x : Operand) (i0 : TypeInfo) (hi : Tryz.prog.info? 54 = some i0) (hz0 : i0.zero = some (.agg #[.int .i64 0, .int .i64 0, .int .i64 0, .int .i64 0])) (hz1 : i0.size = 4) (hz2 : i0.bytes = 32)
    (hgd : o.guard = none) (ho : o.op = .call { callee := .builtin .append, args := #[s, x], argTypes := #[22, 22] }) (base : Nat) (v : Value) (n : Nat) (ys : List Arc) (hs : a.eval s = v) (hown : w.ownsRow base 54 4 v n (flatA ys))
    (ad : Option Addr) (m c : Nat) (zs : List Arc) (hx : a.eval x = .slice ad m c) (hr : ArcsAt w ad m zs) (hc : ad = none → c = 0) (hbytes : (n + m) * 32 ≤ 140737488355328) (hbase : base ≤ w.heap.size)
    (h : ∀ v' w', w'.ownsRow base 54 4 v' (n + m) (flatA (ys ++ zs)) → w.grownBy w' v.ownBlock → wpList Tryz.prog ops Q rest (a.put o.dst v') w') : wpList Tryz.prog ops Q (o :: rest) a w := by
  cases ad with
  | none =>
    have hm := arcs_none hr
    have hz : zs = [] := List.eq_nil_of_length_eq_zero (by rw [hr.len]; exact hm)
    have hc0 := hc rfl
    subst hm hz hc0
    refine wpList_append_own_none hgd s x 22 ho base 54 i0 4 Tryz.underlying22 hi v n _ hs hown hx ?_
    refine h v w ?_ ⟨rfl, rfl, rfl, Nat.le_refl _, fun _ _ _ => rfl⟩
    rw [List.append_nil]; exact hown
  | some y =>
    by_cases hm : m = 0
    · have hz : zs = [] := List.eq_nil_of_length_eq_zero (by rw [hr.len]; exact hm)
      subst hm hz
      refine wpList_append_own _ hgd s x 22 ho base 54 i0 _ 4 32 Tryz.underlying22 hi hz0 hz1 hz2 rfl (by decide) v n _ hs hown y 0 c [] hx (by simp) (fun j u hu => by simp at hu) (fun u hu => by simp at hu) (by unfold maxLen; omega) (by omega) hbase ?_
      intro v' w' h1 h2 _
      exact h v' w' (by simpa using h1) h2
    · obtain ⟨b, off, e, _⟩ := hr.cell 0 (by omega)
      cases e
      refine wpList_append_own _ hgd s x 22 ho base 54 i0 _ 4 32 Tryz.underlying22 hi hz0 hz1 hz2 rfl (by decide) v n _ hs hown ⟨b, off, none⟩ m c (flatA zs) hx (by rw [flatA_len, hr.len]) (arcs_news hr) (flatA_one zs) (by unfold maxLen; omega) (by omega) hbase ?_
      intro v' w' h1 h2 _
      refine h v' w' ?_ h2
      unfold flatA at h1 ⊢
      rw [List.flatMap_append]
      exact h1
theorem own_made {w w1 : World} (hb : Below w.heap.size w w1) : (w1.alloc (.cells #[] 54)).ownsRow w.heap.size 54 4 (.slice (some ⟨w1.heap.size, 0, none⟩) 0 0) 0 (flatA []) := World.ownsRow_made w1 #[] 0 hb.size (by decide) rfl
theorem below_grown {w w1 w2 : World} {n : Nat} {v : Value} {xs : List Value} (hb : Below w.heap.size w w1) (hown : w1.ownsRow w.heap.size 54 4 v n xs) (hg : w1.grownBy w2 v.ownBlock) : Below w.heap.size w w2 :=
  hb.grown hg hb.size fun k hk => (hown.lt k hk).1
set_option maxHeartbeats 1600000 in
theorem clone_arcs (a : Option Addr) (m c : Nat) (A : List Arc) (w : World) (h : ArcsAt w a m A) (hm : m * 32 ≤ 140737488355328) :
    Calls Tryz.prog 57 #[.slice a m c] w fun e w' => ∃ a' c', e = .returned (.slice a' m c') ∧ ArcsAt w' a' m A ∧ Below w.heap.size w w' := by
  cases a with
  | none =>
    have hm0 := arcs_none h
    subst hm0
    have H := hide h
    have hq := fun w => Lib.run_eql_slice_nil (P := Tryz.prog) w 22 54 none 0 c 0 0 Tryz.underlying22
    clear h
    go_enter Tryz.func57, Tryz.ntmps57
    go_wp2
    go_ret
    exact ⟨none, 0, rfl, H.out, Below.refl _ _⟩
  | some y =>
    obtain ⟨i0, hi0, hy0, hy1, hy2⟩ := info_parts info50
    have H := hide h
    have HI := hide (And.intro hi0 (And.intro hy0 (And.intro hy1 hy2)))
    have hq := fun w => Lib.run_eql_slice_nil (P := Tryz.prog) w 22 54 (some y) m c 0 0 Tryz.underlying22
    clear h hi0 hy0 hy1 hy2
    go_enter Tryz.func57, Tryz.ntmps57
    go_wp2_with (at_builtin; refine app_arcs (.tmp 5) (.tmp 6) i0 HI.out.1 HI.out.2.1 HI.out.2.2.1 HI.out.2.2.2 rfl rfl w.heap.size _ 0 [] rfl (own_made (Below.refl _ _)) (some y) m c A rfl (H.out.later (Nat.le_refl _) ((Below.refl _ _).alloc (Nat.le_refl _) _)) (fun e => by cases e) (by omega) (by simp) ?_)
    intro v1 w2 hown1 hg1
    have hb2 := below_grown ((Below.refl _ _).alloc (Nat.le_refl _) _) (own_made (Below.refl _ _)) hg1
    try simp only [Nat.zero_add, List.nil_append] at hown1
    obtain ⟨a1, c1, rfl, hr1⟩ := own_arcs hown1 H.out.len
    have HR := hide (And.intro hr1 hb2)
    clear hown1 hg1 hb2 hr1
    go_wp2
    go_ret
    exact ⟨a1, c1, rfl, HR.out.1, HR.out.2⟩
set_option maxRecDepth 100000 in
set_option maxHeartbeats 1600000 in
theorem copied_any (n : Int) (a : Option Addr) (m c : Nat) (A : List Arc) (w : World) (h : ArcsAt w a m A) (hc : a = none → c = 0) (hm : m * 32 ≤ 140737488355328) :
    Calls Tryz.prog 27 #[.agg #[.int .i64 n, .slice a m c]] w fun e w' => ∃ v, e = .returned (.agg #[.int .i64 n, v]) ∧ w'.ownsRow w.heap.size 54 4 v m (flatA A) ∧ Below w.heap.size w w' := by
  obtain ⟨i0, hi0, hy0, hy1, hy2⟩ := info_parts info50
  have H := hide h
  have HC := hide hc
  have HI := hide (And.intro hi0 (And.intro hy0 (And.intro hy1 hy2)))
  clear h hi0 hy0 hy1 hy2 hc
  go_enter Tryz.func27, Tryz.ntmps27
  have HB1 : Hid (Below w.heap.size w ((w.alloc (.cells #[.int .i64 n, .slice a m c] 24)).alloc (.cells #[.int .i64 0, .slice none 0 0] 24))) := below_two (Below.refl _ _) (Nat.le_refl _) _ _
  have hb0 : ((w.alloc (.cells #[.int .i64 n, .slice a m c] 24)).alloc (.cells #[.int .i64 0, .slice none 0 0] 24)).heap[w.heap.size]? = some (.cells #[.int .i64 n, .slice a m c] 24 (0, 0)) := by rw [Below.heap_alloc _ _ _ (by simp)]; exact heap_alloc_new _ _
  have hb1 : ((w.alloc (.cells #[.int .i64 n, .slice a m c] 24)).alloc (.cells #[.int .i64 0, .slice none 0 0] 24)).heap[w.heap.size + 1]? = some (.cells #[.int .i64 0, .slice none 0 0] 24 (0, 0)) := by
    have := heap_alloc_new (w.alloc (.cells #[.int .i64 n, .slice a m c] 24)) (.cells #[.int .i64 0, .slice none 0 0] 24)
    rw [show (w.alloc (.cells #[.int .i64 n, .slice a m c] 24)).heap.size = w.heap.size + 1 by simp] at this
    exact this
  have HS1 : Hid (((w.alloc (.cells #[.int .i64 n, .slice a m c] 24)).alloc (.cells #[.int .i64 0, .slice none 0 0] 24)).heap.size = w.heap.size + 1 + 1) := by show _ = _; simp
  have HN := hide (And.intro hb0 hb1)
  have HOW : Hid ((((w.alloc (.cells #[.int .i64 n, .slice a m c] 24)).alloc (.cells #[.int .i64 0, .slice none 0 0] 24)).alloc (.cells #[] 54)).ownsRow w.heap.size 54 4 (.slice (some ⟨w.heap.size + 1 + 1, 0, none⟩) 0 0) 0 (flatA [])) := by
    have := own_made HB1.out
    rw [HS1.out] at this
    exact this
  clear hb0 hb1
  go_wp2_with (at_builtin; refine app_arcs (.tmp 3) (.tmp 5) i0 HI.out.1 HI.out.2.1 HI.out.2.2.1 HI.out.2.2.2 rfl rfl w.heap.size _ 0 [] rfl HOW.out a m c A rfl (H.out.later (Nat.le_refl _) (HB1.out.alloc HB1.out.size _)) HC.out (by omega) (by simp; omega) ?_)
  intro v1 w2 hown1 hg1
  have hb2 := below_grown (HB1.out.alloc HB1.out.size _) HOW.out hg1
  try simp only [Nat.zero_add, List.nil_append] at hown1
  have k0 : w2.heap[w.heap.size]? = some (.cells #[.int .i64 n, .slice a m c] 24 (0, 0)) := by
    rw [hg1.block _ (by simp <;> omega) (by simp [Value.ownBlock] <;> omega), Below.heap_alloc _ _ _ (by rw [HS1.out]; omega)]
    exact HN.out.1
  have k1 : w2.heap[w.heap.size + 1]? = some (.cells #[.int .i64 0, .slice none 0 0] 24 (0, 0)) := by
    rw [hg1.block _ (by simp <;> omega) (by simp [Value.ownBlock] <;> omega), Below.heap_alloc _ _ _ (by rw [HS1.out]; omega)]
    exact HN.out.2
  have hz : w.heap.size + 1 < w2.heap.size := by
    rcases Nat.lt_or_ge (w.heap.size + 1) w2.heap.size with h' | h'
    · exact h'
    · rw [Array.getElem?_eq_none h'] at k1; cases k1
  obtain ⟨a1, c1, rfl, _⟩ := own_arcs hown1 H.out.len
  have HR := hide (And.intro hown1 hb2)
  have hne : ∀ k, (Value.slice a1 m c1).ownBlock = some k → k ≠ w.heap.size ∧ k ≠ w.heap.size + 1 := fun k hk => by
    obtain ⟨cur, hcur⟩ := own_tag hown1 hk
    refine ⟨fun e => ?_, fun e => ?_⟩
    · rw [e, k0] at hcur; simp at hcur
    · rw [e, k1] at hcur; simp at hcur
  have HNE := hide hne
  have m0 := cell_of_row w2 w.heap.size 0 _ _ _ k0
  have m1 := cell_of_row w2 w.heap.size 1 _ _ _ k0
  have m2 := cell_of_row w2 (w.heap.size + 1) 0 _ _ _ k1
  have m3 := cell_of_row w2 (w.heap.size + 1) 1 _ _ _ k1
  simp only [List.getElem?_toArray, List.getElem?_cons_succ, List.getElem?_cons_zero] at m0 m1 m2 m3
  have f0 := frozen_of_row w2 w.heap.size 1 _ _ k0
  have f2 := frozen_of_row w2 (w.heap.size + 1) 0 _ _ k1
  have f3 := frozen_of_row w2 (w.heap.size + 1) 1 _ _ k1
  have HX : Hid ((((w2.setCell ⟨w.heap.size, 1, none⟩ (.slice a1 m c1)).setCell ⟨w.heap.size + 1, 0, none⟩ (.int .i64 n)).setCell ⟨w.heap.size + 1, 1, none⟩ (.slice a1 m c1)).heap[w.heap.size + 1]? = some (.cells #[.int .i64 n, .slice a1 m c1] 24 (0, 0)) ∧
      (((w2.setCell ⟨w.heap.size, 1, none⟩ (.slice a1 m c1)).setCell ⟨w.heap.size + 1, 0, none⟩ (.int .i64 n)).setCell ⟨w.heap.size + 1, 1, none⟩ (.slice a1 m c1)).ownsRow w.heap.size 54 4 (.slice a1 m c1) m (flatA A) ∧
      Below w.heap.size w (((w2.setCell ⟨w.heap.size, 1, none⟩ (.slice a1 m c1)).setCell ⟨w.heap.size + 1, 0, none⟩ (.int .i64 n)).setCell ⟨w.heap.size + 1, 1, none⟩ (.slice a1 m c1))) := by
    refine ⟨?_, own_of_block hown1 (fun k hk => ?_), ((hb2.setCell (Nat.le_refl _) _).setCell (by show _ ≤ w.heap.size + 1; omega) _).setCell (by show _ ≤ w.heap.size + 1; omega) _⟩
    · have e1 : (w2.setCell ⟨w.heap.size, 1, none⟩ (.slice a1 m c1)).heap[w.heap.size + 1]? = some (.cells #[.int .i64 0, .slice none 0 0] 24 (0, 0)) := by
        rw [heap_setCell_other _ _ _ _ (by show w.heap.size + 1 ≠ w.heap.size; omega)]; exact k1
      rw [heap_setCell_same _ _ 1 _ _ _ (heap_setCell_same _ _ 0 _ _ _ e1)]
      rfl
    · have := hne k hk
      rw [heap_setCell_other _ _ _ _ this.2, heap_setCell_other _ _ _ _ this.2, heap_setCell_other _ _ _ _ this.1]
  have n1 : ¬ w.heap.size = w.heap.size + 1 := by omega
  have n2 : ¬ w.heap.size + 1 = w.heap.size := by omega
  clear hown1 hg1 hb2 hne k0 k1 HN HB1 HOW HS1 HC HR HNE
  obtain ⟨B, hB⟩ : ∃ B, w.heap.size = B := ⟨_, rfl⟩
  obtain ⟨D, hD⟩ : ∃ D, w.heap.size + 1 = D := ⟨_, rfl⟩
  rw [hD] at HX m2 m3 f2 f3 n1 n2 ⊢
  rw [hB] at HX m0 m1 f0 n1 n2 ⊢
  have HBh := hide hB
  clear hB hD hz
  go_wp2
  (try simp only [Exit.inBlock, Exit.then])
  refine bodyPost_ret (results_cell_row rfl _ _ D 24 _ (0, 0) _ rfl HX.out.1 Tryz.underlying24 rfl (by kernel_rfl)) rfl ?_
  rw [HBh.out]
  exact ⟨_, rfl, HX.out.2.1, HX.out.2.2⟩
end Go.Proofs.YtojkdmkeankcgaaGreat
