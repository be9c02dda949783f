/-
  What the law ShortWeighs does.
-/
import Derived.Test.YtkgpjhechopfhaaWeighS
import Derived.Deep.CutRange
import Derived.Deep.AppendLies
import Derived.Deep.RegionLaw
namespace Go.Proofs.Ytkgpjhechopfhaa
open Go.RowKit Go.Sort

theorem Qaddr (b off j : Nat) : (⟨b, off, none⟩ : Addr).add j = ⟨b, off + j, none⟩ := by
  unfold Addr.add
  split
  · rename_i h; subst h; rfl
  · rfl
/-- A copy of numbers onto a row that is just made, as one step of a region that draws. -/
theorem step_copy_ints {ops : Array Oper} {o : Oper} {a : Act} {X : World} {K : Act → World → Prop} {Q : Exit → Act → World → Prop} {E : Prop} {va : Option Addr} {vc : Nat} {zs : List Int}
    (hg : o.guard = none) (s x : Operand) (hop : o.op = Op.call { callee := Callee.builtin Builtin.append, args := #[s, x], argTypes := #[39, 39] })
    (hs : a.eval s = .slice (some ⟨X.heap.size, 0, none⟩) 0 0) (hx : a.eval x = .slice va zs.length vc) (hz : IntsAt X va zs) (hvn : va = none → vc = 0) (hl : zs.length ≤ 200)
    (hK : ∀ a' c' w', IntsAt w' a' zs → zs.length ≤ c' → Below X.heap.size X w' → K (a.put o.dst (.slice a' zs.length c')) w') :
    if Region.wanted o (yielded ops a.tmps) = true then Oper.wp Try.prog o a (X.alloc (.cells #[] 3)) K Q else E := by
  obtain ⟨i0, hi0, hy0, hy1, hy2⟩ := info_parts info3
  have hown : (X.alloc (.cells #[] 3)).ownsRow X.heap.size 3 1 (.slice (some ⟨X.heap.size, 0, none⟩) 0 0) 0 [] := World.ownsRow_made X #[] 0 (Nat.le_refl _) (by decide) rfl
  have fA : Below X.heap.size X (X.alloc (.cells #[] 3)) := (Below.refl _ _).alloc (Nat.le_refl _) _
  cases va with
  | none =>
    have hz0 : zs = [] := by
      rcases zs with _ | ⟨z, r⟩
      · rfl
      · obtain ⟨_, _, e, _⟩ := hz 0 (by simp); cases e
    have hc0 := hvn rfl
    subst hz0 hc0
    have hw : Region.wanted o (yielded ops a.tmps) = true := by simp [Region.wanted, hg]
    rw [if_pos hw]
    have hrun := run_append_owned_none (P := Try.prog) (w := X.alloc (.cells #[] 3)) X.heap.size 39 o.type 3 i0 1 Try.underlying39 hi0 _ 0 [] hown
    unfold Oper.wp
    simp [execOp, hop, resolve, invoke, builtin, hs, hx, hrun, Result.andThen]
    exact hK _ _ _ (fun k hk => by simp at hk) (Nat.le_refl _) fA
  | some ad =>
    refine Qu.step_append hg s x 39 hop X.heap.size 3 i0 (.int .i64 0) 1 8 Try.underlying39 hi0 hy0 hy1 hy2 rfl (by decide) _ 0 [] hs hown ad zs.length vc (intsV zs) hx (by rw [intsV_len]; omega) ?_ (intsV_one _) (by unfold maxLen; omega) (by omega) (by simp) ?_
    · intro j u hu
      have hj : j < zs.length := by
        rcases Nat.lt_or_ge j zs.length with h | h
        · exact h
        · rw [List.getElem?_eq_none (by rw [intsV_len]; omega)] at hu; cases hu
      rw [intsV_get zs j hj] at hu
      cases hu
      obtain ⟨b, off, e, h1⟩ := (hz.later fA) j hj
      cases e
      rw [show (⟨b, off, none⟩ : Addr).add j = ⟨b, off + j, none⟩ from Qaddr b off j]
      exact h1
    · intro v' w' h1 h2 _
      rw [Nat.zero_add, List.nil_append] at h1
      have hr : IRow w' X.heap.size v' zs := h1
      have hb : Below X.heap.size X w' := fA.grown h2 fA.size fun k hk => (hown.lt k hk).1
      obtain ⟨a', c', rfl⟩ := hr.shape
      refine hK a' c' w' (intsAt_row hr) ?_ hb
      rcases Nat.eq_zero_or_pos zs.length with e | e
      · omega
      · obtain ⟨g, cap, e1, _, _, h3, _⟩ := hr.form e
        cases e1
        exact h3
theorem step_copy_ints' {ops : Array Oper} {o : Oper} {a : Act} {X : World} {K : Act → World → Prop} {Q : Exit → Act → World → Prop} {E : Prop} {va : Option Addr} {vc : Nat} {zs : List Int}
    (hg : o.guard = none) (s x : Operand) (hop : o.op = Op.call { callee := Callee.builtin Builtin.append, args := #[s, x], argTypes := #[39, 39] })
    (hs : a.eval s = .slice (some ⟨X.heap.size, 0, none⟩) 0 0) (hx : a.eval x = .slice va zs.length vc) (hz : IntsAt X.drew va zs) (hvn : va = none → vc = 0) (hl : zs.length ≤ 200)
    (hK : ∀ a' c' w', IntsAt w' a' zs → zs.length ≤ c' → Below X.drew.heap.size X.drew w' → K (a.put o.dst (.slice a' zs.length c')) w') :
    if Region.wanted o (yielded ops a.tmps) = true then Oper.wp Try.prog o a (X.alloc (.cells #[] 3)).drew K Q else E := step_copy_ints (X := X.drew) hg s x hop hs hx hz hvn hl hK
/-- A call of a Go function that returns, as one step of a region that draws. -/
theorem step_call2 {P : Program} {ops : Array Oper} {o : Oper} {a : Act} {w : World} {K : Act → World → Prop} {Q : Exit → Act → World → Prop} {E : Prop}
    (hg : o.guard = none) (f : FuncId) (x y : Operand) (t s : TypeId) (hop : o.op = Op.call { callee := Callee.value (Operand.func f), args := #[x, y], argTypes := #[t, s] })
    (hent : ∀ args w, (callFunc f args).run P w = .ok (.enter f args) w) {R : Value → World → Prop} (u z : Value) (hx : a.eval x = u) (hy : a.eval y = z)
    (H : Calls P f #[u, z] w fun e w' => ∃ v, e = .returned v ∧ R v w')
    (hK : ∀ v w', R v w' → K (a.put o.dst v) w') :
    if Region.wanted o (yielded ops a.tmps) = true then Oper.wp P o a w K Q else E := by
  have hw : Region.wanted o (yielded ops a.tmps) = true := by simp [Region.wanted, hg]
  rw [if_pos hw]
  have he : (execOp a.eval o).run P w = .ok (.enter f #[u, z]) w := by
    rw [← hx, ← hy]
    simp [execOp, hop, resolve, invoke, hent, go_sem]
  unfold Oper.wp
  rw [he, Oper.upon_enter]
  refine H.mono ?_
  rintro e w' ⟨v, rfl, hR⟩
  exact hK v w' hR
theorem hent38 (args : Array Value) (w : World) : (callFunc 38 args).run Try.prog w = .ok (.enter 38 args) w := Go.Proofs.enters_of Try.func38 (by kernel_rfl) rfl args w
theorem hent37 (args : Array Value) (w : World) : (callFunc 37 args).run Try.prog w = .ok (.enter 37 args) w := Go.Proofs.enters_of Try.func37 (by kernel_rfl) rfl args w
set_option maxRecDepth 100000 in
set_option maxHeartbeats 1600000 in
theorem shWeighs_bad (n : Int) (a : Option Addr) (m c : Nat) (A : List Arc) (va : Option Addr) (vc : Nat) (zs : List Int) (d : Bool) (w : World) (h : ArcsAt w a m A) (hc : a = none → c = 0) (hb : 300 < m ∨ (m ≤ 300 ∧ (checkM n A).2 ≠ 0)) :
    Calls Try.prog 9 #[.agg #[.int .i64 n, .slice a m c], .slice va zs.length vc, .bool d] w fun e w' => e = .returned (.bool true) ∧ Below w.heap.size w w' := by
  have HS := hide (rin_start w n a m c A h)
  have HGR : Hid (∀ w', ArcsAt w' a m A → Calls Try.prog 31 #[.agg #[.int .i64 n, .slice a m c], .bool d] w' fun e w'' => e = .returned (.tuple #[.pointer none, .agg #[.int .i64 0, .slice none 0 0], .agg #[.int .i64 0, .slice none 0 0], .bool false]) ∧ Below w'.heap.size w' w'') := fun w' h' => by
    rcases hb with hm | ⟨hm, he⟩
    · exact graph_many n a m c A d w' h' hm
    · exact graph_bad n a m c A d w' h' hc hm he
  clear h hc hb
  go_enter Try.func9, Try.ntmps9
  go_wp2_with (first
    | (go_at_call 30; refine (awakeS_any _).mono ?_; rintro e w1 ⟨rfl, h1⟩; have H1 := hide (HS.out.later h1); have c0 := H1.out.c0; have c1 := H1.out.c1; clear h1)
    | (go_at_call 31; refine (HGR.out _ H1.out.arcs).mono ?_; rintro e w2 ⟨rfl, h2⟩; have H2 := hide (H1.out.later h2); clear h2))
  go_ret
  exact ⟨rfl, (H2.out.below.alloc H2.out.below.size _).alloc (by have := H2.out.below.size; simp; omega) _⟩
set_option maxRecDepth 100000 in
set_option maxHeartbeats 6400000 in
theorem shWeighs_good (n : Nat) (a : Option Addr) (m c : Nat) (A : List Arc) (va : Option Addr) (vc : Nat) (zs : List Int) (d : Bool) (w : World) (h : ArcsAt w a m A) (hc : a = none → c = 0) (hm : m ≤ 300) (he : (checkM n A).2 = 0) (hz : IntsAt w va zs) (hvn : va = none → vc = 0) :
    Calls Try.prog 9 #[.agg #[.int .i64 n, .slice a m c], .slice va zs.length vc, .bool d] w fun e w' => e = .returned (.bool true) ∧ Below w.heap.size w w' := by
  obtain ⟨hn0, hl, hok⟩ := checkM_ok he
  have hn : 1 ≤ n ∧ n ≤ 32 := by omega
  have HN := hide hn
  have HM := hide (mt_pos he d)
  have HWO : Hid (WOk n (tab (legsM (mtM d) A))) := fun p q x _ _ hx => tab_pos HM.out p q x hx
  have HS := hide (rin_start w n a m c A h)
  have HGR := hide (fun (w' : World) (h' : ArcsAt w' a m A) => graph_good n a m c A d w' h' hc hm he)
  obtain ⟨Q, hQ⟩ : ∃ Q, n * n = Q := ⟨_, rfl⟩
  have HQ := hide hQ
  have hQb : Q ≤ 1024 := by rw [← hQ]; exact (mul_wrap hn.2 hn.2).2
  have HQ0 : Hid (0 < n * n) := Nat.mul_pos (by omega) (by omega)
  clear h hc he hn0 hok hQ
  generalize tab (legsM (mtM d) A) = W at HWO HGR
  have HL1 : Hid ((cellsM n W).length = Q) := (cellsM_len n W).trans HQ.out
  have HL2 : Hid ((cellsM n (least n W)).length = Q) := (cellsM_len n (least n W)).trans HQ.out
  have HZ := hide hz
  by_cases hbig : 200 < zs.length
  · have hb2 : (200 : Int) < (zs.length : Int) := by omega
    clear hz
    go_enter Try.func9, Try.ntmps9
    go_wp2_with (first
      | (go_at_call 30; refine (awakeS_any _).mono ?_; rintro e w1 ⟨rfl, h1⟩; have H1 := hide (HS.out.later h1); have c0 := H1.out.c0; have c1 := H1.out.c1; clear h1)
      | (go_at_call 31; refine (HGR.out _ H1.out.arcs).mono ?_; rintro e w2 ⟨g, vt, vl, rfl, h2, h3, h4, h5⟩; obtain ⟨tg, tc, rfl, _⟩ := h3.form (by rw [cellsM_len]; exact HQ0.out); obtain ⟨lg, lc, rfl, _⟩ := h4.form (by rw [cellsM_len]; exact HQ0.out); rw [HL1.out] at h3 ⊢; rw [HL2.out] at h4 ⊢; have H3 := hide (g3_mk (H1.out.later h5) h2 h3 h4 HQ.out); clear h2 h3 h4 h5))
    go_ret
    exact ⟨rfl, H3.out.rin.below⟩
  · have hb2 : ¬ (200 : Int) < (zs.length : Int) := by omega
    clear hz
    go_enter Try.func9, Try.ntmps9
    go_upto_region 6 with (first
      | (go_at_call 30; refine (awakeS_any _).mono ?_; rintro e w1 ⟨rfl, h1⟩; have H1 := hide (HS.out.later h1); have c0 := H1.out.c0; have c1 := H1.out.c1; clear h1)
      | (go_at_call 31; refine (HGR.out _ H1.out.arcs).mono ?_; rintro e w2 ⟨g, vt, vl, rfl, h2, h3, h4, h5⟩; obtain ⟨tg, tc, rfl, _⟩ := h3.form (by rw [cellsM_len]; exact HQ0.out); obtain ⟨lg, lc, rfl, _⟩ := h4.form (by rw [cellsM_len]; exact HQ0.out); rw [HL1.out] at h3 ⊢; rw [HL2.out] at h4 ⊢; have H3 := hide (g3_mk (H1.out.later h5) h2 h3 h4 HQ.out); clear h2 h3 h4 h5))
    obtain ⟨bx, hbx⟩ : ∃ b, w2.heap.size = b := ⟨_, rfl⟩
    rw [hbx] at H3
    try rw [hbx]
    generalize (w2.alloc (.cells #[.int .i64 n, .slice (some ⟨tg, 0, none⟩) Q tc] 41)).alloc (.cells #[.int .i64 n, .slice (some ⟨lg, 0, none⟩) Q lc] 41) = W0 at H3 ⊢
    have HZ2 := hide (HZ.out.later H3.out.rin.below)
    have H3D := hide (H3.out.later (Below.refl W0.heap.size W0).drew)
    have HZD := hide (HZ2.out.later (Below.refl W0.heap.size W0).drew)
    have d0 := H3.out.mt.c0
    have d1 := H3.out.mt.c1
    have HAL := hide (H3.out.later ((Below.refl _ _).alloc (Nat.le_refl _) (.cells #[] 3)))
    have e0 := HAL.out.mt.c0
    have e1 := HAL.out.mt.c1
    have HNB := hide (And.intro hvn hbig)
    clear HAL hvn hbig H1 c0 c1
    have hzz : (weighZ n W zs == weighZ n W zs) = true := by simp
    go_region_law (first
      | (refine step_copy_ints' rfl (.tmp 29) (.tmp 30) rfl rfl rfl HZD.out HNB.out.1 (by have := HNB.out.2; omega) ?_; intro va3 vc3 w3 h1 h2 h3; have H5 := hide (And.intro (H3D.out.later h3) (And.intro (HZD.out.later h3) (And.intro h1 h2))); have d0 := H5.out.1.mt.c0; have d1 := H5.out.1.mt.c1; clear h1 h2 h3)
      | (refine step_call2 rfl 38 (.tmp 28) (.tmp 31) 32 39 rfl hent38 (.pointer (some ⟨g, 0, none⟩)) (.slice va3 zs.length vc3) rfl rfl (R := fun v w' => v = .int .i64 (weighZ n W zs) ∧ Below w3.heap.size w3 w') ((weighS_any H5.out.1.gr HN.out HWO.out H5.out.2.2.1 (by have := HNB.out.2; omega) H5.out.2.2.2).mono (fun e w' h => ⟨_, h.1, rfl, h.2⟩)) ?_; rintro u w4 ⟨rfl, h1⟩; have H6 := hide (And.intro (H5.out.1.later h1) (H5.out.2.1.later h1)); have d0 := H6.out.1.mt.c0; have d1 := H6.out.1.mt.c1; clear h1)
      | (refine step_call2 rfl 37 (.tmp 33) (.tmp 34) 41 39 rfl hent37 (.agg #[.int .i64 n, .slice (some ⟨tg, 0, none⟩) Q tc]) (.slice va zs.length vc) rfl rfl (R := fun v w' => v = .int .i64 (weighZ n W zs) ∧ Below w4.heap.size w4 w') ((rweigh_box HN.out HWO.out HQ.out H6.out.1.mt H6.out.2 (by have := HNB.out.2; omega)).mono (fun e w' h => ⟨_, h.1, rfl, h.2⟩)) ?_; rintro u w5 ⟨rfl, h1⟩; have H7 := hide (H6.out.1.later h1); clear h1))
    all_goals
      go_wp2
      go_ret
      exact ⟨rfl, H7.out.rin.below⟩
theorem shWeighs_any (n : Int) (a : Option Addr) (m c : Nat) (A : List Arc) (va : Option Addr) (vc : Nat) (zs : List Int) (d : Bool) (w : World) (h : ArcsAt w a m A) (hc : a = none → c = 0) (hz : IntsAt w va zs) (hvn : va = none → vc = 0) :
    Calls Try.prog 9 #[.agg #[.int .i64 n, .slice a m c], .slice va zs.length vc, .bool d] w fun e w' => e = .returned (.bool true) ∧ Below w.heap.size w w' := by
  by_cases hm : 300 < m
  · exact shWeighs_bad n a m c A va vc zs d w h hc (.inl hm)
  · by_cases he : (checkM n A).2 = 0
    · obtain ⟨hn, _⟩ := checkM_ok he
      obtain ⟨k, rfl⟩ : ∃ k : Nat, n = (k : Int) := ⟨n.toNat, by omega⟩
      exact shWeighs_good k a m c A va vc zs d w h hc (by omega) he hz hvn
    · exact shWeighs_bad n a m c A va vc zs d w h hc (.inr ⟨by omega, he⟩)
end Go.Proofs.Ytkgpjhechopfhaa
