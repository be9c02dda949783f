/-
  What the call of Out does: the edges that leave a place, in memory of their own.
-/
import Derived.Test.YtojkdmkeankcgaaGreatOwn
import Derived.Test.YtojkdmkeankcgaaGreatReads
import Derived.Test.YtojkdmkeankcgaaGreatGather
namespace Go.Proofs.YtojkdmkeankcgaaGreat
open Go.RowKit Go.Sort

theorem flatE_one (R : List (Int × Int)) : ∀ u ∈ flatE R, u.oneCell' = true := by
  intro u hu
  unfold flatE at hu
  rw [List.mem_flatMap] at hu
  obtain ⟨x, _, hx⟩ := hu
  simp [encE] at hx
  rcases hx with rfl | rfl <;> rfl
theorem own_madeE {w w1 : World} (hb : Below w.heap.size w w1) : (w1.alloc (.cells #[] 75)).ownsRow w.heap.size 75 2 (.slice (some ⟨w1.heap.size, 0, none⟩) 0 0) 0 (flatE []) := World.ownsRow_made w1 #[] 0 hb.size (by decide) rfl
set_option maxHeartbeats 1600000 in
theorem clone_edges (v : Value) (R : List (Int × Int)) (w : World) (h : w.ownsRow 0 75 2 v R.length (flatE R)) (hm : R.length ≤ 32) :
    Calls Tryz.prog 82 #[v] w fun e w' => ∃ v', e = .returned v' ∧ w'.ownsRow w.heap.size 75 2 v' R.length (flatE R) ∧ Below w.heap.size w w' := by
  rcases h.2 with ⟨rfl, h0⟩ | ⟨g, cap, cur, rfl, hr⟩
  · have hR : R = [] := List.eq_nil_of_length_eq_zero h0
    subst hR
    have hq := fun w => Lib.run_eql_slice_nil (P := Tryz.prog) w 73 75 none 0 0 0 0 Tryz.underlying73
    clear h
    go_enter Tryz.func82, Tryz.ntmps82
    go_wp2
    go_ret
    exact ⟨_, rfl, World.ownsRow_nil _ _ _ _, Below.refl _ _⟩
  · obtain ⟨i0, hi0, hy0, hy1, hy2⟩ := info_parts info53
    have H := hide h
    have HI := hide (And.intro hi0 (And.intro hy0 (And.intro hy1 hy2)))
    have hq := fun w => Lib.run_eql_slice_nil (P := Tryz.prog) w 73 75 (some ⟨g, 0, none⟩) R.length cap 0 0 Tryz.underlying73
    have HNW : Hid (∀ j u, (flatE R)[j]? = some u → (w.alloc (.cells #[] 75)).cell? ((⟨g, 0, none⟩ : Addr).add j) = some u) := fun j u hu => by
      have hlt : g < w.heap.size := (h.lt g rfl).2
      rw [add0, World.cell?_alloc_lt _ _ _ (by show g < _; exact hlt)]
      have := World.ownsRow.cells (g := g) h rfl j u hu
      rw [add0] at this
      exact this
    clear h hi0 hy0 hy1 hy2 hr
    go_enter Tryz.func82, Tryz.ntmps82
    go_wp2_with (at_builtin; refine wpList_append_own _ rfl (.tmp 5) (.tmp 6) 73 rfl w.heap.size 75 i0 _ 2 16 Tryz.underlying73 HI.out.1 HI.out.2.1 HI.out.2.2.1 HI.out.2.2.2 rfl (by decide) _ 0 (flatE []) rfl (own_madeE (Below.refl _ _)) ⟨g, 0, none⟩ R.length cap (flatE R) rfl (flatE_len R) HNW.out (flatE_one R) (by unfold maxLen; omega) (by omega) (by simp) ?_)
    intro v1 w2 hown1 hg1 _
    have hb2 : Below w.heap.size w w2 := ((Below.refl w.heap.size w).alloc (Nat.le_refl _) _).grown hg1 (by simp) fun k hk => ((own_madeE (Below.refl _ _)).lt k hk).1
    have HR : Hid (w2.ownsRow w.heap.size 75 2 v1 R.length (flatE R) ∧ Below w.heap.size w w2) := ⟨by simpa [flatE] using hown1, hb2⟩
    obtain ⟨a1, c1, rfl⟩ : ∃ a c, v1 = .slice a R.length c := by
      rcases HR.out.1.2 with ⟨e, e2⟩ | ⟨g, cap, cur, e, _⟩
      · exact ⟨none, 0, by rw [e, e2]⟩
      · exact ⟨_, cap, e⟩
    clear hown1 hg1 hb2
    go_wp2
    go_ret
    exact ⟨_, rfl, HR.out.1, HR.out.2⟩
theorem out_any {w : World} {g n : Nat} {W : Nat → Nat → Option Int} (h : GAt w g n W) (hn : 1 ≤ n ∧ n ≤ 32) (p : Int) :
    Calls Tryz.prog 58 #[.pointer (some ⟨g, 0, none⟩), .int .i64 p] w fun e w' => ∃ v, e = .returned v ∧ w'.ownsRow w.heap.size 75 2 v (rowZ n W p).length (flatE (rowZ n W p)) ∧ Below w.heap.size w w' := by
  have HL := hide (leaving_any h hn p)
  have hlen := rowZ_len n W p
  clear h
  generalize rowZ n W p = R at HL hlen ⊢
  go_enter Tryz.func58, Tryz.ntmps58
  go_wp2_with (first | (go_at_call 80; refine HL.out.mono ?_; rintro e w1 ⟨v, rfl, h1, h2⟩; have hown : w1.ownsRow 0 75 2 v R.length (flatE R) := own_of_block h1 (fun k hk => h2.block k (h1.lt k hk).2); have HC := hide (clone_edges v R w1 hown (by omega)); have H2 := hide h2; clear h1 h2 hown) | (go_at_call 82; refine HC.out.mono ?_; rintro e w2 ⟨v2, rfl, h3, h4⟩; have H3 := hide (And.intro h3 h4); clear h3 h4))
  go_ret
  refine ⟨_, rfl, ?_, H2.out.trans (H3.out.2.mono H2.out.size)⟩
  obtain ⟨e1, e2⟩ := H3.out.1
  refine ⟨e1, ?_⟩
  rcases e2 with e2 | ⟨g, cap, cur, e3, hb, r⟩
  · exact .inl e2
  · exact .inr ⟨g, cap, cur, e3, Nat.le_trans H2.out.size hb, r⟩
end Go.Proofs.YtojkdmkeankcgaaGreat
