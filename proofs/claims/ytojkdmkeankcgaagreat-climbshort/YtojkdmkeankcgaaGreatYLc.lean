/-
  Several texts in one.
-/
import Derived.Test.YtojkdmkeankcgaaGreatYLe
import Derived.Test.YtojkdmkeankcgaaGreatInts
import Derived.Test.YtojkdmkeankcgaaGreatQQueB
import Derived.Test.YtojkdmkeankcgaaGreatYNw
import Derived.Test.YtojkdmkeankcgaaGreatYCl
/-  What the call of the document's Least does. -/
namespace Go.Proofs.YtojkdmkeankcgaaGreat
open Go.RowKit Go.Sort

theorem mul_wrap {p n : Nat} (hp : p ≤ 32) (hn : n ≤ 32) : IntKind.i64.wrap ((p : Int) * (n : Int)) = ((p * n : Nat) : Int) ∧ p * n ≤ 1024 := by
  have h : p * n ≤ 32 * 32 := Nat.mul_le_mul hp hn
  refine ⟨?_, by omega⟩
  rw [← Int.natCast_mul, IntKind.wrap_i64]
  generalize p * n = q at h ⊢
  omega
def cv (x : Option Int) : Int := x.getD (-1)
section
variable {n k i j : Nat} {W M : Nat → Nat → Option Int}
theorem cv_bnd (h : FwIs n W k M) (hn : k ≤ 32) {a b : Nat} (ha : a < n) (hb : b < n) : -1 ≤ cv (M a b) ∧ cv (M a b) ≤ 4294967296000000 := by
  cases e : M a b with
  | none => simp [cv]
  | some v =>
    have := h.pos a b v ha hb e
    have hp : (2 : Int) ^ k ≤ 2 ^ 32 := by
      have : (2 : Nat) ^ k ≤ 2 ^ 32 := Nat.pow_le_pow_right (by omega) (by omega)
      exact_mod_cast this
    simp only [cv, Option.getD_some]
    generalize (2 : Int) ^ k = P at this hp
    omega
theorem mix_a (h : FwIs n W k M) (hk : k < n) (hi : i < n) : (cellsM n (mix k i j M))[i * n + k]! = cv (M i k) := by rw [cellsM_at _ hi hk, mix_col h hk]; rfl
theorem mix_b (h : FwIs n W k M) (hk : k < n) (hj : j < n) : (cellsM n (mix k i j M))[k * n + j]! = cv (M k j) := by rw [cellsM_at _ hk hj, mix_row h hk]; rfl
theorem mix_c (hi : i < n) (hj : j < n) : (cellsM n (mix k i j M))[i * n + j]! = cv (M i j) := by rw [cellsM_at _ hi hj, mix_here]; rfl
theorem mix_set (h : FwIs n W k M) (hi : i < n) (hj : j < n) (ha : 0 ≤ cv (M i k)) (hb : 0 ≤ cv (M k j)) (hc : cv (M i j) < 0 ∨ cv (M i k) + cv (M k j) < cv (M i j)) :
    cellsM n (mix k i (j + 1) M) = (cellsM n (mix k i j M)).set (i * n + j) (cv (M i k) + cv (M k j)) := by
  refine cellsM_set _ _ hj _ ?_ (fun a b _ _ hne => mix_other hne)
  rw [mix_next]
  show omin (M i j) (oadd (M i k) (M k j)) = _
  cases e1 : M i k with
  | none => rw [e1] at ha; simp [cv] at ha
  | some x =>
    cases e2 : M k j with
    | none => rw [e2] at hb; simp [cv] at hb
    | some y =>
      cases e3 : M i j with
      | none => rfl
      | some z =>
        have hz := (h.pos i j z hi hj e3).1
        rw [e1, e2, e3] at hc
        simp only [cv, Option.getD_some] at hc
        show (if x + y < z then some (x + y) else some z) = _
        rw [if_pos (by omega)]
        rfl
theorem mix_keep (h : FwIs n W k M) (hi : i < n) (hj : j < n) (hk : k < n) (hc : ¬ (0 ≤ cv (M i k) ∧ 0 ≤ cv (M k j) ∧ (cv (M i j) < 0 ∨ cv (M i k) + cv (M k j) < cv (M i j)))) :
    cellsM n (mix k i (j + 1) M) = cellsM n (mix k i j M) := by
  refine cellsM_same _ _ (fun a b _ _ => ?_)
  by_cases hab : a = i ∧ b = j
  · obtain ⟨rfl, rfl⟩ := hab
    rw [mix_next, mix_here]
    show omin (M a b) (oadd (M a k) (M k b)) = _
    cases e1 : M a k with
    | none => cases M a b <;> rfl
    | some x =>
      cases e2 : M k b with
      | none => cases M a b <;> rfl
      | some y =>
        have hx := (h.pos a k x hi hk e1).1
        have hy := (h.pos k b y hk hj e2).1
        cases e3 : M a b with
        | none => exact absurd ⟨by rw [e1]; exact hx, by rw [e2]; exact hy, by rw [e3]; simp [cv]⟩ hc
        | some z =>
          rw [e1, e2, e3] at hc
          simp only [cv, Option.getD_some] at hc
          show (if x + y < z then some (x + y) else some z) = _
          rw [if_neg (by omega)]
  · exact mix_other hab
theorem mix_rows : cellsM n (mix k i n M) = cellsM n (mix k (i + 1) 0 M) := cellsM_same _ _ (fun a b _ hb => (mix_line a b hb))
theorem mix_zero : cellsM n (mix k 0 0 M) = cellsM n M := cellsM_same _ _ (fun a b _ _ => mix_first a b)
theorem mix_all : cellsM n (mix k n 0 M) = cellsM n (rnd k M) := cellsM_same _ _ (fun a b ha _ => mix_last a b ha)
theorem diag_zero (W : Nat → Nat → Option Int) : cellsM n (diagTo 0 W) = cellsM n W := cellsM_same _ _ (fun a b _ _ => by unfold diagTo; rw [if_neg (by omega)])
theorem diag_step (W : Nat → Nat → Option Int) (hi : i < n) : cellsM n (diagTo (i + 1) W) = (cellsM n (diagTo i W)).set (i * n + i) 0 := by
  refine cellsM_set _ _ hi 0 (by unfold diagTo; rw [if_pos ⟨rfl, by omega⟩]) (fun a b _ _ hne => ?_)
  unfold diagTo
  by_cases hh : a = b ∧ a < i
  · rw [if_pos hh, if_pos (by omega)]
  · rw [if_neg hh, if_neg (by omega)]
end
/-- While Least runs. -/
structure LsIn (B Mb : Nat) (w : World) (n g cap : Nat) (wr : World) (xs : List Int) : Prop where
  below : Below B w wr
  hM : B + 1 < Mb
  b1 : wr.heap[B + 1]? = some (.cells #[.int .i64 0, .slice none 0 0] 29 (0, 0))
  bm : wr.heap[Mb]? = some (.cells #[.int .i64 n, .slice (some ⟨g, 0, none⟩) (n * n) cap] 29 (0, 0))
  own : IRow wr (B + 2) (.slice (some ⟨g, 0, none⟩) (n * n) cap) xs
  len : xs.length = n * n
section
variable {B Mb n g cap : Nat} {w wr : World} {xs : List Int}
theorem LsIn.ne (h : LsIn B Mb w n g cap wr xs) : g ≠ Mb := fun e => by
  obtain ⟨cur, hc⟩ := own_tag h.own rfl
  rw [e, h.bm] at hc
  simp at hc
theorem LsIn.lt1 (h : LsIn B Mb w n g cap wr xs) : B + 1 < wr.heap.size := by
  rcases Nat.lt_or_ge (B + 1) wr.heap.size with h' | h'
  · exact h'
  · have := h.b1; rw [Array.getElem?_eq_none h'] at this; cases this
theorem LsIn.put (h : LsIn B Mb w n g cap wr xs) (k : Nat) (x : Int) : LsIn B Mb w n g cap (wr.setCell ⟨g, k, none⟩ (.int .i64 x)) (xs.set k x) := by
  have hg := (h.own.lt g rfl).1
  refine ⟨h.below.setCell (by show B ≤ g; omega) _, h.hM, ?_, ?_, h.own.set k x, by rw [List.length_set]; exact h.len⟩
  · rw [heap_setCell_other _ _ _ _ (by show B + 1 ≠ g; omega)]; exact h.b1
  · rw [heap_setCell_other _ _ _ _ (Ne.symm h.ne)]; exact h.bm
theorem LsIn.drewN (h : LsIn B Mb w n g cap wr xs) (q : Nat) : LsIn B Mb w n g cap (wr.drewN q) xs := by
  have e : (wr.drewN q).heap = wr.heap := Qu.drewN_heap wr q
  have f : Below wr.heap.size wr (wr.drewN q) := Qu.below_drewN (Below.refl _ _) q
  exact ⟨h.below.trans (f.mono (Nat.le_trans (Nat.le_of_lt (Nat.lt_trans (Nat.lt_succ_self _) h.lt1)) (Nat.le_refl _))), h.hM, by rw [e]; exact h.b1, by rw [e]; exact h.bm, h.own.later (Nat.le_refl _) f, h.len⟩
theorem LsIn.c (h : LsIn B Mb w n g cap wr xs) : wr.cell? ⟨Mb, 1, none⟩ = some (.slice (some ⟨g, 0, none⟩) (n * n) cap) := by rw [cell_of_row _ Mb 1 _ _ _ h.bm]; rfl
theorem LsIn.cs (h : LsIn B Mb w n g cap wr xs) (k : Nat) (hk : k < n * n) : wr.cell? ⟨g, k, none⟩ = some (.int .i64 xs[k]!) := h.own.cell k (by rw [h.len]; exact hk)
end
set_option maxRecDepth 100000 in
set_option maxHeartbeats 6400000 in
theorem least_any {w : World} {n base : Nat} {W : Nat → Nat → Option Int} {v : Value} (hn : 1 ≤ n ∧ n ≤ 32) (hW : WOk n W) (ht : IRow w base v (cellsM n W)) :
    Calls Tryz.prog 20 #[.agg #[.int .i64 n, v]] w fun e w' => ∃ v', e = .returned (.agg #[.int .i64 n, v']) ∧ IRow w' w.heap.size v' (cellsM n (least n W)) ∧ Below w.heap.size w w' := by
  have hnn : 0 < n * n := Nat.mul_pos (by omega) (by omega)
  have hl := cellsM_len n W
  obtain ⟨tg, tc, rfl, _, htg, _, _⟩ := ht.form (by rw [hl]; exact hnn)
  obtain ⟨hmul0, hQb⟩ := mul_wrap hn.2 hn.2
  rw [hl]
  rw [hl] at ht
  have HW := hide hW
  have HN := hide hn
  obtain ⟨i0, hi0, hy0, hy1, hy2⟩ := info_parts info3
  have HI := hide (And.intro hi0 (And.intro hy0 (And.intro hy1 hy2)))
  have hsz2 : ((w.alloc (.cells #[.int .i64 n, .slice (some ⟨tg, 0, none⟩) (n * n) tc] 29)).alloc (.cells #[.int .i64 0, .slice none 0 0] 29)).heap.size = w.heap.size + 2 := by simp
  have HB2 : Hid (Below w.heap.size w ((w.alloc (.cells #[.int .i64 n, .slice (some ⟨tg, 0, none⟩) (n * n) tc] 29)).alloc (.cells #[.int .i64 0, .slice none 0 0] 29))) := below_two (Below.refl _ _) (Nat.le_refl _) _ _
  have HO : Hid ((((w.alloc (.cells #[.int .i64 n, .slice (some ⟨tg, 0, none⟩) (n * n) tc] 29)).alloc (.cells #[.int .i64 0, .slice none 0 0] 29)).alloc (.cells #[] 3)).ownsRow (w.heap.size + 2) 3 1 (.slice (some ⟨w.heap.size + 2, 0, none⟩) 0 0) 0 (intsV [])) := by
    have := World.ownsRow_made ((w.alloc (.cells #[.int .i64 n, .slice (some ⟨tg, 0, none⟩) (n * n) tc] 29)).alloc (.cells #[.int .i64 0, .slice none 0 0] 29)) (#[] : Array Value) (base := w.heap.size + 2) (e := 3) (size := 1) 0 (by rw [hsz2]; exact Nat.le_refl _) (by decide) rfl
    rw [hsz2] at this
    exact this
  have HNW : Hid (∀ j u, (intsV (cellsM n W))[j]? = some u → (((w.alloc (.cells #[.int .i64 n, .slice (some ⟨tg, 0, none⟩) (n * n) tc] 29)).alloc (.cells #[.int .i64 0, .slice none 0 0] 29)).alloc (.cells #[] 3)).cell? ((⟨tg, 0, none⟩ : Addr).add j) = some u) := fun j u hu => by
    rw [add0, World.cell?_alloc_lt _ _ _ (by show tg < _; simp; omega), World.cell?_alloc_lt _ _ _ (by show tg < _; simp; omega), World.cell?_alloc_lt _ _ _ (by show tg < _; exact htg)]
    have := World.ownsRow.cells (g := tg) ht rfl j u hu
    rw [add0] at this
    exact this
  have HNL : Hid ((intsV (cellsM n W)).length = n * n * 1) := by show _ = _; rw [intsV_len, hl]; omega
  have hb0 : ((w.alloc (.cells #[.int .i64 n, .slice (some ⟨tg, 0, none⟩) (n * n) tc] 29)).alloc (.cells #[.int .i64 0, .slice none 0 0] 29)).heap[w.heap.size + 1]? = some (.cells #[.int .i64 0, .slice none 0 0] 29 (0, 0)) := by
    have := heap_alloc_new (w.alloc (.cells #[.int .i64 n, .slice (some ⟨tg, 0, none⟩) (n * n) tc] 29)) (.cells #[.int .i64 0, .slice none 0 0] 29)
    rw [show (w.alloc (.cells #[.int .i64 n, .slice (some ⟨tg, 0, none⟩) (n * n) tc] 29)).heap.size = w.heap.size + 1 by simp] at this
    exact this
  have HB0 := hide hb0
  have HZ2 := hide hsz2
  clear hW ht hi0 hy0 hy1 hy2 hb0 hsz2
  go_enter Tryz.func20, Tryz.ntmps20
  go_wp2_with (at_builtin; refine wpList_append_own _ rfl (.tmp 15) (.tmp 17) 27 rfl (w.heap.size + 2) 3 i0 _ 1 8 Tryz.underlying27 HI.out.1 HI.out.2.1 HI.out.2.2.1 HI.out.2.2.2 rfl (by decide) _ 0 (intsV []) rfl HO.out ⟨tg, 0, none⟩ (n * n) tc (intsV (cellsM n W)) rfl HNL.out HNW.out (intsV_one _) (by unfold maxLen; omega) (by omega) (by simp) ?_)
  intro v1 w2 hown1 hg1 _
  have hown2 : IRow w2 (w.heap.size + 2) v1 (cellsM n W) := by
    unfold IRow
    rw [hl]
    simpa [intsV] using hown1
  have hb2 : Below w.heap.size w w2 := (HB2.out.alloc (by rw [HZ2.out]; omega) _).grown hg1 (by simp <;> omega) fun k hk => by have := (HO.out.lt k hk).1; omega
  have hk1 : w2.heap[w.heap.size + 1]? = some (.cells #[.int .i64 0, .slice none 0 0] 29 (0, 0)) := by
    rw [hg1.block _ (by simp) (fun e => by have := (HO.out.lt _ e.symm).1; omega), Below.heap_alloc _ _ _ (by rw [HZ2.out]; omega)]
    exact HB0.out
  obtain ⟨g, cap, rfl, hgb, hgl, _, _⟩ := hown2.form (by rw [hl]; exact hnn)
  rw [hl] at hown2 ⊢
  have HS : Hid (LsIn w.heap.size w2.heap.size w n g cap (w2.alloc (.cells #[.int .i64 n, .slice (some ⟨g, 0, none⟩) (n * n) cap] 29)) (cellsM n (diagTo 0 W))) := by
    have hlt : w.heap.size + 1 < w2.heap.size := by omega
    refine ⟨hb2.alloc hb2.size _, hlt, by rw [Below.heap_alloc _ _ _ hlt]; exact hk1, heap_alloc_new _ _, ?_, by rw [cellsM_len]⟩
    rw [diag_zero]
    exact hown2.alloc _
  obtain ⟨B, hB⟩ : ∃ B, w.heap.size = B := ⟨_, rfl⟩
  obtain ⟨Mb, hMb⟩ : ∃ Mb, w2.heap.size = Mb := ⟨_, rfl⟩
  rw [hB, hMb] at HS
  rw [hB]
  have HBB := hide hB
  have HMB := hide hMb
  clear HO HNW HNL HB0 HZ2 HB2 hown1 hg1 hown2 hb2 hk1 hgb hgl hB hMb hl
  go_wp2
  try rw [HMB.out]
  try rw [HBB.out]
  generalize w2.alloc (.cells #[.int .i64 n, .slice (some ⟨g, 0, none⟩) (n * n) cap] 29) = W0 at HS ⊢
  go_loopw [5] (fun vi wr => ∃ i : Nat, vi = .int .i64 i ∧ i ≤ n ∧ Hid (LsIn B Mb w n g cap wr (cellsM n (diagTo i W)))) (fun vi _ => n - (intOf vi).toNat)
  case atStart => exact ⟨0, rfl, Nat.zero_le _, HS.out⟩
  case round =>
    clear HS
    obtain ⟨i, rfl, hi, HR⟩ := hrel
    have r1 := HR.out.c
    by_cases hlt : i < n
    · have i1 : (i : Int) < (n : Int) := by omega
      obtain ⟨hmul, hmb⟩ := mul_wrap (show i ≤ 32 by omega) hn.2
      have hcl := cell_lt hlt hlt
      have r2 := HR.out.cs (i * n + i) hcl
      have f2 := HR.out.own.frozen (i * n + i)
      have HST : Hid (LsIn B Mb w n g cap (wr.setCell ⟨g, i * n + i, none⟩ (.int .i64 0)) (cellsM n (diagTo (i + 1) W))) := by
        show LsIn _ _ _ _ _ _ _ _
        rw [diag_step W hlt]
        exact HR.out.put (i * n + i) 0
      generalize (cellsM n (diagTo i W))[i * n + i]! = x at r2
      clear HR
      go_wp2
      go_roundw
      case rel => exact ⟨i + 1, by go_num, by omega, HST.out⟩
      case measure => simp [intOf]; omega
    · have hin : i = n := by omega
      subst hin
      have HRR : Hid (LsIn B Mb w i g cap wr (cellsM i (fw i W 0))) := HR.out
      clear HR hi hlt r1
      go_wp2
      go_loopw [6] (fun vk wr => ∃ k : Nat, vk = .int .i64 k ∧ k ≤ i ∧ Hid (LsIn B Mb w i g cap wr (cellsM i (fw i W k)))) (fun vk _ => i - (intOf vk).toNat)
      case atStart => exact ⟨0, rfl, Nat.zero_le _, HRR.out⟩
      case round =>
        clear HRR
        obtain ⟨k, rfl, hk, HR⟩ := hrel
        by_cases hkn : k < i
        · have HF := hide (fw_is HW.out k (Nat.le_of_lt hkn))
          have k1 : (k : Int) < (i : Int) := by omega
          obtain ⟨hmulk, hmbk⟩ := mul_wrap (show k ≤ 32 by omega) hn.2
          have HRR : Hid (LsIn B Mb w i g cap wr (cellsM i (mix k 0 0 (fw i W k)))) := by show LsIn _ _ _ _ _ _ _ _; rw [mix_zero]; exact HR.out
          have HNX : Hid (cellsM i (mix k i 0 (fw i W k)) = cellsM i (fw i W (k + 1))) := mix_all
          clear HR
          generalize fw i W k = M at HF HRR HNX ⊢
          go_wp2
          go_loopw [7] (fun vi wr => ∃ p : Nat, vi = .int .i64 p ∧ p ≤ i ∧ Hid (LsIn B Mb w i g cap wr (cellsM i (mix k p 0 M)))) (fun vi _ => i - (intOf vi).toNat)
          case atStart => exact ⟨0, rfl, Nat.zero_le _, HRR.out⟩
          case round =>
            clear HRR
            obtain ⟨p, rfl, hp, HR⟩ := hrel
            by_cases hpn : p < i
            · have p1 : (p : Int) < (i : Int) := by omega
              obtain ⟨hmulp, hmbp⟩ := mul_wrap (show p ≤ 32 by omega) hn.2
              go_wp2
              go_loopw [8] (fun vi wr => ∃ j : Nat, vi = .int .i64 j ∧ j ≤ i ∧ Hid (LsIn B Mb w i g cap wr (cellsM i (mix k p j M)))) (fun vi _ => i - (intOf vi).toNat)
              case atStart => exact ⟨0, rfl, Nat.zero_le _, HR.out⟩
              case round =>
                clear HR
                obtain ⟨j, rfl, hj, HR⟩ := hrel
                by_cases hjn : j < i
                · have j1 : (j : Int) < (i : Int) := by omega
                  have r1 := HR.out.c
                  have ra := HR.out.cs (p * i + k) (cell_lt hpn hkn)
                  have rb := HR.out.cs (k * i + j) (cell_lt hkn hjn)
                  have rc := HR.out.cs (p * i + j) (cell_lt hpn hjn)
                  have fc := HR.out.own.frozen (p * i + j)
                  rw [mix_a HF.out hkn hpn] at ra
                  rw [mix_b HF.out hkn hjn] at rb
                  rw [mix_c hpn hjn] at rc
                  have la := cell_lt hpn hkn
                  have lb := cell_lt hkn hjn
                  have lc := cell_lt hpn hjn
                  have ba := cv_bnd HF.out (show k ≤ 32 by omega) hpn hkn
                  have bb := cv_bnd HF.out (show k ≤ 32 by omega) hkn hjn
                  have bc := cv_bnd HF.out (show k ≤ 32 by omega) hpn hjn
                  have HST := hide (fun h1 h2 h3 => mix_set HF.out hpn hjn h1 h2 h3)
                  have HKP := hide (fun h1 => mix_keep HF.out hpn hjn hkn h1)
                  have HPUT : Hid (∀ nq x, LsIn B Mb w i g cap ((wr.drewN nq).setCell ⟨g, p * i + j, none⟩ (.int .i64 x)) ((cellsM i (mix k p j M)).set (p * i + j) x)) := fun nq x => (HR.out.drewN nq).put (p * i + j) x
                  have ea : ((p * i : Nat) : Int) + (k : Int) = ((p * i + k : Nat) : Int) := by omega
                  generalize cv (M p k) = xa at ra ba HST HKP
                  generalize cv (M k j) = xb at rb bb HST HKP
                  generalize cv (M p j) = xc at rc bc HST HKP
                  go_wp2
                  go_quiet (fail)
                  by_cases h1 : xa < 0
                  · have HE : Hid (LsIn B Mb w i g cap (wr.drewN nq) (cellsM i (mix k p (j + 1) M))) := by show LsIn _ _ _ _ _ _ _ _; rw [HKP.out (by omega)]; exact HR.out.drewN nq
                    clear HR HST HKP HPUT
                    go_wp2
                    go_roundw
                    case rel => exact ⟨j + 1, by go_num, by omega, HE.out⟩
                    case measure => simp [intOf]; omega
                  · by_cases h2 : xb < 0
                    · have HE : Hid (LsIn B Mb w i g cap (wr.drewN nq) (cellsM i (mix k p (j + 1) M))) := by show LsIn _ _ _ _ _ _ _ _; rw [HKP.out (by omega)]; exact HR.out.drewN nq
                      clear HR HST HKP HPUT
                      go_wp2
                      go_roundw
                      case rel => exact ⟨j + 1, by go_num, by omega, HE.out⟩
                      case measure => simp [intOf]; omega
                    · by_cases h3 : xc < 0
                      · have HE : Hid (LsIn B Mb w i g cap ((wr.drewN nq).setCell ⟨g, p * i + j, none⟩ (.int .i64 (xa + xb))) (cellsM i (mix k p (j + 1) M))) := by show LsIn _ _ _ _ _ _ _ _; rw [HST.out (by omega) (by omega) (.inl h3)]; exact HPUT.out nq _
                        clear HR HST HKP HPUT
                        go_wp2
                        go_roundw
                        case rel => exact ⟨j + 1, by go_num, by omega, HE.out⟩
                        case measure => simp [intOf]; omega
                      · by_cases h4 : xa + xb < xc
                        · have HE : Hid (LsIn B Mb w i g cap ((wr.drewN nq).setCell ⟨g, p * i + j, none⟩ (.int .i64 (xa + xb))) (cellsM i (mix k p (j + 1) M))) := by show LsIn _ _ _ _ _ _ _ _; rw [HST.out (by omega) (by omega) (.inr h4)]; exact HPUT.out nq _
                          clear HR HST HKP HPUT
                          go_wp2
                          go_roundw
                          case rel => exact ⟨j + 1, by go_num, by omega, HE.out⟩
                          case measure => simp [intOf]; omega
                        · have HE : Hid (LsIn B Mb w i g cap (wr.drewN nq) (cellsM i (mix k p (j + 1) M))) := by show LsIn _ _ _ _ _ _ _ _; rw [HKP.out (by omega)]; exact HR.out.drewN nq
                          clear HR HST HKP HPUT
                          go_wp2
                          go_roundw
                          case rel => exact ⟨j + 1, by go_num, by omega, HE.out⟩
                          case measure => simp [intOf]; omega
                · have hji : j = i := by omega
                  subst hji
                  have HE : Hid (LsIn B Mb w j g cap wr (cellsM j (mix k (p + 1) 0 M))) := by have := HR.out; rw [mix_rows] at this; exact this
                  clear HR
                  go_wp2
                  go_roundw
                  case rel => exact ⟨p + 1, by go_num, by omega, HE.out⟩
                  case measure => simp [intOf]; omega
            · have hpi : p = i := by omega
              subst hpi
              have HE : Hid (LsIn B Mb w p g cap wr (cellsM p (fw p W (k + 1)))) := by have := HR.out; rw [HNX.out] at this; exact this
              clear HR
              go_wp2
              go_roundw
              case rel => exact ⟨k + 1, by go_num, by omega, HE.out⟩
              case measure => simp [intOf]; omega
        · have hki : k = i := by omega
          subst hki
          have m0 := cell_of_row wr Mb 0 _ _ _ HR.out.bm
          have m1 := cell_of_row wr Mb 1 _ _ _ HR.out.bm
          have m2 := cell_of_row wr (B + 1) 0 _ _ _ HR.out.b1
          have m3 := cell_of_row wr (B + 1) 1 _ _ _ HR.out.b1
          simp only [List.getElem?_toArray, List.getElem?_cons_succ, List.getElem?_cons_zero] at m0 m1 m2 m3
          have f2 := frozen_of_row wr (B + 1) 0 _ _ HR.out.b1
          have f3 := frozen_of_row wr (B + 1) 1 _ _ HR.out.b1
          have HX : Hid (((wr.setCell ⟨B + 1, 0, none⟩ (.int .i64 k)).setCell ⟨B + 1, 1, none⟩ (.slice (some ⟨g, 0, none⟩) (k * k) cap)).heap[B + 1]? = some (.cells #[.int .i64 k, .slice (some ⟨g, 0, none⟩) (k * k) cap] 29 (0, 0)) ∧ IRow ((wr.setCell ⟨B + 1, 0, none⟩ (.int .i64 k)).setCell ⟨B + 1, 1, none⟩ (.slice (some ⟨g, 0, none⟩) (k * k) cap)) B (.slice (some ⟨g, 0, none⟩) (k * k) cap) (cellsM k (least k W)) ∧ Below B w ((wr.setCell ⟨B + 1, 0, none⟩ (.int .i64 k)).setCell ⟨B + 1, 1, none⟩ (.slice (some ⟨g, 0, none⟩) (k * k) cap))) := by
            refine ⟨?_, ((HR.out.own.setOther (by omega) _).setOther (by omega) _).mono (by omega), (HR.out.below.setCell (by show B ≤ B + 1; omega) _).setCell (by show B ≤ B + 1; omega) _⟩
            rw [heap_setCell_same _ _ 1 _ _ _ (heap_setCell_same _ _ 0 _ _ _ HR.out.b1)]
            rfl
          clear HR
          go_wp2
          (try simp only [Exit.inBlock, Exit.then])
          refine bodyPost_ret (results_cell_row rfl _ _ (B + 1) 29 _ (0, 0) _ rfl HX.out.1 Tryz.underlying29 rfl (by kernel_rfl)) rfl ?_
          rw [HBB.out]
          exact ⟨_, rfl, HX.out.2.1, HX.out.2.2⟩
end Go.Proofs.YtojkdmkeankcgaaGreat
/-  What the call of the document's Table does. -/
namespace Go.Proofs.YtojkdmkeankcgaaGreat
open Go.RowKit Go.Sort

/-- While Table runs: r's box, the answer's, m's, and m's cells. -/
structure TabIn (B : Nat) (w : World) (r : Array Value) (n : Nat) (wr : World) (v : Value) (xs : List Int) : Prop where
  below : Below B w wr
  b0 : wr.heap[B]? = some (.cells r 24 (0, 0))
  b1 : wr.heap[B + 1]? = some (.cells #[.int .i64 0, .slice none 0 0] 29 (0, 0))
  b2 : wr.heap[B + 2]? = some (.cells #[.int .i64 n, v] 29 (0, 0))
  own : IRow wr (B + 3) v xs
section
variable {B n : Nat} {w wr : World} {r : Array Value} {v : Value} {xs : List Int}
theorem TabIn.lt (h : TabIn B w r n wr v xs) : B + 2 < wr.heap.size := by
  rcases Nat.lt_or_ge (B + 2) wr.heap.size with h' | h'
  · exact h'
  · have := h.b2; rw [Array.getElem?_eq_none h'] at this; cases this
theorem TabIn.more (h : TabIn B w r n wr v xs) {w1 w3 : World} {g cap : Nat} (o : Obj) (hw1 : w1 = wr.alloc o) (x : Int)
    (hown : w3.ownsRow (B + 3) 3 1 (.slice (some ⟨g, 0, none⟩) (xs.length + 1) cap) (xs.length + 1) (intsV xs ++ [.int .i64 x])) (hg : w1.grownBy w3 v.ownBlock) :
    TabIn B w r n (w3.setCell ⟨B + 2, 1, none⟩ (.slice (some ⟨g, 0, none⟩) (xs.length + 1) cap)) (.slice (some ⟨g, 0, none⟩) (xs.length + 1) cap) (xs ++ [x]) := by
  subst hw1
  have hlt := h.lt
  have hne : ∀ k, k < B + 3 → v.ownBlock ≠ some k := fun k hk e => by have := (h.own.lt k e).1; omega
  have keep : ∀ k, k < B + 3 → w3.heap[k]? = wr.heap[k]? := fun k hk => by
    rw [hg.block k (by simp; omega) (fun e => hne k hk e.symm), Below.heap_alloc _ _ _ (by omega)]
  have hb3 : Below B w w3 := (h.below.alloc (by omega) o).grown hg (by simp; omega) fun k hk => by have := (h.own.lt k hk).1; omega
  refine ⟨hb3.setCell (by show B ≤ B + 2; omega) _, ?_, ?_, ?_, ?_⟩
  · rw [heap_setCell_other _ _ _ _ (by show B ≠ B + 2; omega), keep _ (by omega)]; exact h.b0
  · rw [heap_setCell_other _ _ _ _ (by show B + 1 ≠ B + 2; omega), keep _ (by omega)]; exact h.b1
  · rw [heap_setCell_same w3 (B + 2) 1 _ _ _ ((keep _ (by omega)).trans h.b2)]; rfl
  · have : IRow w3 (B + 3) (.slice (some ⟨g, 0, none⟩) (xs.length + 1) cap) (xs ++ [x]) := by
      unfold IRow
      rw [List.length_append, intsV_app]
      exact hown
    exact this.setOther (by omega) _
theorem TabIn.alloc (h : TabIn B w r n wr v xs) (o : Obj) : TabIn B w r n (wr.alloc o) v xs := by
  have hlt := h.lt
  refine ⟨h.below.alloc (by omega) o, ?_, ?_, ?_, h.own.alloc o⟩
  · rw [Below.heap_alloc _ _ _ (by omega)]; exact h.b0
  · rw [Below.heap_alloc _ _ _ (by omega)]; exact h.b1
  · rw [Below.heap_alloc _ _ _ (by omega)]; exact h.b2
theorem TabIn.put {g m cap : Nat} (h : TabIn B w r n wr (.slice (some ⟨g, 0, none⟩) m cap) xs) (k : Nat) (x : Int) : TabIn B w r n (wr.setCell ⟨g, k, none⟩ (.int .i64 x)) (.slice (some ⟨g, 0, none⟩) m cap) (xs.set k x) := by
  have hg := (h.own.lt g rfl).1
  refine ⟨h.below.setCell (by show B ≤ g; omega) _, ?_, ?_, ?_, h.own.set k x⟩
  · rw [heap_setCell_other _ _ _ _ (by show B ≠ g; omega)]; exact h.b0
  · rw [heap_setCell_other _ _ _ _ (by show B + 1 ≠ g; omega)]; exact h.b1
  · rw [heap_setCell_other _ _ _ _ (by show B + 2 ≠ g; omega)]; exact h.b2
end
theorem tabin_start (w : World) (n : Nat) (r : Array Value) : TabIn w.heap.size w r n (((w.alloc (.cells r 24)).alloc (.cells #[.int .i64 0, .slice none 0 0] 29)).alloc (.cells #[.int .i64 n, .slice none 0 0] 29)) (.slice none 0 0) [] := by
  have h1 : (w.alloc (.cells r 24)).heap.size = w.heap.size + 1 := by simp
  have h2 : ((w.alloc (.cells r 24)).alloc (.cells #[.int .i64 0, .slice none 0 0] 29)).heap.size = w.heap.size + 2 := by simp
  refine ⟨(((Below.refl _ _).alloc (Nat.le_refl _) _).alloc (by simp) _).alloc (by simp; omega) _, ?_, ?_, ?_, irow_nil _ _⟩
  · rw [Below.heap_alloc _ _ _ (by rw [h2]; omega), Below.heap_alloc _ _ _ (by rw [h1]; omega)]; exact heap_alloc_new _ _
  · rw [Below.heap_alloc _ _ _ (by rw [h2]; omega), ← h1]; exact heap_alloc_new _ _
  · rw [← h2]; exact heap_alloc_new _ _
theorem rep_snoc (i : Nat) : List.replicate i (-1 : Int) ++ [-1] = List.replicate (i + 1) (-1) := by rw [List.replicate_succ']
/-- What one arc does to the cells. -/
theorem legs_cells (n : Nat) (mt : Arc → Int) (A : List Arc) (k : Nat) (hk : k < A.length) (hm : ∀ x ∈ A, 0 ≤ mt x) (p q : Nat) (x3 x4 : Int) (hx : A[k]! = ((p : Int), (q : Int), x3, x4)) (hpn : p < n) (hqn : q < n) :
    cellsM n (tab (legsM mt (A.take (k + 1)))) = if p ≠ q ∧ ((cellsM n (tab (legsM mt (A.take k))))[p * n + q]! < 0 ∨ mt A[k]! < (cellsM n (tab (legsM mt (A.take k))))[p * n + q]!) then (cellsM n (tab (legsM mt (A.take k)))).set (p * n + q) (mt A[k]!) else cellsM n (tab (legsM mt (A.take k))) := by
  have hs := legsM_snoc mt A k hk
  rw [hs]
  rw [hx]
  by_cases hpq : p = q
  · rw [if_pos (by simp [hpq]), if_neg (fun h => h.1 hpq)]
  · have hne : ¬ ((p : Int), (q : Int), x3, x4).1 = ((p : Int), (q : Int), x3, x4).2.1 := by simp only; omega
    rw [if_neg hne]
    have := cells_step n (legsM mt (A.take k)) p q (mt ((p : Int), (q : Int), x3, x4)) hpn hqn (fun v hv => by
      obtain ⟨⟨l, hl, _, _, h3⟩, _⟩ := tab_some.1 hv
      unfold legsM at hl
      rw [List.mem_map] at hl
      obtain ⟨y, hy, rfl⟩ := hl
      rw [← h3]
      exact hm y (List.mem_of_mem_take (List.mem_filter.1 hy).1))
    simp only at this ⊢
    rw [this]
    by_cases hc : (cellsM n (tab (legsM mt (A.take k))))[p * n + q]! < 0 ∨ mt ((p : Int), (q : Int), x3, x4) < (cellsM n (tab (legsM mt (A.take k))))[p * n + q]!
    · rw [if_pos hc, if_pos ⟨hpq, hc⟩]
    · rw [if_neg hc, if_neg (fun h => hc h.2)]
set_option maxRecDepth 100000 in
set_option maxHeartbeats 6400000 in
theorem table_any (n : Nat) (hn : 1 ≤ n ∧ n ≤ 32) (a : Option Addr) (m c : Nat) (A : List Arc) (d : Bool) (w : World) (h : ArcsAt w a m A) (hm : m ≤ 300) (hp : ∀ x ∈ A, placeOk (n : Int) x = true) (hw : ∀ x ∈ A, 0 ≤ mtM d x) :
    Calls Tryz.prog 28 #[.agg #[.int .i64 n, .slice a m c], .bool d] w fun e w' => ∃ v, e = .returned (.agg #[.int .i64 n, v]) ∧ IRow w' w.heap.size v (cellsM n (tab (legsM (mtM d) A))) ∧ Below w.heap.size w w' := by
  have HA := hide h
  have HP := hide hp
  have HW := hide hw
  have HLEN := hide h.len
  obtain ⟨i0, hi0, hy0, hy1, hy2⟩ := info_parts info3
  have HI := hide (And.intro hi0 (And.intro hy0 (And.intro hy1 hy2)))
  have HS := hide (tabin_start w n #[.int .i64 n, .slice a m c])
  obtain ⟨B, hB⟩ : ∃ B, w.heap.size = B := ⟨_, rfl⟩
  have HB := hide hB
  rw [hB] at HS ⊢
  obtain ⟨hmul, hQb⟩ := mul_wrap hn.2 hn.2
  obtain ⟨Q, hQ⟩ : ∃ Q, n * n = Q := ⟨_, rfl⟩
  rw [hQ] at hmul hQb
  have HQ := hide hQ
  clear h hp hw hB hi0 hy0 hy1 hy2 hQ
  go_enter Tryz.func28, Tryz.ntmps28
  go_wp2
  try rw [HB.out]
  generalize ((w.alloc (.cells #[.int .i64 n, .slice a m c] 24)).alloc (.cells #[.int .i64 0, .slice none 0 0] 29)).alloc (.cells #[.int .i64 n, .slice none 0 0] 29) = W0 at HS ⊢
  go_loopw [6] (fun vi wr => ∃ i : Nat, vi = .int .i64 i ∧ i ≤ Q ∧ Hid (∃ v, TabIn B w #[.int .i64 n, .slice a m c] n wr v (List.replicate i (-1)))) (fun vi _ => Q - (intOf vi).toNat)
  case atStart => exact ⟨0, rfl, Nat.zero_le _, _, HS.out⟩
  case round =>
    clear HS
    obtain ⟨i, rfl, hi, HR⟩ := hrel
    obtain ⟨v, hR⟩ := HR.out
    have r0 := cell_of_row wr B 0 _ _ _ hR.b0
    have r1 := cell_of_row wr B 1 _ _ _ hR.b0
    have r2 := cell_of_row wr (B + 2) 1 _ _ _ hR.b2
    have f2 := frozen_of_row wr (B + 2) 1 _ _ hR.b2
    simp only [List.getElem?_toArray, List.getElem?_cons_succ, List.getElem?_cons_zero] at r0 r1 r2
    by_cases hlt : i < Q
    · have i1 : (i : Int) < (Q : Int) := by omega
      have HRR := hide hR
      have hBz := hR.lt
      have HOW : Hid ((wr.alloc (.cells #[.int .i64 (-1)] 3)).ownsRow (B + 3) 3 1 v (List.replicate i (-1)).length (intsV (List.replicate i (-1)))) := hR.own.alloc _
      rw [List.length_replicate] at HOW
      have HNW : Hid (∀ j u, [Value.int .i64 (-1)][j]? = some u → (wr.alloc (.cells #[.int .i64 (-1)] 3)).cell? ((⟨wr.heap.size, 0, none⟩ : Addr).add j) = some u) := World.news_of_block (cs := #[.int .i64 (-1)]) (t := 3) (fr := (0, 0)) (heap_alloc_new _ _)
      clear hR
      go_wp2_with (at_builtin; refine wpList_append_lies _ rfl (.tmp 24) (.tmp 25) 27 rfl (B + 3) 3 i0 (.int .i64 0) 1 8 Tryz.underlying27 HI.out.1 HI.out.2.1 HI.out.2.2.1 HI.out.2.2.2 rfl (by decide) v i (intsV (List.replicate i (-1))) rfl HOW.out ⟨wr.heap.size, 0, none⟩ 1 1 [.int .i64 (-1)] rfl rfl HNW.out (by simp [Value.oneCell']) (by decide) (by unfold maxLen; omega) (by omega) (by simp; omega) (wr.heap.size + 1) (by simp) ?_)
      intro gg cap w3 hown1 hgrow hat hlt3
      have HST : Hid (TabIn B w #[.int .i64 n, .slice a m c] n (w3.setCell ⟨B + 2, 1, none⟩ (.slice (some ⟨gg, 0, none⟩) (i + 1) cap)) (.slice (some ⟨gg, 0, none⟩) (i + 1) cap) (List.replicate (i + 1) (-1))) := by
        have := HRR.out.more (.cells #[.int .i64 (-1)] 3) rfl (-1) (g := gg) (cap := cap) (w3 := w3) (by rw [List.length_replicate]; exact hown1) hgrow
        rw [rep_snoc, List.length_replicate] at this
        exact this
      have f3 : w3.frozen? ⟨B + 2, 1, none⟩ = false := by
        have := HST.out.b2
        have := frozen_of_row _ (B + 2) 1 _ _ this
        rw [World.frozen?_setCell] at this
        exact this
      have c3 : ∃ u, w3.cell? ⟨B + 2, 1, none⟩ = some u := by
        rw [hgrow.cell_far ⟨B + 2, 1, none⟩ (by show B + 2 < _; simp; omega) (fun e => by have := (HOW.out.lt _ e.symm).1; simp at this), World.cell?_alloc_lt _ _ _ (by show B + 2 < _; omega)]
        exact ⟨_, r2⟩
      obtain ⟨u3, c3⟩ := c3
      clear hown1 hgrow hat
      go_wp2
      go_roundw
      case rel => exact ⟨i + 1, by go_num, by omega, _, HST.out⟩
      case measure => simp [intOf]; omega
    · have hiQ : i = Q := by omega
      subst hiQ
      have HRR : Hid (TabIn B w #[.int .i64 n, .slice a m c] n wr v (cellsM n (tab (legsM (mtM d) (A.take 0))))) := by
        show TabIn _ _ _ _ _ _ _
        rw [List.take_zero, show legsM (mtM d) [] = [] from rfl, cellsM_none, HQ.out]
        exact hR
      clear hR HR
      go_wp2
      go_loopw [7] (fun vi wr => ∃ k : Nat, vi = .int .i64 k ∧ k ≤ m ∧ Hid (∃ v, TabIn B w #[.int .i64 n, .slice a m c] n wr v (cellsM n (tab (legsM (mtM d) (A.take k)))))) (fun vi _ => m - (intOf vi).toNat)
      case atStart => exact ⟨0, rfl, Nat.zero_le _, _, HRR.out⟩
      case round =>
        clear HRR r0 r1 r2 f2 hmul hQb
        obtain ⟨k, rfl, hk, HR⟩ := hrel
        obtain ⟨v, hR⟩ := HR.out
        have r0 := cell_of_row wr B 0 _ _ _ hR.b0
        have r1 := cell_of_row wr B 1 _ _ _ hR.b0
        have r2 := cell_of_row wr (B + 2) 1 _ _ _ hR.b2
        simp only [List.getElem?_toArray, List.getElem?_cons_succ, List.getElem?_cons_zero] at r0 r1 r2
        by_cases hlt : k < m
        · obtain ⟨b, off, rfl, d0, d1, d2, d3⟩ := (HA.out.later (Nat.le_of_eq HB.out) hR.below).cell k hlt
          have hkA : k < A.length := by rw [HLEN.out]; exact hlt
          have hmem : A[k]! ∈ A := by rw [getElem!_pos A k hkA]; exact List.getElem_mem _
          have hpl := of_decide_eq_true (HP.out A[k]! hmem)
          obtain ⟨x, hx⟩ : ∃ x, A[k]! = x := ⟨_, rfl⟩
          obtain ⟨x1, x2, x3, x4⟩ := x
          rw [hx] at d0 d1 d2 d3 hpl
          simp only at d0 d1 d2 d3 hpl
          obtain ⟨p, rfl⟩ : ∃ p : Nat, x1 = (p : Int) := ⟨x1.toNat, by omega⟩
          obtain ⟨q, rfl⟩ : ∃ q : Nat, x2 = (q : Int) := ⟨x2.toNat, by omega⟩
          have hpn : p < n := by omega
          have hqn : q < n := by omega
          have HLC := hide (legs_cells n (mtM d) A k hkA HW.out p q x3 x4 hx hpn hqn)
          rw [hx] at HLC
          obtain ⟨hmul, hmb⟩ := mul_wrap (show p ≤ 32 by omega) hn.2
          have hcl := cell_lt hpn hqn
          have hxl := cellsM_len n (tab (legsM (mtM d) (A.take k)))
          generalize cellsM n (tab (legsM (mtM d) (A.take k))) = xs at hR HLC hxl
          obtain ⟨g, cap, rfl, hg1, hg2, _, _⟩ := hR.own.form (by omega)
          have t0 := hR.own.cell (p * n + q) (by omega)
          have HR0 := hide hR
          have HRA := hide (hR.alloc (.cells #[.int .i64 p, .int .i64 q, .int .i64 x3, .int .i64 x4] 54))
          have hBz := hR.lt
          have r0a : (wr.alloc (.cells #[.int .i64 p, .int .i64 q, .int .i64 x3, .int .i64 x4] 54)).cell? ⟨B, 0, none⟩ = some (.int .i64 n) := by rw [World.cell?_alloc_lt _ _ _ (by show B < _; omega)]; exact r0
          have r2a : (wr.alloc (.cells #[.int .i64 p, .int .i64 q, .int .i64 x3, .int .i64 x4] 54)).cell? ⟨B + 2, 1, none⟩ = some (.slice (some ⟨g, 0, none⟩) xs.length cap) := by rw [World.cell?_alloc_lt _ _ _ (by show B + 2 < _; omega)]; exact r2
          have t0a : (wr.alloc (.cells #[.int .i64 p, .int .i64 q, .int .i64 x3, .int .i64 x4] 54)).cell? ⟨g, p * n + q, none⟩ = some (.int .i64 xs[p * n + q]!) := by rw [World.cell?_alloc_lt _ _ _ (by show g < _; omega)]; exact t0
          have fza := HRA.out.own.frozen (p * n + q)
          have i1 : (k : Int) < (m : Int) := by omega
          have i2 : ((p * n : Nat) : Int) + (q : Int) < (xs.length : Int) := by omega
          clear hR HR hmem hx hpl
          cases d
          · by_cases hpq : p = q
            · have HE : Hid (TabIn B w #[.int .i64 n, .slice (some ⟨b, off, none⟩) m c] n (wr.alloc (.cells #[.int .i64 p, .int .i64 q, .int .i64 x3, .int .i64 x4] 54)) (.slice (some ⟨g, 0, none⟩) xs.length cap) (cellsM n (tab (legsM (mtM false) (A.take (k + 1)))))) := by show TabIn _ _ _ _ _ _ _; rw [HLC.out, if_neg (fun h => h.1 hpq)]; exact HRA.out
              have hne : ((p : Int) != (q : Int)) = false := by simp [hpq]
              replace hpq := hide hpq
              clear HLC HRA
              go_wp2
              go_roundw
              case rel => exact ⟨k + 1, by go_num, by omega, _, HE.out⟩
              case measure => simp [intOf]; omega
            · have hne : ((p : Int) != (q : Int)) = true := by simp; omega
              by_cases h1 : xs[p * n + q]! < 0
              · have HE : Hid (TabIn B w #[.int .i64 n, .slice (some ⟨b, off, none⟩) m c] n ((wr.setCell ⟨g, p * n + q, none⟩ (.int .i64 x3)).alloc (.cells #[.int .i64 p, .int .i64 q, .int .i64 x3, .int .i64 x4] 54)) (.slice (some ⟨g, 0, none⟩) xs.length cap) (cellsM n (tab (legsM (mtM false) (A.take (k + 1)))))) := by show TabIn _ _ _ _ _ _ _; rw [HLC.out, if_pos ⟨hpq, .inl h1⟩]; exact (HR0.out.put _ _).alloc _
                generalize xs[p * n + q]! = z at *
                clear HLC HRA
                go_wp2
                go_roundw
                case rel => exact ⟨k + 1, by go_num, by omega, _, HE.out⟩
                case measure => simp [intOf]; omega
              · by_cases h2 : x3 < xs[p * n + q]!
                · have HE : Hid (TabIn B w #[.int .i64 n, .slice (some ⟨b, off, none⟩) m c] n ((wr.setCell ⟨g, p * n + q, none⟩ (.int .i64 x3)).alloc (.cells #[.int .i64 p, .int .i64 q, .int .i64 x3, .int .i64 x4] 54)) (.slice (some ⟨g, 0, none⟩) xs.length cap) (cellsM n (tab (legsM (mtM false) (A.take (k + 1)))))) := by show TabIn _ _ _ _ _ _ _; rw [HLC.out, if_pos ⟨hpq, .inr h2⟩]; exact (HR0.out.put _ _).alloc _
                  generalize xs[p * n + q]! = z at *
                  clear HLC HRA
                  go_wp2
                  go_roundw
                  case rel => exact ⟨k + 1, by go_num, by omega, _, HE.out⟩
                  case measure => simp [intOf]; omega
                · have HE : Hid (TabIn B w #[.int .i64 n, .slice (some ⟨b, off, none⟩) m c] n (wr.alloc (.cells #[.int .i64 p, .int .i64 q, .int .i64 x3, .int .i64 x4] 54)) (.slice (some ⟨g, 0, none⟩) xs.length cap) (cellsM n (tab (legsM (mtM false) (A.take (k + 1)))))) := by show TabIn _ _ _ _ _ _ _; rw [HLC.out, if_neg (fun h => h.2.elim h1 h2)]; exact HRA.out
                  generalize xs[p * n + q]! = z at *
                  clear HLC HRA
                  go_wp2
                  go_roundw
                  case rel => exact ⟨k + 1, by go_num, by omega, _, HE.out⟩
                  case measure => simp [intOf]; omega
          · by_cases hpq : p = q
            · have HE : Hid (TabIn B w #[.int .i64 n, .slice (some ⟨b, off, none⟩) m c] n (wr.alloc (.cells #[.int .i64 p, .int .i64 q, .int .i64 x3, .int .i64 x4] 54)) (.slice (some ⟨g, 0, none⟩) xs.length cap) (cellsM n (tab (legsM (mtM true) (A.take (k + 1)))))) := by show TabIn _ _ _ _ _ _ _; rw [HLC.out, if_neg (fun h => h.1 hpq)]; exact HRA.out
              have hne : ((p : Int) != (q : Int)) = false := by simp [hpq]
              replace hpq := hide hpq
              clear HLC HRA
              go_wp2
              go_roundw
              case rel => exact ⟨k + 1, by go_num, by omega, _, HE.out⟩
              case measure => simp [intOf]; omega
            · have hne : ((p : Int) != (q : Int)) = true := by simp; omega
              by_cases h1 : xs[p * n + q]! < 0
              · have HE : Hid (TabIn B w #[.int .i64 n, .slice (some ⟨b, off, none⟩) m c] n ((wr.setCell ⟨g, p * n + q, none⟩ (.int .i64 x4)).alloc (.cells #[.int .i64 p, .int .i64 q, .int .i64 x3, .int .i64 x4] 54)) (.slice (some ⟨g, 0, none⟩) xs.length cap) (cellsM n (tab (legsM (mtM true) (A.take (k + 1)))))) := by show TabIn _ _ _ _ _ _ _; rw [HLC.out, if_pos ⟨hpq, .inl h1⟩]; exact (HR0.out.put _ _).alloc _
                generalize xs[p * n + q]! = z at *
                clear HLC HRA
                go_wp2
                go_roundw
                case rel => exact ⟨k + 1, by go_num, by omega, _, HE.out⟩
                case measure => simp [intOf]; omega
              · by_cases h2 : x4 < xs[p * n + q]!
                · have HE : Hid (TabIn B w #[.int .i64 n, .slice (some ⟨b, off, none⟩) m c] n ((wr.setCell ⟨g, p * n + q, none⟩ (.int .i64 x4)).alloc (.cells #[.int .i64 p, .int .i64 q, .int .i64 x3, .int .i64 x4] 54)) (.slice (some ⟨g, 0, none⟩) xs.length cap) (cellsM n (tab (legsM (mtM true) (A.take (k + 1)))))) := by show TabIn _ _ _ _ _ _ _; rw [HLC.out, if_pos ⟨hpq, .inr h2⟩]; exact (HR0.out.put _ _).alloc _
                  generalize xs[p * n + q]! = z at *
                  clear HLC HRA
                  go_wp2
                  go_roundw
                  case rel => exact ⟨k + 1, by go_num, by omega, _, HE.out⟩
                  case measure => simp [intOf]; omega
                · have HE : Hid (TabIn B w #[.int .i64 n, .slice (some ⟨b, off, none⟩) m c] n (wr.alloc (.cells #[.int .i64 p, .int .i64 q, .int .i64 x3, .int .i64 x4] 54)) (.slice (some ⟨g, 0, none⟩) xs.length cap) (cellsM n (tab (legsM (mtM true) (A.take (k + 1)))))) := by show TabIn _ _ _ _ _ _ _; rw [HLC.out, if_neg (fun h => h.2.elim h1 h2)]; exact HRA.out
                  generalize xs[p * n + q]! = z at *
                  clear HLC HRA
                  go_wp2
                  go_roundw
                  case rel => exact ⟨k + 1, by go_num, by omega, _, HE.out⟩
                  case measure => simp [intOf]; omega
        · have hkm : k = m := by omega
          subst hkm
          have m0 := cell_of_row wr (B + 2) 0 _ _ _ hR.b2
          have m2 := cell_of_row wr (B + 1) 0 _ _ _ hR.b1
          have m3 := cell_of_row wr (B + 1) 1 _ _ _ hR.b1
          simp only [List.getElem?_toArray, List.getElem?_cons_succ, List.getElem?_cons_zero] at m0 m2 m3
          have f2 := frozen_of_row wr (B + 1) 0 _ _ hR.b1
          have f3 := frozen_of_row wr (B + 1) 1 _ _ hR.b1
          have hv := hR.own.shape
          obtain ⟨va, vc, hva⟩ := hv
          have HX : Hid (((wr.setCell ⟨B + 1, 0, none⟩ (.int .i64 n)).setCell ⟨B + 1, 1, none⟩ v).heap[B + 1]? = some (.cells #[.int .i64 n, v] 29 (0, 0)) ∧ IRow ((wr.setCell ⟨B + 1, 0, none⟩ (.int .i64 n)).setCell ⟨B + 1, 1, none⟩ v) B v (cellsM n (tab (legsM (mtM d) A))) ∧ Below B w ((wr.setCell ⟨B + 1, 0, none⟩ (.int .i64 n)).setCell ⟨B + 1, 1, none⟩ v)) := by
            refine ⟨?_, ?_, (hR.below.setCell (by show B ≤ B + 1; omega) _).setCell (by show B ≤ B + 1; omega) _⟩
            · rw [heap_setCell_same _ _ 1 _ _ _ (heap_setCell_same _ _ 0 _ _ _ hR.b1)]
              rfl
            · have := ((hR.own.setOther (b := B + 1) (j := 0) (by omega) (.int .i64 n)).setOther (b := B + 1) (j := 1) (by omega) v).mono (show B ≤ B + 3 by omega)
              rw [List.take_of_length_le (by rw [HLEN.out]; exact Nat.le_refl _)] at this
              exact this
          clear hR HR
          subst hva
          go_wp2
          (try simp only [Exit.inBlock, Exit.then])
          refine bodyPost_ret (results_cell_row rfl _ _ (B + 1) 29 _ (0, 0) _ rfl HX.out.1 Tryz.underlying29 rfl (by kernel_rfl)) rfl ?_
          exact ⟨_, rfl, HX.out.2.1, HX.out.2.2⟩
end Go.Proofs.YtojkdmkeankcgaaGreat
/-  What the call of the statements' Same does: a graph and the table of its edges. -/
namespace Go.Proofs.YtojkdmkeankcgaaGreat
open Go.RowKit Go.Sort

/-- So many of the first k places are led to from p. -/
def cntRow (W : Nat → Nat → Option Int) (p : Nat) : Nat → Nat
  | 0 => 0
  | k + 1 => cntRow W p k + (if (W p k).isSome then 1 else 0)
theorem cntRow_len (W : Nat → Nat → Option Int) (p : Nat) : ∀ n, (rowM n W p).length = cntRow W p n
  | 0 => rfl
  | n + 1 => by
    have := cntRow_len W p n
    unfold rowM at this ⊢
    rw [List.range_succ, List.filterMap_append, List.length_append, this, cntRow]
    congr 1
    cases h : W p n <;> simp [h]
theorem cntRow_le (W : Nat → Nat → Option Int) (p : Nat) : ∀ n, cntRow W p n ≤ n
  | 0 => Nat.le_refl _
  | n + 1 => by have := cntRow_le W p n; rw [cntRow]; split <;> omega
theorem cntRow_mono (W : Nat → Nat → Option Int) (p : Nat) : ∀ n k, k ≤ n → cntRow W p k ≤ cntRow W p n
  | 0, k, h => by have : k = 0 := by omega
                  subst this; exact Nat.le_refl _
  | n + 1, k, h => by
    by_cases e : k = n + 1
    · subst e; exact Nat.le_refl _
    · have := cntRow_mono W p n k (by omega); rw [cntRow]; omega
/-- Where the edge ahead leads. -/
def lastM (R : List (Int × Int)) : Nat → Int
  | 0 => -1
  | k + 1 => (R[k]!).1
theorem row_at {n p k : Nat} {W : Nat → Nat → Option Int} (hk : k < (rowM n W p).length) : ∃ q v, q < n ∧ W p q = some v ∧ (rowM n W p)[k]! = ((q : Int), v) ∧ lastM (rowM n W p) k < (q : Int) := by
  have hm : (rowM n W p)[k]! ∈ rowM n W p := by rw [getElem!_pos _ k hk]; exact List.getElem_mem _
  obtain ⟨q, v, h1, h2, h3⟩ := mem_rowM.1 hm
  refine ⟨q, v, h1, h2, h3, ?_⟩
  cases k with
  | zero => show (-1 : Int) < q; omega
  | succ k =>
    have := List.pairwise_iff_getElem.1 (rowM_rising n p W) k (k + 1) (by omega) hk (by omega)
    rw [getElem!_pos _ (k + 1) hk] at h3
    show ((rowM n W p)[k]!).1 < _
    rw [getElem!_pos _ k (by omega)]
    rw [h3] at this
    exact this
/-- t's box and its cells, while Same runs, and the graph. -/
structure SmIn (B : Nat) (w : World) (n : Nat) (tv : Value) (tg : Nat) (xs : List Int) (g : Nat) (W : Nat → Nat → Option Int) (wr : World) : Prop where
  below : Below B w wr
  b0 : wr.heap[B]? = some (.cells #[.int .i64 n, tv] 29 (0, 0))
  tab : ∀ k, k < xs.length → wr.cell? ⟨tg, k, none⟩ = some (.int .i64 xs[k]!)
  gr : GAt wr g n W
section
variable {B n tg g : Nat} {w wr w' : World} {tv : Value} {xs : List Int} {W : Nat → Nat → Option Int}
theorem SmIn.lt (h : SmIn B w n tv tg xs g W wr) : B < wr.heap.size := by
  rcases Nat.lt_or_ge B wr.heap.size with h' | h'
  · exact h'
  · have := h.b0; rw [Array.getElem?_eq_none h'] at this; cases this
theorem SmIn.later (h : SmIn B w n tv tg xs g W wr) (f : Below wr.heap.size wr w') : SmIn B w n tv tg xs g W w' :=
  ⟨h.below.trans (f.mono (Nat.le_of_lt h.lt)), (f.block B h.lt).trans h.b0, fun k hk => (f.cell (p := ⟨tg, k, none⟩) (block_lt_of_cell (h.tab k hk))).trans (h.tab k hk), h.gr.later f⟩
theorem SmIn.drewN (h : SmIn B w n tv tg xs g W wr) (q : Nat) : SmIn B w n tv tg xs g W (wr.drewN q) := h.later (Qu.below_drewN (Below.refl _ _) q)
theorem SmIn.drew (h : SmIn B w n tv tg xs g W wr) : SmIn B w n tv tg xs g W wr.drew := h.later (Below.refl _ _).drew
theorem SmIn.alloc (h : SmIn B w n tv tg xs g W wr) (o : Obj) : SmIn B w n tv tg xs g W (wr.alloc o) := h.later ((Below.refl _ _).alloc (Nat.le_refl _) o)
end
end Go.Proofs.YtojkdmkeankcgaaGreat
/-  What the law RoadGraphs does. -/
namespace Go.Proofs.YtojkdmkeankcgaaGreat
open Go.RowKit Go.Sort

/-- A road that was handed in: its box, and its arcs. -/
structure RIn (B : Nat) (w : World) (n : Int) (a : Option Addr) (m c : Nat) (A : List Arc) (wr : World) : Prop where
  below : Below B w wr
  b0 : wr.heap[B]? = some (.cells #[.int .i64 n, .slice a m c] 24 (0, 0))
  arcs : ArcsAt wr a m A
section
variable {B m c : Nat} {w wr w' : World} {n : Int} {a : Option Addr} {A : List Arc}
theorem RIn.lt (h : RIn B w n a m c A wr) : B < wr.heap.size := by
  rcases Nat.lt_or_ge B wr.heap.size with h' | h'
  · exact h'
  · have := h.b0; rw [Array.getElem?_eq_none h'] at this; cases this
theorem RIn.later (h : RIn B w n a m c A wr) (f : Below wr.heap.size wr w') : RIn B w n a m c A w' := ⟨h.below.trans (f.mono (Nat.le_of_lt h.lt)), (f.block B h.lt).trans h.b0, h.arcs.later (Nat.le_refl _) f⟩
theorem RIn.c0 (h : RIn B w n a m c A wr) : wr.cell? ⟨B, 0, none⟩ = some (.int .i64 n) := by rw [cell_of_row _ B 0 _ _ _ h.b0]; rfl
theorem RIn.c1 (h : RIn B w n a m c A wr) : wr.cell? ⟨B, 1, none⟩ = some (.slice a m c) := by rw [cell_of_row _ B 1 _ _ _ h.b0]; rfl
end
theorem rin_start (w : World) (n : Int) (a : Option Addr) (m c : Nat) (A : List Arc) (h : ArcsAt w a m A) : RIn w.heap.size w n a m c A (w.alloc (.cells #[.int .i64 n, .slice a m c] 24)) :=
  ⟨(Below.refl _ _).alloc (Nat.le_refl _) _, heap_alloc_new _ _, h.later (Nat.le_refl _) ((Below.refl _ _).alloc (Nat.le_refl _) _)⟩
theorem mt_pos {n : Int} {A : List Arc} (he : (checkM n A).2 = 0) (d : Bool) : ∀ x ∈ A, 0 ≤ mtM d x ∧ mtM d x ≤ 1000000 := fun x hx => by
  have := of_decide_eq_true ((checkM_ok he).2.2 x hx).2
  cases d
  · show 0 ≤ x.2.2.1 ∧ x.2.2.1 ≤ 1000000; omega
  · show 0 ≤ x.2.2.2 ∧ x.2.2.2 ≤ 1000000; omega
theorem tab_pos {mt : Arc → Int} {A : List Arc} {k : Int} (h : ∀ x ∈ A, 0 ≤ mt x ∧ mt x ≤ k) (p q : Nat) (v : Int) (hv : tab (legsM mt A) p q = some v) : 0 ≤ v ∧ v ≤ k := by
  obtain ⟨⟨l, hl, _, _, h3⟩, _⟩ := tab_some.1 hv
  unfold legsM at hl
  rw [List.mem_map] at hl
  obtain ⟨y, hy, rfl⟩ := hl
  rw [← h3]
  exact h y (List.mem_filter.1 hy).1
theorem wt_far (n : Nat) (W : Nat → Nat → Option Int) : wt n W 0 n = -1 := by unfold wt; rw [if_neg (by omega)]
theorem rowZ_low (n : Nat) (W : Nat → Nat → Option Int) : rowZ n W (-1) = [] := by unfold rowZ; rw [if_neg (by omega)]
theorem rowZ_far (n : Nat) (W : Nat → Nat → Option Int) : rowZ n W n = [] := by unfold rowZ; rw [if_neg (by omega)]
theorem out_none {w : World} {g n : Nat} {W : Nat → Nat → Option Int} (h : GAt w g n W) (hn : 1 ≤ n ∧ n ≤ 32) (p : Int) (hp : rowZ n W p = []) :
    Calls Tryz.prog 58 #[.pointer (some ⟨g, 0, none⟩), .int .i64 p] w fun e w' => ∃ a c, e = .returned (.slice a 0 c) ∧ Below w.heap.size w w' := by
  refine (out_any h hn p).mono ?_
  rintro e w' ⟨v, rfl, h1, h2⟩
  rw [hp] at h1
  rcases h1.2 with ⟨e, e2⟩ | ⟨g, cap, cur, e, _⟩
  · exact ⟨none, 0, by rw [e], h2⟩
  · exact ⟨_, cap, by rw [e]; rfl, h2⟩
end Go.Proofs.YtojkdmkeankcgaaGreat
/-  What the call of short's All does. -/
namespace Go.Proofs.YtojkdmkeankcgaaGreat
open Go.RowKit Go.Sort

/-- The first rows of a matrix, one behind the other. -/
def rowsTo (n : Nat) (M : Nat → Nat → Option Int) : Nat → List Int
  | 0 => []
  | p + 1 => rowsTo n M p ++ lstV n (M p)
theorem lstV_len (n : Nat) (D : Nat → Option Int) : (lstV n D).length = n := by simp [lstV]
theorem rowsTo_eq (n : Nat) (M : Nat → Nat → Option Int) : ∀ p, rowsTo n M p = (List.range (p * n)).map fun i => (M (i / n) (i % n)).getD (-1)
  | 0 => by simp [rowsTo]
  | p + 1 => by
    rw [rowsTo, rowsTo_eq n M p, Nat.succ_mul, List.range_add, List.map_append, List.map_map]
    congr 1
    unfold lstV
    refine List.map_congr_left fun j hj => ?_
    have hj2 : j < n := List.mem_range.1 hj
    simp only [Function.comp, (cell_div (p := p) hj2).1, (cell_div (p := p) hj2).2]
theorem rowsTo_len (n : Nat) (M : Nat → Nat → Option Int) (p : Nat) : (rowsTo n M p).length = p * n := by rw [rowsTo_eq]; simp
theorem rowsTo_all (n : Nat) (M : Nat → Nat → Option Int) : rowsTo n M n = cellsM n M := rowsTo_eq n M n
theorem lst_same {n : Nat} {D E : Nat → Option Int} (h : ∀ q, q < n → D q = E q) : lstV n D = lstV n E := List.map_congr_left fun j hj => by rw [h j (List.mem_range.1 hj)]
/-- While All runs. -/
structure AlIn (B : Nat) (w : World) (n : Nat) (wr : World) (v : Value) (xs : List Int) : Prop where
  below : Below B w wr
  b0 : wr.heap[B]? = some (.cells #[.int .i64 0, .slice none 0 0] 29 (0, 0))
  b1 : wr.heap[B + 1]? = some (.cells #[.int .i64 n, v] 29 (0, 0))
  own : IRow wr (B + 2) v xs
section
variable {B n : Nat} {w wr w' : World} {v : Value} {xs : List Int}
theorem AlIn.lt (h : AlIn B w n wr v xs) : B + 1 < wr.heap.size := (Array.getElem?_eq_some_iff.1 h.b1).1
theorem AlIn.later (h : AlIn B w n wr v xs) (f : Below wr.heap.size wr w') : AlIn B w n w' v xs := by
  have := h.lt
  exact ⟨h.below.trans (f.mono (by omega)), (f.block _ (by omega)).trans h.b0, (f.block _ h.lt).trans h.b1, h.own.later (Nat.le_refl _) f⟩
theorem AlIn.more (h : AlIn B w n wr v xs) {w3 : World} {g cap : Nat} {ys : List Int} (hown : w3.ownsRow (B + 2) 3 1 (.slice (some ⟨g, 0, none⟩) (xs.length + ys.length) cap) (xs.length + ys.length) (intsV xs ++ intsV ys)) (hg : wr.grownBy w3 v.ownBlock) :
    AlIn B w n (w3.setCell ⟨B + 1, 1, none⟩ (.slice (some ⟨g, 0, none⟩) (xs.length + ys.length) cap)) (.slice (some ⟨g, 0, none⟩) (xs.length + ys.length) cap) (xs ++ ys) := by
  have hlt := h.lt
  have hne : ∀ k, k < B + 2 → v.ownBlock ≠ some k := fun k hk e => by have := (h.own.lt k e).1; omega
  have keep : ∀ k, k < B + 2 → w3.heap[k]? = wr.heap[k]? := fun k hk => hg.block k (by omega) (fun e => hne k hk e.symm)
  have hb3 : Below B w w3 := h.below.grown hg (by omega) fun k hk => by have := (h.own.lt k hk).1; omega
  refine ⟨hb3.setCell (by show B ≤ B + 1; omega) _, ?_, ?_, ?_⟩
  · rw [heap_setCell_other _ _ _ _ (by show B ≠ B + 1; omega), keep _ (by omega)]; exact h.b0
  · rw [heap_setCell_same w3 (B + 1) 1 _ _ _ ((keep _ (by omega)).trans h.b1)]; rfl
  · have : IRow w3 (B + 2) (.slice (some ⟨g, 0, none⟩) (xs.length + ys.length) cap) (xs ++ ys) := by
      unfold IRow
      rw [List.length_append, intsV_app]
      exact hown
    exact this.setOther (by omega) _
end
theorem alin_start (w : World) (n : Nat) : AlIn w.heap.size w n ((w.alloc (.cells #[.int .i64 0, .slice none 0 0] 29)).alloc (.cells #[.int .i64 n, .slice none 0 0] 29)) (.slice none 0 0) [] := by
  have h1 : (w.alloc (.cells #[.int .i64 0, .slice none 0 0] 29)).heap.size = w.heap.size + 1 := by simp
  refine ⟨below_two (Below.refl _ _) (Nat.le_refl _) _ _, ?_, ?_, irow_nil _ _⟩
  · rw [Below.heap_alloc _ _ _ (by rw [h1]; omega)]; exact heap_alloc_new _ _
  · rw [← h1]; exact heap_alloc_new _ _
theorem all_nil (w : World) : Calls Tryz.prog 21 #[.pointer none] w fun e w' => e = .returned (.agg #[.int .i64 0, .slice none 0 0]) ∧ Below w.heap.size w w' := by
  have HPL := hide (places_nil (w.alloc (.cells #[.int .i64 0, .slice none 0 0] 29)))
  have HS := hide (alin_start w 0)
  obtain ⟨B, hB⟩ : ∃ B, w.heap.size = B := ⟨_, rfl⟩
  have HB := hide hB
  rw [hB] at HS ⊢
  clear hB
  go_enter Tryz.func21, Tryz.ntmps21
  go_wp2_with (go_at_call 51; refine HPL.out.mono ?_; rintro e w' ⟨rfl, hw⟩; rw [hw]; clear hw)
  try rw [HB.out]
  have e0 : (w.alloc (.cells #[.int .i64 0, .slice none 0 0] 29)).alloc (.cells #[.int .i64 0, .slice none 0 0] 29) = (w.alloc (.cells #[.int .i64 0, .slice none 0 0] 29)).alloc (.cells #[.int .i64 ((0 : Nat) : Int), .slice none 0 0] 29) := rfl
  rw [e0]
  generalize (w.alloc (.cells #[.int .i64 0, .slice none 0 0] 29)).alloc (.cells #[.int .i64 ((0 : Nat) : Int), .slice none 0 0] 29) = W0 at HS ⊢
  go_loopw [12] (fun vi wr => vi = .int .i64 0 ∧ wr = W0) (fun _ _ => 0)
  case atStart => exact ⟨rfl, rfl⟩
  case round =>
    obtain ⟨rfl, rfl⟩ := hrel
    have hA := HS.out
    have m0 := cell_of_row wr (B + 1) 0 _ _ _ hA.b1
    have m1 := cell_of_row wr (B + 1) 1 _ _ _ hA.b1
    have m2 := cell_of_row wr B 0 _ _ _ hA.b0
    have m3 := cell_of_row wr B 1 _ _ _ hA.b0
    simp only [List.getElem?_toArray, List.getElem?_cons_succ, List.getElem?_cons_zero, Int.natCast_zero] at m0 m1 m2 m3
    have f2 := frozen_of_row wr B 0 _ _ hA.b0
    have f3 := frozen_of_row wr B 1 _ _ hA.b0
    have HX : Hid (((wr.setCell ⟨B, 0, none⟩ (.int .i64 0)).setCell ⟨B, 1, none⟩ (.slice none 0 0)).heap[B]? = some (.cells #[.int .i64 0, .slice none 0 0] 29 (0, 0)) ∧ Below B w ((wr.setCell ⟨B, 0, none⟩ (.int .i64 0)).setCell ⟨B, 1, none⟩ (.slice none 0 0))) := by
      refine ⟨?_, (hA.below.setCell (Nat.le_refl _) _).setCell (Nat.le_refl _) _⟩
      rw [heap_setCell_same _ _ 1 _ _ _ (heap_setCell_same _ _ 0 _ _ _ hA.b0)]
      rfl
    clear hA HS
    go_wp2
    (try simp only [Exit.inBlock, Exit.then])
    refine bodyPost_ret (results_cell_row rfl _ _ B 29 _ (0, 0) _ rfl HX.out.1 Tryz.underlying29 rfl (by kernel_rfl)) rfl ?_
    exact ⟨rfl, HX.out.2⟩
set_option maxRecDepth 100000 in
set_option maxHeartbeats 6400000 in
theorem all_any {w : World} {g n : Nat} {W : Nat → Nat → Option Int} (h : GAt w g n W) (hn : 1 ≤ n ∧ n ≤ 32) (hW : WOk n W) :
    Calls Tryz.prog 21 #[.pointer (some ⟨g, 0, none⟩)] w fun e w' => ∃ v, e = .returned (.agg #[.int .i64 n, v]) ∧ IRow w' w.heap.size v (cellsM n (least n W)) ∧ Below w.heap.size w w' := by
  have HG := hide h
  have HN := hide hn
  have HW := hide hW
  have HPL := hide (places_any (h.later ((Below.refl _ _).alloc (Nat.le_refl _) (.cells #[.int .i64 0, .slice none 0 0] 29))))
  have HS := hide (alin_start w n)
  obtain ⟨i0, hi0, hy0, hy1, hy2⟩ := info_parts info3
  have HI := hide (And.intro hi0 (And.intro hy0 (And.intro hy1 hy2)))
  obtain ⟨B, hB⟩ : ∃ B, w.heap.size = B := ⟨_, rfl⟩
  have HB := hide hB
  rw [hB] at HS ⊢
  obtain ⟨_, hQb⟩ := mul_wrap hn.2 hn.2
  clear h hW hi0 hy0 hy1 hy2 hB
  go_enter Tryz.func21, Tryz.ntmps21
  go_wp2_with (go_at_call 51; refine HPL.out.mono ?_; rintro e w' ⟨rfl, hw⟩; rw [hw]; clear hw)
  try rw [HB.out]
  generalize (w.alloc (.cells #[.int .i64 0, .slice none 0 0] 29)).alloc (.cells #[.int .i64 n, .slice none 0 0] 29) = W0 at HS ⊢
  go_loopw [12] (fun vi wr => ∃ p : Nat, vi = .int .i64 p ∧ p ≤ n ∧ Hid (∃ v, AlIn B w n wr v (rowsTo n (least n W) p))) (fun vi _ => n - (intOf vi).toNat)
  case atStart => exact ⟨0, rfl, Nat.zero_le _, _, HS.out⟩
  case round =>
    clear HS
    obtain ⟨p, rfl, hp, HR⟩ := hrel
    obtain ⟨v, hA⟩ := HR.out
    by_cases hlt : p < n
    · have i1 : (p : Int) < (n : Int) := by omega
      have HA := hide hA
      have HF := hide (from_any (HG.out.later (by rw [HB.out]; exact hA.below)) HN.out HW.out p hlt)
      have HMUL : Hid (p * n + n ≤ 1024) := by
        show _ ≤ _
        have : (p + 1) * n ≤ 32 * 32 := Nat.mul_le_mul (by omega) hn.2
        rw [Nat.succ_mul] at this
        omega
      obtain ⟨va, vc, hv⟩ := hA.own.shape
      rw [rowsTo_len] at hv
      subst hv
      clear hA HR
      go_wp2_with (first
        | (go_at_call 52; refine HF.out.mono ?_; rintro e w1 ⟨gl, ga, D, A, rk, rfl, h1, h2, h3, h4, h5⟩; have hls : lstV n D = lstV n (least n W p) := lst_same (fun q hq => h1.eq (least_is HW.out p hlt) q hq); rw [hls] at h3; have H1 : Hid (AlIn B w n w1 (.slice va (p * n) vc) (rowsTo n (least n W) p) ∧ IRow w1 wr.heap.size (.slice (some ⟨gl, 0, none⟩) n n) (lstV n (least n W p))) := ⟨HA.out.later h5, h3⟩; have c1 : w1.cell? ⟨B + 1, 1, none⟩ = some (.slice va (p * n) vc) := (by rw [cell_of_row _ (B + 1) 1 _ _ _ H1.out.1.b1]; rfl); have f1 := frozen_of_row w1 (B + 1) 1 _ _ H1.out.1.b1; have HNW : Hid (∀ j u, (intsV (lstV n (least n W p)))[j]? = some u → w1.cell? ((⟨gl, 0, none⟩ : Addr).add j) = some u) := World.ownsRow.cells (g := gl) h3 rfl; have HOW : Hid (w1.ownsRow (B + 2) 3 1 (.slice va (p * n) vc) (p * n) (intsV (rowsTo n (least n W) p))) := (by have := H1.out.1.own; unfold IRow at this; rw [rowsTo_len] at this; exact this); clear h1 h2 h3 h4 h5 hls)
        | (at_builtin; refine wpList_append_lies _ rfl (.tmp 22) (.tmp 23) 27 rfl (B + 2) 3 i0 (.int .i64 0) 1 8 Tryz.underlying27 HI.out.1 HI.out.2.1 HI.out.2.2.1 HI.out.2.2.2 rfl (by decide) (.slice va (p * n) vc) (p * n) (intsV (rowsTo n (least n W) p)) rfl HOW.out ⟨gl, 0, none⟩ n n (intsV (lstV n (least n W p))) rfl (by rw [intsV_len, lstV_len]; omega) HNW.out (intsV_one _) (by omega) (by have := HMUL.out; unfold maxLen; omega) (by have := HMUL.out; omega) (by have := H1.out.1.lt; omega) w1.heap.size rfl ?_))
      intro gg cap w3 hown1 hgrow hat hlt3
      have HST : Hid (AlIn B w n (w3.setCell ⟨B + 1, 1, none⟩ (.slice (some ⟨gg, 0, none⟩) (p * n + n) cap)) (.slice (some ⟨gg, 0, none⟩) (p * n + n) cap) (rowsTo n (least n W) (p + 1))) := by
        have := H1.out.1.more (ys := lstV n (least n W p)) (g := gg) (cap := cap) (w3 := w3) (by rw [rowsTo_len, lstV_len]; exact hown1) hgrow
        rw [rowsTo_len, lstV_len] at this
        exact this
      have f3 : w3.frozen? ⟨B + 1, 1, none⟩ = false := by
        have := frozen_of_row _ (B + 1) 1 _ _ HST.out.b1
        rw [World.frozen?_setCell] at this
        exact this
      obtain ⟨u3, c3⟩ : ∃ u, w3.cell? ⟨B + 1, 1, none⟩ = some u := by
        rw [hgrow.cell_far ⟨B + 1, 1, none⟩ (by show B + 1 < _; exact H1.out.1.lt) (fun e => by have h1 := (HOW.out.lt _ e.symm).1; simp only at h1; omega)]
        exact ⟨_, c1⟩
      clear hown1 hgrow hat
      go_wp2
      go_roundw
      case rel => exact ⟨p + 1, by go_num, by omega, _, HST.out⟩
      case measure => simp [intOf]; omega
    · have hpe : p = n := by omega
      subst hpe
      rw [rowsTo_all] at hA
      have m0 := cell_of_row wr (B + 1) 0 _ _ _ hA.b1
      have m1 := cell_of_row wr (B + 1) 1 _ _ _ hA.b1
      have m2 := cell_of_row wr B 0 _ _ _ hA.b0
      have m3 := cell_of_row wr B 1 _ _ _ hA.b0
      simp only [List.getElem?_toArray, List.getElem?_cons_succ, List.getElem?_cons_zero] at m0 m1 m2 m3
      have f2 := frozen_of_row wr B 0 _ _ hA.b0
      have f3 := frozen_of_row wr B 1 _ _ hA.b0
      obtain ⟨va, vc, hva⟩ := hA.own.shape
      have HX : Hid (((wr.setCell ⟨B, 0, none⟩ (.int .i64 p)).setCell ⟨B, 1, none⟩ v).heap[B]? = some (.cells #[.int .i64 p, v] 29 (0, 0)) ∧ IRow ((wr.setCell ⟨B, 0, none⟩ (.int .i64 p)).setCell ⟨B, 1, none⟩ v) B v (cellsM p (least p W)) ∧ Below B w ((wr.setCell ⟨B, 0, none⟩ (.int .i64 p)).setCell ⟨B, 1, none⟩ v)) := by
        refine ⟨?_, ((hA.own.setOther (b := B) (j := 0) (by omega) (.int .i64 p)).setOther (b := B) (j := 1) (by omega) v).mono (by omega), (hA.below.setCell (Nat.le_refl _) _).setCell (Nat.le_refl _) _⟩
        rw [heap_setCell_same _ _ 1 _ _ _ (heap_setCell_same _ _ 0 _ _ _ hA.b0)]
        rfl
      clear hA HR
      subst hva
      go_wp2
      (try simp only [Exit.inBlock, Exit.then])
      refine bodyPost_ret (results_cell_row rfl _ _ B 29 _ (0, 0) _ rfl HX.out.1 Tryz.underlying29 rfl (by kernel_rfl)) rfl ?_
      exact ⟨_, rfl, HX.out.2.1, HX.out.2.2⟩
end Go.Proofs.YtojkdmkeankcgaaGreat
