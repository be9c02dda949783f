/-
  The document's least weights, for edges that lead up by a height: how far the numbers go.
-/
import Derived.Test.YtojkdmkeankcgaaGreatZLeastC
namespace Go.Proofs.YtojkdmkeankcgaaGreat.Pt
structure FwIs (φ : Nat → Int) (n : Nat) (W : Nat → Nat → Option Int) (k : Nat) (M : Nat → Nat → Option Int) : Prop where
  diag : ∀ a, a < n → M a a = some 0
  pos : ∀ a b v, a < n → b < n → M a b = some v → 0 ≤ v ∧ v + φ a ≤ φ b
  way : ∀ a b v, a < n → b < n → M a b = some v → Way n W a b v
  edge : ∀ a b, a < n → b < n → Ole (M a b) (W a b)
  tri : ∀ a b c, a < n → b < n → c < k → Ole (M a b) (oadd (M a c) (M c b))
/-- Edges lead up by a height. -/
def WPot (φ : Nat → Int) (n : Nat) (W : Nat → Nat → Option Int) : Prop := ∀ a b v, a < n → b < n → W a b = some v → 0 ≤ v ∧ v + φ a ≤ φ b
theorem fw_zero {φ : Nat → Int} {n : Nat} {W : Nat → Nat → Option Int} (h : WPot φ n W) : FwIs φ n W 0 (diagTo n W) := by
  refine ⟨fun a ha => if_pos ⟨rfl, ha⟩, fun a b v ha hb e => ?_, fun a b v ha hb e => ?_, fun a b ha hb => ?_, fun a b c _ _ hc => by omega⟩
  · unfold diagTo at e
    split at e
    · rename_i hh; cases e; rw [hh.1]; omega
    · have := h a b v ha hb e; omega
  · unfold diagTo at e
    split at e
    · rename_i hh
      cases e
      rw [hh.1]
      exact .here
    · have := (Way.here (n := n) (W := W) (p := a)).on ha hb e
      rw [Int.zero_add] at this
      exact this
  · unfold diagTo
    split
    · rename_i hh
      intro y hy
      exact ⟨0, rfl, (h a b y ha hb hy).1⟩
    · exact Ole.refl _
theorem fw_step {φ : Nat → Int} {n k : Nat} {W M : Nat → Nat → Option Int} (h : FwIs φ n W k M) (hk : k < n) : FwIs φ n W (k + 1) (rnd k M) := by
  have pos2 : ∀ a b v, a < n → b < n → rnd k M a b = some v → 0 ≤ v ∧ v + φ a ≤ φ b := fun a b v ha hb e => by
    rcases omin_or (M a b) (oadd (M a k) (M k b)) with e2 | e2
    · have := h.pos a b v ha hb (by rw [← e2]; exact e)
      omega
    · obtain ⟨x, y, h1, h2, h3⟩ := oadd_some (show oadd (M a k) (M k b) = some v by rw [← e2]; exact e)
      have := h.pos a k x ha hk h1
      have := h.pos k b y hk hb h2
      omega
  refine ⟨fun a ha => ?_, pos2, fun a b v ha hb e => ?_, fun a b ha hb => (omin_l _ _).trans (h.edge a b ha hb), fun a b c ha hb hc => ?_⟩
  · obtain ⟨x, h1, h2⟩ := omin_l (M a a) (oadd (M a k) (M k a)) 0 (h.diag a ha)
    have := (pos2 a a x ha ha h1).1
    show rnd k M a a = some 0
    rw [show rnd k M a a = some x from h1]
    congr 1
    omega
  · rcases omin_or (M a b) (oadd (M a k) (M k b)) with e2 | e2
    · exact h.way a b v ha hb (by rw [← e2]; exact e)
    · obtain ⟨x, y, h1, h2, h3⟩ := oadd_some (show oadd (M a k) (M k b) = some v by rw [← e2]; exact e)
      rw [← h3]
      exact (h.way a k x ha hk h1).trans (h.way k b y hk hb h2)
  · have hck : c < k ∨ c = k := by omega
    have hcn : c < n := by omega
    rcases hck with hck | rfl
    · have T := fun a b ha hb => h.tri a b c ha hb hck
      show Ole (rnd k M a b) (oadd (rnd k M a c) (rnd k M c b))
      have e1 : rnd k M a c = omin (M a c) (oadd (M a k) (M k c)) := rfl
      have e3 : rnd k M c b = omin (M c b) (oadd (M c k) (M k b)) := rfl
      rcases omin_or (M a c) (oadd (M a k) (M k c)) with e2 | e2 <;> rcases omin_or (M c b) (oadd (M c k) (M k b)) with e4 | e4 <;> rw [e1, e3, e2, e4]
      · exact (omin_l _ _).trans (T a b ha hb)
      · rw [← oadd_assoc]
        exact (omin_r _ _).trans ((T a k ha hk).add (Ole.refl _))
      · rw [oadd_assoc]
        exact (omin_r _ _).trans ((Ole.refl _).add (T k b hk hb))
      · refine (omin_r _ _).trans ?_
        intro y hy
        obtain ⟨u, v, h1, h2, h3⟩ := oadd_some hy
        obtain ⟨u1, u2, h4, h5, h6⟩ := oadd_some h1
        obtain ⟨v1, v2, h7, h8, h9⟩ := oadd_some h2
        have := (h.pos k c u2 hk hcn h5).1
        have := (h.pos c k v1 hcn hk h7).1
        exact ⟨u1 + v2, by rw [h4, h8]; rfl, by omega⟩
    · show Ole (rnd c M a b) (oadd (rnd c M a c) (rnd c M c b))
      intro y hy
      obtain ⟨u, v, h1, h2, h3⟩ := oadd_some hy
      have hu : ∃ u', M a c = some u' ∧ u' ≤ u := by
        rcases omin_or (M a c) (oadd (M a c) (M c c)) with e | e
        · exact ⟨u, by rw [← e]; exact h1, Int.le_refl _⟩
        · obtain ⟨x, z, h4, h5, h6⟩ := oadd_some (show oadd (M a c) (M c c) = some u by rw [← e]; exact h1)
          rw [h.diag c hcn] at h5
          cases h5
          exact ⟨x, h4, by omega⟩
      have hv : ∃ v', M c b = some v' ∧ v' ≤ v := by
        rcases omin_or (M c b) (oadd (M c c) (M c b)) with e | e
        · exact ⟨v, by rw [← e]; exact h2, Int.le_refl _⟩
        · obtain ⟨x, z, h4, h5, h6⟩ := oadd_some (show oadd (M c c) (M c b) = some v by rw [← e]; exact h2)
          rw [h.diag c hcn] at h4
          cases h4
          exact ⟨z, h5, by omega⟩
      obtain ⟨u', hu1, hu2⟩ := hu
      obtain ⟨v', hv1, hv2⟩ := hv
      obtain ⟨x, hx1, hx2⟩ := omin_r (M a b) (oadd (M a c) (M c b)) (u' + v') (by rw [hu1, hv1]; rfl)
      exact ⟨x, hx1, by omega⟩
theorem fw_is {φ : Nat → Int} {n : Nat} {W : Nat → Nat → Option Int} (h : WPot φ n W) : ∀ k, k ≤ n → FwIs φ n W k (fw n W k)
  | 0, _ => fw_zero h
  | k + 1, hk => fw_step (fw_is h k (by omega)) (by omega)
theorem least_is {φ : Nat → Int} {n : Nat} {W : Nat → Nat → Option Int} (h : WPot φ n W) (p : Nat) (hp : p < n) : IsLeast n W p (least n W p) := by
  have F := fw_is h n (Nat.le_refl _)
  refine ⟨F.diag p hp, fun q d hq e => F.way p q d hp hq e, fun u v d x hu hv hd hx => ?_⟩
  have := F.tri p v u hp hv hu
  obtain ⟨y, hy1, hy2⟩ := F.edge u v hu hv x hx
  obtain ⟨z, hz1, hz2⟩ := this (d + y) (by show oadd (fw n W n p u) (fw n W n u v) = _; rw [show fw n W n p u = some d from hd, hy1]; rfl)
  exact ⟨z, hz1, by omega⟩
theorem least_pos {φ : Nat → Int} {n : Nat} {W : Nat → Nat → Option Int} (h : WPot φ n W) {p q : Nat} (hp : p < n) (hq : q < n) {v : Int} (e : least n W p q = some v) : 0 ≤ v ∧ v + φ p ≤ φ q := (fw_is h n (Nat.le_refl _)).pos p q v hp hq e

/-! ### one round, cell by cell -/
section
variable {φ : Nat → Int} {n k i j : Nat} {W M : Nat → Nat → Option Int}
theorem rnd_col (h : FwIs φ n W k M) (hk : k < n) {a : Nat} : rnd k M a k = M a k := by
  show omin (M a k) (oadd (M a k) (M k k)) = M a k
  rw [h.diag k hk]
  cases M a k with
  | none => rfl
  | some v => simp [oadd, omin]
theorem rnd_row (h : FwIs φ n W k M) (hk : k < n) {b : Nat} : rnd k M k b = M k b := by
  show omin (M k b) (oadd (M k k) (M k b)) = M k b
  rw [h.diag k hk]
  cases M k b with
  | none => rfl
  | some v => simp [oadd, omin]
theorem mix_col (h : FwIs φ n W k M) (hk : k < n) {a : Nat} : mix k i j M a k = M a k := by
  unfold mix; split; exact rnd_col h hk; rfl
theorem mix_row (h : FwIs φ n W k M) (hk : k < n) {b : Nat} : mix k i j M k b = M k b := by
  unfold mix; split; exact rnd_row h hk; rfl
theorem mix_here : mix k i j M i j = M i j := by unfold mix; rw [if_neg (by omega)]
theorem mix_next : mix k i (j + 1) M i j = rnd k M i j := by unfold mix; rw [if_pos (.inr ⟨rfl, by omega⟩)]
theorem mix_other {a b : Nat} (h : ¬ (a = i ∧ b = j)) : mix k i (j + 1) M a b = mix k i j M a b := by
  unfold mix
  by_cases h1 : a < i ∨ (a = i ∧ b < j)
  · rw [if_pos h1, if_pos (by omega)]
  · rw [if_neg h1, if_neg (by omega)]
theorem mix_line (a b : Nat) (hb : b < n) : mix k i n M a b = mix k (i + 1) 0 M a b := by
  unfold mix
  by_cases h1 : a < i ∨ (a = i ∧ b < n)
  · rw [if_pos h1, if_pos (by omega)]
  · rw [if_neg h1, if_neg (by omega)]
theorem mix_first (a b : Nat) : mix k 0 0 M a b = M a b := by unfold mix; rw [if_neg (by omega)]
theorem mix_last (a b : Nat) (ha : a < n) : mix k n 0 M a b = rnd k M a b := by unfold mix; rw [if_pos (by omega)]
end
open Go.RowKit Go.Sort

theorem mul_wrap {p n : Nat} (hp : p ≤ 32) (hn : n ≤ 32) : IntKind.i64.wrap ((p : Int) * (n : Int)) = ((p * n : Nat) : Int) ∧ p * n ≤ 1024 := by
  have h : p * n ≤ 32 * 32 := Nat.mul_le_mul hp hn
  refine ⟨?_, by omega⟩
  rw [← Int.natCast_mul, IntKind.wrap_i64]
  generalize p * n = q at h ⊢
  omega
def cv (x : Option Int) : Int := x.getD (-1)
section
variable {φ : Nat → Int} {n k i j : Nat} {W M : Nat → Nat → Option Int}
theorem cv_bnd (h : FwIs φ n W k M) (hn : ∀ a, a < n → 0 ≤ φ a ∧ φ a ≤ 4294967296000000) {a b : Nat} (ha : a < n) (hb : b < n) : -1 ≤ cv (M a b) ∧ cv (M a b) ≤ 4294967296000000 := by
  cases e : M a b with
  | none => simp [cv]
  | some v =>
    have := h.pos a b v ha hb e
    have := hn a ha
    have := hn b hb
    simp only [cv, Option.getD_some]
    omega
theorem mix_a (h : FwIs φ n W k M) (hk : k < n) (hi : i < n) : (cellsM n (mix k i j M))[i * n + k]! = cv (M i k) := by rw [cellsM_at _ hi hk, mix_col h hk]; rfl
theorem mix_b (h : FwIs φ n W k M) (hk : k < n) (hj : j < n) : (cellsM n (mix k i j M))[k * n + j]! = cv (M k j) := by rw [cellsM_at _ hk hj, mix_row h hk]; rfl
theorem mix_c (hi : i < n) (hj : j < n) : (cellsM n (mix k i j M))[i * n + j]! = cv (M i j) := by rw [cellsM_at _ hi hj, mix_here]; rfl
theorem mix_set (h : FwIs φ n W k M) (hi : i < n) (hj : j < n) (ha : 0 ≤ cv (M i k)) (hb : 0 ≤ cv (M k j)) (hc : cv (M i j) < 0 ∨ cv (M i k) + cv (M k j) < cv (M i j)) :
    cellsM n (mix k i (j + 1) M) = (cellsM n (mix k i j M)).set (i * n + j) (cv (M i k) + cv (M k j)) := by
  refine cellsM_set _ _ hj _ ?_ (fun a b _ _ hne => mix_other hne)
  rw [mix_next]
  show omin (M i j) (oadd (M i k) (M k j)) = _
  cases e1 : M i k with
  | none => rw [e1] at ha; simp [cv] at ha
  | some x =>
    cases e2 : M k j with
    | none => rw [e2] at hb; simp [cv] at hb
    | some y =>
      cases e3 : M i j with
      | none => rfl
      | some z =>
        have hz := (h.pos i j z hi hj e3).1
        rw [e1, e2, e3] at hc
        simp only [cv, Option.getD_some] at hc
        show (if x + y < z then some (x + y) else some z) = _
        rw [if_pos (by omega)]
        rfl
theorem mix_keep (h : FwIs φ n W k M) (hi : i < n) (hj : j < n) (hk : k < n) (hc : ¬ (0 ≤ cv (M i k) ∧ 0 ≤ cv (M k j) ∧ (cv (M i j) < 0 ∨ cv (M i k) + cv (M k j) < cv (M i j)))) :
    cellsM n (mix k i (j + 1) M) = cellsM n (mix k i j M) := by
  refine cellsM_same _ _ (fun a b _ _ => ?_)
  by_cases hab : a = i ∧ b = j
  · obtain ⟨rfl, rfl⟩ := hab
    rw [mix_next, mix_here]
    show omin (M a b) (oadd (M a k) (M k b)) = _
    cases e1 : M a k with
    | none => cases M a b <;> rfl
    | some x =>
      cases e2 : M k b with
      | none => cases M a b <;> rfl
      | some y =>
        have hx := (h.pos a k x hi hk e1).1
        have hy := (h.pos k b y hk hj e2).1
        cases e3 : M a b with
        | none => exact absurd ⟨by rw [e1]; exact hx, by rw [e2]; exact hy, by rw [e3]; simp [cv]⟩ hc
        | some z =>
          rw [e1, e2, e3] at hc
          simp only [cv, Option.getD_some] at hc
          show (if x + y < z then some (x + y) else some z) = _
          rw [if_neg (by omega)]
  · exact mix_other hab
theorem mix_rows : cellsM n (mix k i n M) = cellsM n (mix k (i + 1) 0 M) := cellsM_same _ _ (fun a b _ hb => (mix_line a b hb))
theorem mix_zero : cellsM n (mix k 0 0 M) = cellsM n M := cellsM_same _ _ (fun a b _ _ => mix_first a b)
theorem mix_all : cellsM n (mix k n 0 M) = cellsM n (rnd k M) := cellsM_same _ _ (fun a b ha _ => mix_last a b ha)
theorem diag_zero (W : Nat → Nat → Option Int) : cellsM n (diagTo 0 W) = cellsM n W := cellsM_same _ _ (fun a b _ _ => by unfold diagTo; rw [if_neg (by omega)])
theorem diag_step (W : Nat → Nat → Option Int) (hi : i < n) : cellsM n (diagTo (i + 1) W) = (cellsM n (diagTo i W)).set (i * n + i) 0 := by
  refine cellsM_set _ _ hi 0 (by unfold diagTo; rw [if_pos ⟨rfl, by omega⟩]) (fun a b _ _ hne => ?_)
  unfold diagTo
  by_cases hh : a = b ∧ a < i
  · rw [if_pos hh, if_pos (by omega)]
  · rw [if_neg hh, if_neg (by omega)]
end
/-- While Least runs. -/
structure LsIn (B Mb : Nat) (w : World) (n g cap : Nat) (wr : World) (xs : List Int) : Prop where
  below : Below B w wr
  hM : B + 1 < Mb
  b1 : wr.heap[B + 1]? = some (.cells #[.int .i64 0, .slice none 0 0] 29 (0, 0))
  bm : wr.heap[Mb]? = some (.cells #[.int .i64 n, .slice (some ⟨g, 0, none⟩) (n * n) cap] 29 (0, 0))
  own : IRow wr (B + 2) (.slice (some ⟨g, 0, none⟩) (n * n) cap) xs
  len : xs.length = n * n
section
variable {B Mb n g cap : Nat} {w wr : World} {xs : List Int}
theorem LsIn.ne (h : LsIn B Mb w n g cap wr xs) : g ≠ Mb := fun e => by
  obtain ⟨cur, hc⟩ := own_tag h.own rfl
  rw [e, h.bm] at hc
  simp at hc
theorem LsIn.lt1 (h : LsIn B Mb w n g cap wr xs) : B + 1 < wr.heap.size := by
  rcases Nat.lt_or_ge (B + 1) wr.heap.size with h' | h'
  · exact h'
  · have := h.b1; rw [Array.getElem?_eq_none h'] at this; cases this
theorem LsIn.put (h : LsIn B Mb w n g cap wr xs) (k : Nat) (x : Int) : LsIn B Mb w n g cap (wr.setCell ⟨g, k, none⟩ (.int .i64 x)) (xs.set k x) := by
  have hg := (h.own.lt g rfl).1
  refine ⟨h.below.setCell (by show B ≤ g; omega) _, h.hM, ?_, ?_, h.own.set k x, by rw [List.length_set]; exact h.len⟩
  · rw [heap_setCell_other _ _ _ _ (by show B + 1 ≠ g; omega)]; exact h.b1
  · rw [heap_setCell_other _ _ _ _ (Ne.symm h.ne)]; exact h.bm
theorem LsIn.drewN (h : LsIn B Mb w n g cap wr xs) (q : Nat) : LsIn B Mb w n g cap (wr.drewN q) xs := by
  have e : (wr.drewN q).heap = wr.heap := Qu.drewN_heap wr q
  have f : Below wr.heap.size wr (wr.drewN q) := Qu.below_drewN (Below.refl _ _) q
  exact ⟨h.below.trans (f.mono (Nat.le_trans (Nat.le_of_lt (Nat.lt_trans (Nat.lt_succ_self _) h.lt1)) (Nat.le_refl _))), h.hM, by rw [e]; exact h.b1, by rw [e]; exact h.bm, h.own.later (Nat.le_refl _) f, h.len⟩
theorem LsIn.c (h : LsIn B Mb w n g cap wr xs) : wr.cell? ⟨Mb, 1, none⟩ = some (.slice (some ⟨g, 0, none⟩) (n * n) cap) := by rw [cell_of_row _ Mb 1 _ _ _ h.bm]; rfl
theorem LsIn.cs (h : LsIn B Mb w n g cap wr xs) (k : Nat) (hk : k < n * n) : wr.cell? ⟨g, k, none⟩ = some (.int .i64 xs[k]!) := h.own.cell k (by rw [h.len]; exact hk)
end
set_option maxRecDepth 100000 in
set_option maxHeartbeats 6400000 in
theorem least_any {φ : Nat → Int} {w : World} {n base : Nat} {W : Nat → Nat → Option Int} {v : Value} (hn : 1 ≤ n ∧ n ≤ 32) (hW : WPot φ n W) (hφ : ∀ a, a < n → 0 ≤ φ a ∧ φ a ≤ 4294967296000000) (ht : IRow w base v (cellsM n W)) :
    Calls Tryz.prog 20 #[.agg #[.int .i64 n, v]] w fun e w' => ∃ v', e = .returned (.agg #[.int .i64 n, v']) ∧ IRow w' w.heap.size v' (cellsM n (least n W)) ∧ Below w.heap.size w w' := by
  have hnn : 0 < n * n := Nat.mul_pos (by omega) (by omega)
  have hl := cellsM_len n W
  obtain ⟨tg, tc, rfl, _, htg, _, _⟩ := ht.form (by rw [hl]; exact hnn)
  obtain ⟨hmul0, hQb⟩ := mul_wrap hn.2 hn.2
  rw [hl]
  rw [hl] at ht
  have HW := hide hW
  have HPH := hide hφ
  have HN := hide hn
  obtain ⟨i0, hi0, hy0, hy1, hy2⟩ := info_parts info3
  have HI := hide (And.intro hi0 (And.intro hy0 (And.intro hy1 hy2)))
  have hsz2 : ((w.alloc (.cells #[.int .i64 n, .slice (some ⟨tg, 0, none⟩) (n * n) tc] 29)).alloc (.cells #[.int .i64 0, .slice none 0 0] 29)).heap.size = w.heap.size + 2 := by simp
  have HB2 : Hid (Below w.heap.size w ((w.alloc (.cells #[.int .i64 n, .slice (some ⟨tg, 0, none⟩) (n * n) tc] 29)).alloc (.cells #[.int .i64 0, .slice none 0 0] 29))) := below_two (Below.refl _ _) (Nat.le_refl _) _ _
  have HO : Hid ((((w.alloc (.cells #[.int .i64 n, .slice (some ⟨tg, 0, none⟩) (n * n) tc] 29)).alloc (.cells #[.int .i64 0, .slice none 0 0] 29)).alloc (.cells #[] 3)).ownsRow (w.heap.size + 2) 3 1 (.slice (some ⟨w.heap.size + 2, 0, none⟩) 0 0) 0 (intsV [])) := by
    have := World.ownsRow_made ((w.alloc (.cells #[.int .i64 n, .slice (some ⟨tg, 0, none⟩) (n * n) tc] 29)).alloc (.cells #[.int .i64 0, .slice none 0 0] 29)) (#[] : Array Value) (base := w.heap.size + 2) (e := 3) (size := 1) 0 (by rw [hsz2]; exact Nat.le_refl _) (by decide) rfl
    rw [hsz2] at this
    exact this
  have HNW : Hid (∀ j u, (intsV (cellsM n W))[j]? = some u → (((w.alloc (.cells #[.int .i64 n, .slice (some ⟨tg, 0, none⟩) (n * n) tc] 29)).alloc (.cells #[.int .i64 0, .slice none 0 0] 29)).alloc (.cells #[] 3)).cell? ((⟨tg, 0, none⟩ : Addr).add j) = some u) := fun j u hu => by
    rw [add0, World.cell?_alloc_lt _ _ _ (by show tg < _; simp; omega), World.cell?_alloc_lt _ _ _ (by show tg < _; simp; omega), World.cell?_alloc_lt _ _ _ (by show tg < _; exact htg)]
    have := World.ownsRow.cells (g := tg) ht rfl j u hu
    rw [add0] at this
    exact this
  have HNL : Hid ((intsV (cellsM n W)).length = n * n * 1) := by show _ = _; rw [intsV_len, hl]; omega
  have hb0 : ((w.alloc (.cells #[.int .i64 n, .slice (some ⟨tg, 0, none⟩) (n * n) tc] 29)).alloc (.cells #[.int .i64 0, .slice none 0 0] 29)).heap[w.heap.size + 1]? = some (.cells #[.int .i64 0, .slice none 0 0] 29 (0, 0)) := by
    have := heap_alloc_new (w.alloc (.cells #[.int .i64 n, .slice (some ⟨tg, 0, none⟩) (n * n) tc] 29)) (.cells #[.int .i64 0, .slice none 0 0] 29)
    rw [show (w.alloc (.cells #[.int .i64 n, .slice (some ⟨tg, 0, none⟩) (n * n) tc] 29)).heap.size = w.heap.size + 1 by simp] at this
    exact this
  have HB0 := hide hb0
  have HZ2 := hide hsz2
  clear hφ hW ht hi0 hy0 hy1 hy2 hb0 hsz2
  go_enter Tryz.func20, Tryz.ntmps20
  go_wp2_with (at_builtin; refine wpList_append_own _ rfl (.tmp 15) (.tmp 17) 27 rfl (w.heap.size + 2) 3 i0 _ 1 8 Tryz.underlying27 HI.out.1 HI.out.2.1 HI.out.2.2.1 HI.out.2.2.2 rfl (by decide) _ 0 (intsV []) rfl HO.out ⟨tg, 0, none⟩ (n * n) tc (intsV (cellsM n W)) rfl HNL.out HNW.out (intsV_one _) (by unfold maxLen; omega) (by omega) (by simp) ?_)
  intro v1 w2 hown1 hg1 _
  have hown2 : IRow w2 (w.heap.size + 2) v1 (cellsM n W) := by
    unfold IRow
    rw [hl]
    simpa [intsV] using hown1
  have hb2 : Below w.heap.size w w2 := (HB2.out.alloc (by rw [HZ2.out]; omega) _).grown hg1 (by simp <;> omega) fun k hk => by have := (HO.out.lt k hk).1; omega
  have hk1 : w2.heap[w.heap.size + 1]? = some (.cells #[.int .i64 0, .slice none 0 0] 29 (0, 0)) := by
    rw [hg1.block _ (by simp) (fun e => by have := (HO.out.lt _ e.symm).1; omega), Below.heap_alloc _ _ _ (by rw [HZ2.out]; omega)]
    exact HB0.out
  obtain ⟨g, cap, rfl, hgb, hgl, _, _⟩ := hown2.form (by rw [hl]; exact hnn)
  rw [hl] at hown2 ⊢
  have HS : Hid (LsIn w.heap.size w2.heap.size w n g cap (w2.alloc (.cells #[.int .i64 n, .slice (some ⟨g, 0, none⟩) (n * n) cap] 29)) (cellsM n (diagTo 0 W))) := by
    have hlt : w.heap.size + 1 < w2.heap.size := by omega
    refine ⟨hb2.alloc hb2.size _, hlt, by rw [Below.heap_alloc _ _ _ hlt]; exact hk1, heap_alloc_new _ _, ?_, by rw [cellsM_len]⟩
    rw [diag_zero]
    exact hown2.alloc _
  obtain ⟨B, hB⟩ : ∃ B, w.heap.size = B := ⟨_, rfl⟩
  obtain ⟨Mb, hMb⟩ : ∃ Mb, w2.heap.size = Mb := ⟨_, rfl⟩
  rw [hB, hMb] at HS
  rw [hB]
  have HBB := hide hB
  have HMB := hide hMb
  clear HO HNW HNL HB0 HZ2 HB2 hown1 hg1 hown2 hb2 hk1 hgb hgl hB hMb hl
  go_wp2
  try rw [HMB.out]
  try rw [HBB.out]
  generalize w2.alloc (.cells #[.int .i64 n, .slice (some ⟨g, 0, none⟩) (n * n) cap] 29) = W0 at HS ⊢
  go_loopw [5] (fun vi wr => ∃ i : Nat, vi = .int .i64 i ∧ i ≤ n ∧ Hid (LsIn B Mb w n g cap wr (cellsM n (diagTo i W)))) (fun vi _ => n - (intOf vi).toNat)
  case atStart => exact ⟨0, rfl, Nat.zero_le _, HS.out⟩
  case round =>
    clear HS
    obtain ⟨i, rfl, hi, HR⟩ := hrel
    have r1 := HR.out.c
    by_cases hlt : i < n
    · have i1 : (i : Int) < (n : Int) := by omega
      obtain ⟨hmul, hmb⟩ := mul_wrap (show i ≤ 32 by omega) hn.2
      have hcl := cell_lt hlt hlt
      have r2 := HR.out.cs (i * n + i) hcl
      have f2 := HR.out.own.frozen (i * n + i)
      have HST : Hid (LsIn B Mb w n g cap (wr.setCell ⟨g, i * n + i, none⟩ (.int .i64 0)) (cellsM n (diagTo (i + 1) W))) := by
        show LsIn _ _ _ _ _ _ _ _
        rw [diag_step W hlt]
        exact HR.out.put (i * n + i) 0
      generalize (cellsM n (diagTo i W))[i * n + i]! = x at r2
      clear HR
      go_wp2
      go_roundw
      case rel => exact ⟨i + 1, by go_num, by omega, HST.out⟩
      case measure => simp [intOf]; omega
    · have hin : i = n := by omega
      subst hin
      have HRR : Hid (LsIn B Mb w i g cap wr (cellsM i (fw i W 0))) := HR.out
      clear HR hi hlt r1
      go_wp2
      go_loopw [6] (fun vk wr => ∃ k : Nat, vk = .int .i64 k ∧ k ≤ i ∧ Hid (LsIn B Mb w i g cap wr (cellsM i (fw i W k)))) (fun vk _ => i - (intOf vk).toNat)
      case atStart => exact ⟨0, rfl, Nat.zero_le _, HRR.out⟩
      case round =>
        clear HRR
        obtain ⟨k, rfl, hk, HR⟩ := hrel
        by_cases hkn : k < i
        · have HF := hide (fw_is HW.out k (Nat.le_of_lt hkn))
          have k1 : (k : Int) < (i : Int) := by omega
          obtain ⟨hmulk, hmbk⟩ := mul_wrap (show k ≤ 32 by omega) hn.2
          have HRR : Hid (LsIn B Mb w i g cap wr (cellsM i (mix k 0 0 (fw i W k)))) := by show LsIn _ _ _ _ _ _ _ _; rw [mix_zero]; exact HR.out
          have HNX : Hid (cellsM i (mix k i 0 (fw i W k)) = cellsM i (fw i W (k + 1))) := mix_all
          clear HR
          generalize fw i W k = M at HF HRR HNX ⊢
          go_wp2
          go_loopw [7] (fun vi wr => ∃ p : Nat, vi = .int .i64 p ∧ p ≤ i ∧ Hid (LsIn B Mb w i g cap wr (cellsM i (mix k p 0 M)))) (fun vi _ => i - (intOf vi).toNat)
          case atStart => exact ⟨0, rfl, Nat.zero_le _, HRR.out⟩
          case round =>
            clear HRR
            obtain ⟨p, rfl, hp, HR⟩ := hrel
            by_cases hpn : p < i
            · have p1 : (p : Int) < (i : Int) := by omega
              obtain ⟨hmulp, hmbp⟩ := mul_wrap (show p ≤ 32 by omega) hn.2
              go_wp2
              go_loopw [8] (fun vi wr => ∃ j : Nat, vi = .int .i64 j ∧ j ≤ i ∧ Hid (LsIn B Mb w i g cap wr (cellsM i (mix k p j M)))) (fun vi _ => i - (intOf vi).toNat)
              case atStart => exact ⟨0, rfl, Nat.zero_le _, HR.out⟩
              case round =>
                clear HR
                obtain ⟨j, rfl, hj, HR⟩ := hrel
                by_cases hjn : j < i
                · have j1 : (j : Int) < (i : Int) := by omega
                  have r1 := HR.out.c
                  have ra := HR.out.cs (p * i + k) (cell_lt hpn hkn)
                  have rb := HR.out.cs (k * i + j) (cell_lt hkn hjn)
                  have rc := HR.out.cs (p * i + j) (cell_lt hpn hjn)
                  have fc := HR.out.own.frozen (p * i + j)
                  rw [mix_a HF.out hkn hpn] at ra
                  rw [mix_b HF.out hkn hjn] at rb
                  rw [mix_c hpn hjn] at rc
                  have la := cell_lt hpn hkn
                  have lb := cell_lt hkn hjn
                  have lc := cell_lt hpn hjn
                  have ba := cv_bnd HF.out HPH.out hpn hkn
                  have bb := cv_bnd HF.out HPH.out hkn hjn
                  have bc := cv_bnd HF.out HPH.out hpn hjn
                  have HST := hide (fun h1 h2 h3 => mix_set HF.out hpn hjn h1 h2 h3)
                  have HKP := hide (fun h1 => mix_keep HF.out hpn hjn hkn h1)
                  have HPUT : Hid (∀ nq x, LsIn B Mb w i g cap ((wr.drewN nq).setCell ⟨g, p * i + j, none⟩ (.int .i64 x)) ((cellsM i (mix k p j M)).set (p * i + j) x)) := fun nq x => (HR.out.drewN nq).put (p * i + j) x
                  have ea : ((p * i : Nat) : Int) + (k : Int) = ((p * i + k : Nat) : Int) := by omega
                  generalize cv (M p k) = xa at ra ba HST HKP
                  generalize cv (M k j) = xb at rb bb HST HKP
                  generalize cv (M p j) = xc at rc bc HST HKP
                  go_wp2
                  go_quiet (fail)
                  by_cases h1 : xa < 0
                  · have HE : Hid (LsIn B Mb w i g cap (wr.drewN nq) (cellsM i (mix k p (j + 1) M))) := by show LsIn _ _ _ _ _ _ _ _; rw [HKP.out (by omega)]; exact HR.out.drewN nq
                    clear HR HST HKP HPUT
                    go_wp2
                    go_roundw
                    case rel => exact ⟨j + 1, by go_num, by omega, HE.out⟩
                    case measure => simp [intOf]; omega
                  · by_cases h2 : xb < 0
                    · have HE : Hid (LsIn B Mb w i g cap (wr.drewN nq) (cellsM i (mix k p (j + 1) M))) := by show LsIn _ _ _ _ _ _ _ _; rw [HKP.out (by omega)]; exact HR.out.drewN nq
                      clear HR HST HKP HPUT
                      go_wp2
                      go_roundw
                      case rel => exact ⟨j + 1, by go_num, by omega, HE.out⟩
                      case measure => simp [intOf]; omega
                    · by_cases h3 : xc < 0
                      · have HE : Hid (LsIn B Mb w i g cap ((wr.drewN nq).setCell ⟨g, p * i + j, none⟩ (.int .i64 (xa + xb))) (cellsM i (mix k p (j + 1) M))) := by show LsIn _ _ _ _ _ _ _ _; rw [HST.out (by omega) (by omega) (.inl h3)]; exact HPUT.out nq _
                        clear HR HST HKP HPUT
                        go_wp2
                        go_roundw
                        case rel => exact ⟨j + 1, by go_num, by omega, HE.out⟩
                        case measure => simp [intOf]; omega
                      · by_cases h4 : xa + xb < xc
                        · have HE : Hid (LsIn B Mb w i g cap ((wr.drewN nq).setCell ⟨g, p * i + j, none⟩ (.int .i64 (xa + xb))) (cellsM i (mix k p (j + 1) M))) := by show LsIn _ _ _ _ _ _ _ _; rw [HST.out (by omega) (by omega) (.inr h4)]; exact HPUT.out nq _
                          clear HR HST HKP HPUT
                          go_wp2
                          go_roundw
                          case rel => exact ⟨j + 1, by go_num, by omega, HE.out⟩
                          case measure => simp [intOf]; omega
                        · have HE : Hid (LsIn B Mb w i g cap (wr.drewN nq) (cellsM i (mix k p (j + 1) M))) := by show LsIn _ _ _ _ _ _ _ _; rw [HKP.out (by omega)]; exact HR.out.drewN nq
                          clear HR HST HKP HPUT
                          go_wp2
                          go_roundw
                          case rel => exact ⟨j + 1, by go_num, by omega, HE.out⟩
                          case measure => simp [intOf]; omega
                · have hji : j = i := by omega
                  subst hji
                  have HE : Hid (LsIn B Mb w j g cap wr (cellsM j (mix k (p + 1) 0 M))) := by have := HR.out; rw [mix_rows] at this; exact this
                  clear HR
                  go_wp2
                  go_roundw
                  case rel => exact ⟨p + 1, by go_num, by omega, HE.out⟩
                  case measure => simp [intOf]; omega
            · have hpi : p = i := by omega
              subst hpi
              have HE : Hid (LsIn B Mb w p g cap wr (cellsM p (fw p W (k + 1)))) := by have := HR.out; rw [HNX.out] at this; exact this
              clear HR
              go_wp2
              go_roundw
              case rel => exact ⟨k + 1, by go_num, by omega, HE.out⟩
              case measure => simp [intOf]; omega
        · have hki : k = i := by omega
          subst hki
          have m0 := cell_of_row wr Mb 0 _ _ _ HR.out.bm
          have m1 := cell_of_row wr Mb 1 _ _ _ HR.out.bm
          have m2 := cell_of_row wr (B + 1) 0 _ _ _ HR.out.b1
          have m3 := cell_of_row wr (B + 1) 1 _ _ _ HR.out.b1
          simp only [List.getElem?_toArray, List.getElem?_cons_succ, List.getElem?_cons_zero] at m0 m1 m2 m3
          have f2 := frozen_of_row wr (B + 1) 0 _ _ HR.out.b1
          have f3 := frozen_of_row wr (B + 1) 1 _ _ HR.out.b1
          have HX : Hid (((wr.setCell ⟨B + 1, 0, none⟩ (.int .i64 k)).setCell ⟨B + 1, 1, none⟩ (.slice (some ⟨g, 0, none⟩) (k * k) cap)).heap[B + 1]? = some (.cells #[.int .i64 k, .slice (some ⟨g, 0, none⟩) (k * k) cap] 29 (0, 0)) ∧ IRow ((wr.setCell ⟨B + 1, 0, none⟩ (.int .i64 k)).setCell ⟨B + 1, 1, none⟩ (.slice (some ⟨g, 0, none⟩) (k * k) cap)) B (.slice (some ⟨g, 0, none⟩) (k * k) cap) (cellsM k (least k W)) ∧ Below B w ((wr.setCell ⟨B + 1, 0, none⟩ (.int .i64 k)).setCell ⟨B + 1, 1, none⟩ (.slice (some ⟨g, 0, none⟩) (k * k) cap))) := by
            refine ⟨?_, ((HR.out.own.setOther (by omega) _).setOther (by omega) _).mono (by omega), (HR.out.below.setCell (by show B ≤ B + 1; omega) _).setCell (by show B ≤ B + 1; omega) _⟩
            rw [heap_setCell_same _ _ 1 _ _ _ (heap_setCell_same _ _ 0 _ _ _ HR.out.b1)]
            rfl
          clear HR
          go_wp2
          (try simp only [Exit.inBlock, Exit.then])
          refine bodyPost_ret (results_cell_row rfl _ _ (B + 1) 29 _ (0, 0) _ rfl HX.out.1 Tryz.underlying29 rfl (by kernel_rfl)) rfl ?_
          rw [HBB.out]
          exact ⟨_, rfl, HX.out.2.1, HX.out.2.2⟩
end Go.Proofs.YtojkdmkeankcgaaGreat.Pt
