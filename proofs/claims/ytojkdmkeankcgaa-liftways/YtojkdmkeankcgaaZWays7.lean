/-
  What the law LiftWays does.
-/
import Derived.Test.YtojkdmkeankcgaaZMc
import Derived.Deep.RegionHeld3
namespace Go.Proofs.Ytojkdmkeankcgaa
open Go.RowKit Go.Sort

/-- The best sum among the first places. -/
def bestB (f g : Nat → Int) : Nat → Int
  | 0 => -1
  | k + 1 => if 0 ≤ f k ∧ 0 ≤ g k ∧ (bestB f g k < 0 ∨ f k + g k < bestB f g k) then f k + g k else bestB f g k
theorem bestB_bnd {f g : Nat → Int} {n : Nat} (hf : ∀ c, c < n → -1 ≤ f c ∧ f c ≤ 4294967296000000) (hg : ∀ c, c < n → -1 ≤ g c ∧ g c ≤ 4294967296000000) : ∀ k, k ≤ n → -1 ≤ bestB f g k ∧ bestB f g k ≤ 8589934592000000
  | 0, _ => by simp [bestB]
  | k + 1, hk => by
    have h1 := bestB_bnd hf hg k (by omega)
    have h2 := hf k (by omega)
    have h3 := hg k (by omega)
    rw [bestB]
    split <;> omega
theorem bestB_is {f g : Nat → Int} {n : Nat} (hf : ∀ c, c < n → -1 ≤ f c) (hg : ∀ c, c < n → -1 ≤ g c) : ∀ k, k ≤ n → (bestB f g k = -1 ∧ ∀ c, c < k → ¬ (0 ≤ f c ∧ 0 ≤ g c)) ∨ (∃ c, c < k ∧ 0 ≤ f c ∧ 0 ≤ g c ∧ bestB f g k = f c + g c ∧ ∀ e, e < k → 0 ≤ f e → 0 ≤ g e → f c + g c ≤ f e + g e)
  | 0, _ => .inl ⟨rfl, fun c hc => by omega⟩
  | k + 1, hk => by
    rw [bestB]
    rcases bestB_is hf hg k (by omega) with ⟨h1, h2⟩ | ⟨c, h1, h2, h3, h4, h5⟩
    · rw [h1]
      by_cases hh : 0 ≤ f k ∧ 0 ≤ g k
      · rw [if_pos ⟨hh.1, hh.2, .inl (by omega)⟩]
        refine .inr ⟨k, by omega, hh.1, hh.2, rfl, fun e he h6 h7 => ?_⟩
        by_cases e = k
        · subst e; omega
        · exact absurd ⟨h6, h7⟩ (h2 e (by omega))
      · rw [if_neg (fun h => hh ⟨h.1, h.2.1⟩)]
        refine .inl ⟨rfl, fun e he => ?_⟩
        by_cases e = k
        · subst e; exact hh
        · exact h2 e (by omega)
    · rw [h4]
      split
      · rename_i hh
        refine .inr ⟨k, by omega, hh.1, hh.2.1, rfl, fun e he h6 h7 => ?_⟩
        by_cases e = k
        · subst e; omega
        · have := h5 e (by omega) h6 h7
          rcases hh.2.2 with h | h <;> omega
      · rename_i hh
        refine .inr ⟨c, by omega, h2, h3, rfl, fun e he h6 h7 => ?_⟩
        by_cases e = k
        · subst e
          have : ¬ f k + g k < f c + g c := fun h => hh ⟨h6, h7, .inr h⟩
          omega
        · exact h5 e (by omega) h6 h7
theorem cv_nonneg {x : Option Int} (h : 0 ≤ cv x) : x = some (cv x) := by
  cases x with
  | none => simp [cv] at h
  | some v => rfl
section
variable {n : Nat} {W : Nat → Nat → Option Int} {K : Mx} {rk : Nat → Nat} {Q : Nat → Option Int} {rv : Nat → Int}
theorem ways_best (h : Bd n W n K rk Q rv) (hn : n ≤ 32) (hW : WOk n W) {i j : Nat} (hi : i < n) (hj : j < n) : bestB (fun c => cv (least n (upW K rk) i c)) (fun c => cv (least n (dnW K rk) c j)) n = cv (least n W i j) := by
  have hU := Pt.least_is (pot_up h hn).1 i hi
  have hD := fun c (hc : c < n) => Pt.least_is (pot_dn h hn).1 c hc
  have pU := fun c (hc : c < n) v e => (Pt.least_pos (pot_up h hn).1 hi hc (v := v) e).1
  have pD := fun c (hc : c < n) v e => (Pt.least_pos (pot_dn h hn).1 hc hj (v := v) e).1
  have hL := least_is hW i hi
  have into : ∀ c, c < n → ∀ a b, least n (upW K rk) i c = some a → least n (dnW K rk) c j = some b → ∃ d, least n W i j = some d ∧ d ≤ a + b := fun c hc a b ha hb =>
    hL.le (res_way.1 ((lft_up_way h.lft (hU.way c a hc ha)).trans (lft_dn_way h.lft ((hD c hc).way j b hj hb))))
  have low : ∀ (x : Option Int), (∀ v, x = some v → 0 ≤ v) → -1 ≤ cv x := fun x hx => by
    cases x with
    | none => simp [cv]
    | some v => have := hx v rfl; simp [cv]; omega
  rcases bestB_is (f := fun c => cv (least n (upW K rk) i c)) (g := fun c => cv (least n (dnW K rk) c j)) (n := n) (fun c hc => low _ (pU c hc)) (fun c hc => low _ (pD c hc)) n (Nat.le_refl _) with ⟨h1, h2⟩ | ⟨c, h1, h2, h3, h4, h5⟩
  · rw [h1]
    cases e : least n W i j with
    | none => rfl
    | some d =>
      obtain ⟨c, d1, d2, hc, w1, w2, _⟩ := lft_ways h.lft (bd_all h) hi hj (res_way.2 (hL.way j d hj e))
      obtain ⟨a, ea, _⟩ := hU.le w1
      obtain ⟨b, eb, _⟩ := (hD c hc).le w2
      refine absurd ?_ (h2 c hc)
      simp only [ea, eb, cv, Option.getD_some]
      exact ⟨pU c hc a ea, pD c hc b eb⟩
  · rw [h4]
    have ea := cv_nonneg h2
    have eb := cv_nonneg h3
    obtain ⟨d, ed, hd⟩ := into c h1 _ _ ea eb
    obtain ⟨c', d1, d2, hc, w1, w2, hs⟩ := lft_ways h.lft (bd_all h) hi hj (res_way.2 (hL.way j d hj ed))
    obtain ⟨a', ea', l1⟩ := hU.le w1
    obtain ⟨b', eb', l2⟩ := (hD c' hc).le w2
    have := h5 c' hc (by simp only [ea', cv, Option.getD_some]; exact pU c' hc a' ea') (by simp only [eb', cv, Option.getD_some]; exact pD c' hc b' eb')
    simp only [ea', eb', cv, Option.getD_some] at this
    rw [ed]
    simp only [cv, Option.getD_some] at hd this ⊢
    omega
end
theorem below_on {w w' w'' : World} (h : Below w.heap.size w w') (k : Below w'.heap.size w' w'') : Below w.heap.size w w'' := h.trans (k.mono h.size)
theorem below_le {w w' : World} (h : Below w.heap.size w w') : w.heap.size ≤ w'.heap.size := h.size
theorem below_drew {w w' : World} (h : Below w.heap.size w w') : Below w.heap.size w w'.drew := h.drew
theorem below_alloc7 {w w' : World} {o : Obj} (h : Below w.heap.size w w') : Below w.heap.size w (w'.alloc o) := h.alloc h.size o
abbrev box0 : Obj := .cells #[.int .i64 0, .slice none 0 0] 39 (0, 0)
theorem bx_on {w w' : World} {p : Nat} (h : Below w.heap.size w w') (hp : w.heap[p]? = some box0) : w'.heap[p]? = some box0 := (h.block p (Array.getElem?_eq_some_iff.1 hp).1).trans hp
theorem bx_facts {w : World} {p : Nat} (h : w.heap[p]? = some box0) : w.cell? ⟨p, 0, none⟩ = some (.int .i64 0) ∧ w.cell? ⟨p, 1, none⟩ = some (.slice none 0 0) ∧ w.frozen? ⟨p, 0, none⟩ = false ∧ w.frozen? ⟨p, 1, none⟩ = false ∧ p < w.heap.size ∧ (¬ p = w.heap.size ∧ ¬ w.heap.size = p ∧ ¬ p = w.heap.size + 1 ∧ ¬ w.heap.size + 1 = p) := by
  have hl := (Array.getElem?_eq_some_iff.1 h).1
  refine ⟨?_, ?_, frozen_of_row w p 0 _ _ h, frozen_of_row w p 1 _ _ h, hl, by omega, by omega, by omega, by omega⟩
  · rw [cell_of_row w p 0 _ _ _ h]; rfl
  · rw [cell_of_row w p 1 _ _ _ h]; rfl
theorem irow_drew {w : World} {b : Nat} {v : Value} {L : List Int} (h : IRow w b v L) : IRow w.drew b v L := h.later (Nat.le_refl _) (Below.refl _ _).drew
theorem irow_alloc {w : World} {b : Nat} {v : Value} {L : List Int} {o : Obj} (h : IRow w b v L) : IRow (w.alloc o) b v L := h.later (Nat.le_refl _) ((Below.refl _ _).alloc (Nat.le_refl _) o)
theorem blk_old {w : World} {o b : Obj} {k : Nat} (h : w.heap[k]? = some b) : (w.alloc o).heap[k]? = some b := (Below.heap_alloc w o k (Array.getElem?_eq_some_iff.1 h).1).trans h
theorem blk_new1 (w : World) (o1 o2 : Obj) : ((w.alloc o1).alloc o2).heap[w.heap.size + 1]? = some o2 := by
  have := heap_alloc_new (w.alloc o1) o2
  have e : (w.alloc o1).heap.size = w.heap.size + 1 := by simp
  rw [e] at this
  exact this
theorem below_set7 {w w' : World} {p j : Nat} {v : Value} (h : Below w.heap.size w w') (hp : w.heap.size ≤ p) : Below w.heap.size w (w'.setCell ⟨p, j, none⟩ v) := h.setCell hp v
theorem blk_set2 {w : World} {p p' : Nat} {o : Obj} {x y : Value} (h : w.heap[p']? = some o) (hne : ¬ p' = p) : ((w.setCell ⟨p, 0, none⟩ x).setCell ⟨p, 1, none⟩ y).heap[p']? = some o := by
  rw [heap_setCell_other _ _ _ _ hne, heap_setCell_other _ _ _ _ hne]
  exact h
theorem irow_set2 {w : World} {b p : Nat} {v x y : Value} {L : List Int} (h : IRow w b v L) (hp : w.heap[p]? = some box0) : IRow ((w.setCell ⟨p, 0, none⟩ x).setCell ⟨p, 1, none⟩ y) b v L := by
  refine own_of_block h fun k hk => ?_
  have hne : ¬ k = p := fun e => by
    obtain ⟨cur, hc⟩ := own_tag h hk
    rw [e, hp] at hc
    simp [box0] at hc
  rw [heap_setCell_other _ _ _ _ hne, heap_setCell_other _ _ _ _ hne]
theorem up_bnd {n : Nat} {W : Nat → Nat → Option Int} {K : Mx} {rk : Nat → Nat} {Q : Nat → Option Int} {rv : Nat → Int} (h : Bd n W n K rk Q rv) (hn : n ≤ 32) {i c : Nat} (hi : i < n) (hc : c < n) : -1 ≤ cv (least n (upW K rk) i c) ∧ cv (least n (upW K rk) i c) ≤ 4294967296000000 := by
  cases e : least n (upW K rk) i c with
  | none => simp [cv]
  | some v =>
    have h1 := Pt.least_pos (pot_up h hn).1 hi hc e
    have h2 := (pot_up h hn).2 i hi
    have h3 := (pot_up h hn).2 c hc
    simp only [cv, Option.getD_some] at h1 ⊢
    omega
theorem dn_bnd {n : Nat} {W : Nat → Nat → Option Int} {K : Mx} {rk : Nat → Nat} {Q : Nat → Option Int} {rv : Nat → Int} (h : Bd n W n K rk Q rv) (hn : n ≤ 32) {i c : Nat} (hi : i < n) (hc : c < n) : -1 ≤ cv (least n (dnW K rk) i c) ∧ cv (least n (dnW K rk) i c) ≤ 4294967296000000 := by
  cases e : least n (dnW K rk) i c with
  | none => simp [cv]
  | some v =>
    have h1 := Pt.least_pos (pot_dn h hn).1 hi hc e
    have h2 := (pot_dn h hn).2 i hi
    have h3 := (pot_dn h hn).2 c hc
    simp only [cv, Option.getD_some] at h1 ⊢
    omega
theorem lt_of_blk {w : World} {p : Nat} {o : Obj} (h : w.heap[p]? = some o) : p < w.heap.size := (Array.getElem?_eq_some_iff.1 h).1
theorem cell_set2 {w : World} {p : Nat} {x y : Value} (hp : w.heap[p]? = some box0) : ((w.setCell ⟨p, 0, none⟩ x).setCell ⟨p, 1, none⟩ y).cell? ⟨p, 1, none⟩ = some y := by
  rw [cell_of_row _ p 1 _ _ _ (heap_setCell_same _ _ 1 _ _ _ (heap_setCell_same _ _ 0 _ _ _ hp))]
  rfl
theorem cell_over2 {w : World} {p p' : Nat} {x y u : Value} (h : w.cell? ⟨p, 1, none⟩ = some u) (hne : ¬ p = p') : ((w.setCell ⟨p', 0, none⟩ x).setCell ⟨p', 1, none⟩ y).cell? ⟨p, 1, none⟩ = some u := by
  rw [World.cell?_setCell_far _ _ _ _ (fun e => hne e.symm), World.cell?_setCell_far _ _ _ _ (fun e => hne e.symm)]
  exact h
theorem cell_al {w : World} {o : Obj} {p : Nat} {u : Value} (h : w.cell? ⟨p, 1, none⟩ = some u) : (w.alloc o).cell? ⟨p, 1, none⟩ = some u := (World.cell?_alloc_lt _ _ _ (block_lt_of_cell h)).trans h
theorem cell_new {w : World} {p : Nat} {x y : Value} (hp : w.heap.size = p) : (w.alloc (.cells #[x, y] 39)).cell? ⟨p, 1, none⟩ = some y := by
  subst hp
  rw [cell_of_row _ _ 1 _ _ _ (heap_alloc_new w (.cells #[x, y] 39))]
  rfl
/-- Behind the two climbs: the boxes and the rows that the loops read. -/
structure Wy (B : Nat) (w : World) (n b lg lc Q p10 p11 ug uc dg dc : Nat) (U V L : List Int) (wr : World) : Prop where
  below : Below B w wr
  c0 : wr.cell? ⟨b, 0, none⟩ = some (.int .i64 n)
  c1 : wr.cell? ⟨b, 1, none⟩ = some (.slice (some ⟨lg, 0, none⟩) Q lc)
  u1 : wr.cell? ⟨p10, 1, none⟩ = some (.slice (some ⟨ug, 0, none⟩) Q uc)
  d1 : wr.cell? ⟨p11, 1, none⟩ = some (.slice (some ⟨dg, 0, none⟩) Q dc)
  lr : ∀ i, i < Q → wr.cell? ⟨lg, i, none⟩ = some (.int .i64 L[i]!)
  ur : ∀ i, i < Q → wr.cell? ⟨ug, i, none⟩ = some (.int .i64 U[i]!)
  dr : ∀ i, i < Q → wr.cell? ⟨dg, i, none⟩ = some (.int .i64 V[i]!)
theorem Wy.drewN {B n b lg lc Q p10 p11 ug uc dg dc : Nat} {w wr : World} {U V L : List Int} (h : Wy B w n b lg lc Q p10 p11 ug uc dg dc U V L wr) (q : Nat) : Wy B w n b lg lc Q p10 p11 ug uc dg dc U V L (wr.drewN q) :=
  ⟨Qu.below_drewN h.below q, h.c0, h.c1, h.u1, h.d1, h.lr, h.ur, h.dr⟩
theorem wy_mk {B n m c g b tg tc lg lc Q p10 p11 ug uc dg dc b1 b2 : Nat} {w w3 W7 : World} {a : Option Addr} {A : List Arc} {W : Nat → Nat → Option Int} {bb : LfB} {rv : Nat → Int} {X Y : Mx} {U V : List Int} (h4 : L7 B w n a m c A g W b tg tc lg lc Q bb rv X Y w3) (hb : Below w3.heap.size w3 W7)
    (hU : IRow W7 b1 (.slice (some ⟨ug, 0, none⟩) Q uc) U) (hV : IRow W7 b2 (.slice (some ⟨dg, 0, none⟩) Q dc) V) (lU : U.length = Q) (lV : V.length = Q) (u1 : W7.cell? ⟨p10, 1, none⟩ = some (.slice (some ⟨ug, 0, none⟩) Q uc)) (d1 : W7.cell? ⟨p11, 1, none⟩ = some (.slice (some ⟨dg, 0, none⟩) Q dc)) :
    Wy B w n (b + 1) lg lc Q p10 p11 ug uc dg dc U V (cellsM n (least n W)) W7 :=
  have h7 := h4.later hb
  ⟨h7.below, h7.g3.ml.c0, h7.g3.ml.c1, u1, d1, h7.g3.ml.cells, fun i hi => hU.cell i (by omega), fun i hi => hV.cell i (by omega)⟩
theorem no_four {a b : Nat} (h : a < b) : ¬ a = b ∧ ¬ b = a ∧ ¬ a = b + 1 ∧ ¬ b + 1 = a := by omega
set_option maxRecDepth 100000 in
set_option maxHeartbeats 1600000 in
theorem ways7_bad (n : Int) (a : Option Addr) (m c : Nat) (A : List Arc) (d : Bool) (w : World) (h : ArcsAt w a m A) (hc : a = none → c = 0) (hb : 300 < m ∨ (m ≤ 300 ∧ (checkM n A).2 ≠ 0)) :
    Calls Try.prog 6 #[.agg #[.int .i64 n, .slice a m c], .bool d] w fun e w' => e = .returned (.bool true) ∧ Below w.heap.size w w' := by
  have HS := hide (rin_start w n a m c A h)
  have HGR : Hid (∀ w', ArcsAt w' a m A → Calls Try.prog 16 #[.agg #[.int .i64 n, .slice a m c], .bool d] w' fun e w'' => e = .returned (.tuple #[.pointer none, .agg #[.int .i64 0, .slice none 0 0], .agg #[.int .i64 0, .slice none 0 0], .bool false]) ∧ Below w'.heap.size w' w'') := fun w' h' => by
    rcases hb with hm | ⟨hm, he⟩
    · exact graph_many n a m c A d w' h' hm
    · exact graph_bad n a m c A d w' h' hc hm he
  clear h hc hb
  go_enter Try.func6, Try.ntmps6
  go_wp2_with (first
    | (go_at_call 18; refine (awakeL_any _).mono ?_; rintro e w1 ⟨rfl, h1⟩; have H1 := hide (HS.out.later h1); have c0 := H1.out.c0; have c1 := H1.out.c1; clear h1)
    | (go_at_call 16; refine (HGR.out _ H1.out.arcs).mono ?_; rintro e w2 ⟨rfl, h2⟩; have H2 := hide (H1.out.later h2); clear h2))
  go_ret
  exact ⟨rfl, (H2.out.below.alloc H2.out.below.size _).alloc (by have := H2.out.below.size; simp; omega) _⟩
set_option maxRecDepth 100000 in
set_option maxHeartbeats 12800000 in
theorem ways7_good (n : Nat) (a : Option Addr) (m c : Nat) (A : List Arc) (d : Bool) (w : World) (h : ArcsAt w a m A) (hc : a = none → c = 0) (hm : m ≤ 300) (he : (checkM n A).2 = 0) :
    Calls Try.prog 6 #[.agg #[.int .i64 n, .slice a m c], .bool d] w fun e w' => e = .returned (.bool true) ∧ Below w.heap.size w w' := by
  obtain ⟨hn0, hl, hok⟩ := checkM_ok he
  have hn : 1 ≤ n ∧ n ≤ 32 := by omega
  have HN := hide hn
  have HM := hide (mt_pos he d)
  have HWO : Hid (WOk n (tab (legsM (mtM d) A))) := fun p q x _ _ hx => tab_pos HM.out p q x hx
  have HLP : Hid (∀ a, a < n → tab (legsM (mtM d) A) a a = none) := fun a _ => tab_loop _ _ a
  have HS := hide (rin_start w n a m c A h)
  have HGR := hide (fun (w' : World) (h' : ArcsAt w' a m A) => graph_good n a m c A d w' h' hc hm he)
  obtain ⟨Q, hQ⟩ : ∃ Q, n * n = Q := ⟨_, rfl⟩
  have HQ := hide hQ
  have hQb : Q ≤ 1024 := by rw [← hQ]; exact (mul_wrap hn.2 hn.2).2
  have HQ0 : Hid (0 < n * n) := Nat.mul_pos (by omega) (by omega)
  clear h hc he hn0 hok hQ
  generalize tab (legsM (mtM d) A) = W at HWO HGR HLP
  have HL1 : Hid ((cellsM n W).length = Q) := (cellsM_len n W).trans HQ.out
  have HL2 : Hid ((cellsM n (least n W)).length = Q) := (cellsM_len n (least n W)).trans HQ.out
  go_enter Try.func6, Try.ntmps6
  go_upto_region 7 with (first
    | (go_at_call 18; refine (awakeL_any _).mono ?_; rintro e w1 ⟨rfl, h1⟩; have H1 := hide (HS.out.later h1); have c0 := H1.out.c0; have c1 := H1.out.c1; clear h1)
    | (go_at_call 16; refine (HGR.out _ H1.out.arcs).mono ?_; rintro e w2 ⟨g, vt, vl, rfl, h2, h3, h4, h5⟩; obtain ⟨tg, tc, rfl, _⟩ := h3.form (by rw [cellsM_len]; exact HQ0.out); obtain ⟨lg, lc, rfl, _⟩ := h4.form (by rw [cellsM_len]; exact HQ0.out); rw [HL1.out] at h3 ⊢; rw [HL2.out] at h4 ⊢; have H3 := hide (g3_mk (H1.out.later h5) h2 h3 h4 HQ.out); clear h2 h3 h4 h5)
    | (go_at_call 19; refine (build_any H3.out.gr HN.out HWO.out HLP.out).mono ?_; rintro e w3 ⟨bb, rfl, K, rk, Q9, rv, h1, h2, _, h4⟩; have HBD := hide h1; have H4 : Hid (L7 w.heap.size w n a m c A g W w2.heap.size tg tc lg lc Q bb rv (upM K rk) (dnM K rk) w3) := ⟨H3.out.later h4, h2⟩; clear h1 h2 h4))
  obtain ⟨b1, hb1⟩ : ∃ b, w2.heap.size = b := ⟨_, rfl⟩
  rw [hb1] at H4
  try rw [hb1]
  clear H1 H3 hb1 c0 c1
  have x0 := H4.out.g3.ml.c0
  have HX0 : Hid (b1 + 1 < w3.heap.size) := (Array.getElem?_eq_some_iff.1 H4.out.g3.ml.box).1
  have HMK : Hid True := trivial
  obtain ⟨_, _, _, _⟩ := no_four HX0.out
  go_cut [10, 11] from 32 to 39 (fun v10 v11 wx => ∃ p10 p11 ug uc dg dc, v10 = .pointer (some ⟨p10, 0, none⟩) ∧ v11 = .pointer (some ⟨p11, 0, none⟩) ∧ Hid (Wy w.heap.size w n (b1 + 1) lg lc Q p10 p11 ug uc dg dc (cellsM n (least n (upW K rk))) (cellsM n (least n (dnW K rk))) (cellsM n (least n W)) wx))
  case first =>
    first | (go_region_held3 (fun w' => w'.cell? ⟨b1 + 1, 0, none⟩ = some (.int .i64 n)) (first | (simp [go_sem, *]; done) | go_keep) (first
      | (go_at_call 22; have HV := HMK; clear HV HMK; refine (climb_up (H4.out.lf.later (by (repeat first | exact Below.refl _ _ | exact HU5.out.2 | refine below_drew ?_ | refine below_alloc7 ?_))) HN.out HBD.out).mono ?_; rintro e w5 ⟨v5, rfl, h1, h2⟩; have HU5 : Hid (IRow w5 w3.heap.size v5 (cellsM n (least n (upW K rk))) ∧ Below w3.heap.size w3 w5) := ⟨h1.mono (below_le (by (repeat first | exact Below.refl _ _ | exact HU5.out.2 | refine below_drew ?_ | refine below_alloc7 ?_))), below_on (by (repeat first | exact Below.refl _ _ | exact HU5.out.2 | refine below_drew ?_ | refine below_alloc7 ?_)) h2⟩; obtain ⟨ug, uc, rfl, _⟩ := h1.form (by rw [cellsM_len]; exact HQ0.out); rw [cellsM_len, HQ.out] at HU5 ⊢; have y0 : w5.cell? ⟨b1 + 1, 0, none⟩ = some (.int .i64 n) := (HU5.out.2.cell (p := ⟨b1 + 1, 0, none⟩) HX0.out).trans x0; obtain ⟨_, _, _, _⟩ := no_four (Nat.lt_of_lt_of_le HX0.out HU5.out.2.size); (try (have g := bx_on h2 (p := w3.heap.size) (by first | exact heap_alloc_new _ _ | exact blk_old (heap_alloc_new _ _)); obtain ⟨_, _, _, _, _, _, _, _, _⟩ := bx_facts g; have HG1 := hide g; clear g)); (try (have g := bx_on h2 (p := w3.heap.size + 1) (by first | exact blk_new1 _ _ _); obtain ⟨_, _, _, _, _, _, _, _, _⟩ := bx_facts g; have HG2 := hide g; clear g)); clear h1 h2)
      | (go_at_call 22; have HV := HU5; clear HV; refine (climb_dn (H4.out.lf.later (by (repeat first | exact Below.refl _ _ | exact HU5.out.2 | refine below_drew ?_ | refine below_alloc7 ?_))) HN.out HBD.out).mono ?_; rintro e w6 ⟨v6, rfl, h1, h2⟩; have HU6 : Hid (IRow w6 w3.heap.size v6 (cellsM n (least n (dnW K rk))) ∧ Below w3.heap.size w3 w6 ∧ IRow w6 w3.heap.size (.slice (some ⟨ug, 0, none⟩) Q uc) (cellsM n (least n (upW K rk)))) := ⟨h1.mono (below_le (by (repeat first | exact Below.refl _ _ | exact HU5.out.2 | refine below_drew ?_ | refine below_alloc7 ?_))), below_on (by (repeat first | exact Below.refl _ _ | exact HU5.out.2 | refine below_drew ?_ | refine below_alloc7 ?_)) h2, IRow.later (by (repeat first | exact HU5.out.1 | refine irow_drew ?_ | refine irow_alloc ?_)) (Nat.le_refl _) h2⟩; obtain ⟨dg, dc, rfl, _⟩ := h1.form (by rw [cellsM_len]; exact HQ0.out); rw [cellsM_len, HQ.out] at HU6 ⊢; have y1 : w6.cell? ⟨b1 + 1, 0, none⟩ = some (.int .i64 n) := (HU6.out.2.1.cell (p := ⟨b1 + 1, 0, none⟩) HX0.out).trans x0; obtain ⟨_, _, _, _⟩ := no_four (Nat.lt_of_lt_of_le HX0.out HU6.out.2.1.size); (try (have g := bx_on h2 (p := w3.heap.size) (by first | exact HG1.out | exact blk_old HG1.out); obtain ⟨_, _, _, _, _, _, _, _, _⟩ := bx_facts g; have HH1 := hide g; clear g)); (try (have g := bx_on h2 (p := w3.heap.size + 1) (by first | exact HG2.out); obtain ⟨_, _, _, _, _, _, _, _, _⟩ := bx_facts g; have HH2 := hide g; clear g)); (try (have g := bx_on h2 (p := w5.heap.size) (by first | exact heap_alloc_new _ _ | exact blk_old (heap_alloc_new _ _)); obtain ⟨_, _, _, _, _, _, _, _, _⟩ := bx_facts g; have HH3 := hide g; clear g)); (try (have g := bx_on h2 (p := w5.heap.size + 1) (by first | exact blk_new1 _ _ _); obtain ⟨_, _, _, _, _, _, _, _, _⟩ := bx_facts g; have HH4 := hide g; clear g)); clear h1 h2)))
    have HW : Hid (Wy w.heap.size w n (b1 + 1) lg lc Q (w6.heap.size) (w6.heap.size + 1) ug uc dg dc (cellsM n (least n (upW K rk))) (cellsM n (least n (dnW K rk))) (cellsM n (least n W)) ((w6.alloc (.cells #[.int .i64 n, .slice (some ⟨ug, 0, none⟩) Q uc] 39)).alloc (.cells #[.int .i64 n, .slice (some ⟨dg, 0, none⟩) Q dc] 39))) :=
      wy_mk (b1 := w3.heap.size) (b2 := w3.heap.size) H4.out (below_alloc7 (below_alloc7 HU6.out.2.1)) (irow_alloc (irow_alloc (HU6.out.2.2))) (irow_alloc (irow_alloc (HU6.out.1))) (by rw [cellsM_len]; exact HQ.out) (by rw [cellsM_len]; exact HQ.out) (cell_al (cell_new rfl)) (cell_new (by simp))
    go_wp2_with fail
    go_meet
    case rel => exact ⟨_, _, ug, uc, dg, dc, rfl, rfl, HW.out⟩
    have HW : Hid (Wy w.heap.size w n (b1 + 1) lg lc Q (w6.heap.size + 1) (w6.heap.size) ug uc dg dc (cellsM n (least n (upW K rk))) (cellsM n (least n (dnW K rk))) (cellsM n (least n W)) ((w6.alloc (.cells #[.int .i64 n, .slice (some ⟨dg, 0, none⟩) Q dc] 39)).alloc (.cells #[.int .i64 n, .slice (some ⟨ug, 0, none⟩) Q uc] 39))) :=
      wy_mk (b1 := w3.heap.size) (b2 := w3.heap.size) H4.out (below_alloc7 (below_alloc7 HU6.out.2.1)) (irow_alloc (irow_alloc (HU6.out.2.2))) (irow_alloc (irow_alloc (HU6.out.1))) (by rw [cellsM_len]; exact HQ.out) (by rw [cellsM_len]; exact HQ.out) (cell_new (by simp)) (cell_al (cell_new rfl))
    go_wp2_with fail
    go_meet
    case rel => exact ⟨_, _, ug, uc, dg, dc, rfl, rfl, HW.out⟩
    have HW : Hid (Wy w.heap.size w n (b1 + 1) lg lc Q (w5.heap.size) (w6.heap.size) ug uc dg dc (cellsM n (least n (upW K rk))) (cellsM n (least n (dnW K rk))) (cellsM n (least n W)) (((w6.setCell ⟨w5.heap.size, 0, none⟩ (.int .i64 n)).setCell ⟨w5.heap.size, 1, none⟩ (.slice (some ⟨ug, 0, none⟩) Q uc)).alloc (.cells #[.int .i64 n, .slice (some ⟨dg, 0, none⟩) Q dc] 39))) :=
      wy_mk (b1 := w3.heap.size) (b2 := w3.heap.size) H4.out (below_alloc7 (below_set7 (below_set7 (HU6.out.2.1) HU5.out.2.size) HU5.out.2.size)) (irow_alloc (irow_set2 (HU6.out.2.2) HH3.out)) (irow_alloc (irow_set2 (HU6.out.1) HH3.out)) (by rw [cellsM_len]; exact HQ.out) (by rw [cellsM_len]; exact HQ.out) (cell_al (cell_set2 HH3.out)) (cell_new (by simp))
    go_wp2_with fail
    go_meet
    case rel => exact ⟨_, _, ug, uc, dg, dc, rfl, rfl, HW.out⟩
    have HW : Hid (Wy w.heap.size w n (b1 + 1) lg lc Q (w5.heap.size) (w5.heap.size + 1) ug uc dg dc (cellsM n (least n (upW K rk))) (cellsM n (least n (dnW K rk))) (cellsM n (least n W)) ((((w6.setCell ⟨w5.heap.size, 0, none⟩ (.int .i64 n)).setCell ⟨w5.heap.size, 1, none⟩ (.slice (some ⟨ug, 0, none⟩) Q uc)).setCell ⟨w5.heap.size + 1, 0, none⟩ (.int .i64 n)).setCell ⟨w5.heap.size + 1, 1, none⟩ (.slice (some ⟨dg, 0, none⟩) Q dc))) :=
      wy_mk (b1 := w3.heap.size) (b2 := w3.heap.size) H4.out (below_set7 (below_set7 (below_set7 (below_set7 (HU6.out.2.1) HU5.out.2.size) HU5.out.2.size) (Nat.le_succ_of_le HU5.out.2.size)) (Nat.le_succ_of_le HU5.out.2.size)) (irow_set2 (irow_set2 (HU6.out.2.2) HH3.out) (blk_set2 HH4.out (by omega))) (irow_set2 (irow_set2 (HU6.out.1) HH3.out) (blk_set2 HH4.out (by omega))) (by rw [cellsM_len]; exact HQ.out) (by rw [cellsM_len]; exact HQ.out) (cell_over2 (cell_set2 HH3.out) (by omega)) (cell_set2 (blk_set2 HH4.out (by omega)))
    go_wp2_with fail
    go_meet
    case rel => exact ⟨_, _, ug, uc, dg, dc, rfl, rfl, HW.out⟩
    have HW : Hid (Wy w.heap.size w n (b1 + 1) lg lc Q (w6.heap.size) (w5.heap.size) ug uc dg dc (cellsM n (least n (upW K rk))) (cellsM n (least n (dnW K rk))) (cellsM n (least n W)) ((((w6).setCell ⟨w5.heap.size, 0, none⟩ (.int .i64 n)).setCell ⟨w5.heap.size, 1, none⟩ (.slice (some ⟨dg, 0, none⟩) Q dc)).alloc (.cells #[.int .i64 n, .slice (some ⟨ug, 0, none⟩) Q uc] 39))) :=
      wy_mk (b1 := w3.heap.size) (b2 := w3.heap.size) H4.out (below_alloc7 (below_set7 (below_set7 (HU6.out.2.1) HU5.out.2.size) HU5.out.2.size)) (irow_alloc (irow_set2 (HU6.out.2.2) HH3.out)) (irow_alloc (irow_set2 (HU6.out.1) HH3.out)) (by rw [cellsM_len]; exact HQ.out) (by rw [cellsM_len]; exact HQ.out) (cell_new (by simp)) (cell_al (cell_set2 HH3.out))
    go_wp2_with fail
    go_meet
    case rel => exact ⟨_, _, ug, uc, dg, dc, rfl, rfl, HW.out⟩
    have HW : Hid (Wy w.heap.size w n (b1 + 1) lg lc Q (w5.heap.size + 1) (w5.heap.size) ug uc dg dc (cellsM n (least n (upW K rk))) (cellsM n (least n (dnW K rk))) (cellsM n (least n W)) ((((w6.setCell ⟨w5.heap.size + 1, 0, none⟩ (.int .i64 n)).setCell ⟨w5.heap.size + 1, 1, none⟩ (.slice (some ⟨ug, 0, none⟩) Q uc)).setCell ⟨w5.heap.size, 0, none⟩ (.int .i64 n)).setCell ⟨w5.heap.size, 1, none⟩ (.slice (some ⟨dg, 0, none⟩) Q dc))) :=
      wy_mk (b1 := w3.heap.size) (b2 := w3.heap.size) H4.out (below_set7 (below_set7 (below_set7 (below_set7 (HU6.out.2.1) (Nat.le_succ_of_le HU5.out.2.size)) (Nat.le_succ_of_le HU5.out.2.size)) HU5.out.2.size) HU5.out.2.size) (irow_set2 (irow_set2 (HU6.out.2.2) HH4.out) (blk_set2 HH3.out (by omega))) (irow_set2 (irow_set2 (HU6.out.1) HH4.out) (blk_set2 HH3.out (by omega))) (by rw [cellsM_len]; exact HQ.out) (by rw [cellsM_len]; exact HQ.out) (cell_over2 (cell_set2 HH4.out) (by omega)) (cell_set2 (blk_set2 HH3.out (by omega)))
    go_wp2_with fail
    go_meet
    case rel => exact ⟨_, _, ug, uc, dg, dc, rfl, rfl, HW.out⟩
    have HW : Hid (Wy w.heap.size w n (b1 + 1) lg lc Q (w3.heap.size) (w6.heap.size) ug uc dg dc (cellsM n (least n (upW K rk))) (cellsM n (least n (dnW K rk))) (cellsM n (least n W)) (((w6.setCell ⟨w3.heap.size, 0, none⟩ (.int .i64 n)).setCell ⟨w3.heap.size, 1, none⟩ (.slice (some ⟨ug, 0, none⟩) Q uc)).alloc (.cells #[.int .i64 n, .slice (some ⟨dg, 0, none⟩) Q dc] 39))) :=
      wy_mk (b1 := w3.heap.size) (b2 := w3.heap.size) H4.out (below_alloc7 (below_set7 (below_set7 (HU6.out.2.1) (Nat.le_refl _)) (Nat.le_refl _))) (irow_alloc (irow_set2 (HU6.out.2.2) HH1.out)) (irow_alloc (irow_set2 (HU6.out.1) HH1.out)) (by rw [cellsM_len]; exact HQ.out) (by rw [cellsM_len]; exact HQ.out) (cell_al (cell_set2 HH1.out)) (cell_new (by simp))
    go_wp2_with fail
    go_meet
    case rel => exact ⟨_, _, ug, uc, dg, dc, rfl, rfl, HW.out⟩
    have HW : Hid (Wy w.heap.size w n (b1 + 1) lg lc Q (w3.heap.size) (w5.heap.size) ug uc dg dc (cellsM n (least n (upW K rk))) (cellsM n (least n (dnW K rk))) (cellsM n (least n W)) ((((w6.setCell ⟨w3.heap.size, 0, none⟩ (.int .i64 n)).setCell ⟨w3.heap.size, 1, none⟩ (.slice (some ⟨ug, 0, none⟩) Q uc)).setCell ⟨w5.heap.size, 0, none⟩ (.int .i64 n)).setCell ⟨w5.heap.size, 1, none⟩ (.slice (some ⟨dg, 0, none⟩) Q dc))) :=
      wy_mk (b1 := w3.heap.size) (b2 := w3.heap.size) H4.out (below_set7 (below_set7 (below_set7 (below_set7 (HU6.out.2.1) (Nat.le_refl _)) (Nat.le_refl _)) HU5.out.2.size) HU5.out.2.size) (irow_set2 (irow_set2 (HU6.out.2.2) HH1.out) (blk_set2 HH3.out (by have := lt_of_blk HG1.out; omega))) (irow_set2 (irow_set2 (HU6.out.1) HH1.out) (blk_set2 HH3.out (by have := lt_of_blk HG1.out; omega))) (by rw [cellsM_len]; exact HQ.out) (by rw [cellsM_len]; exact HQ.out) (cell_over2 (cell_set2 HH1.out) (by have := lt_of_blk HG1.out; omega)) (cell_set2 (blk_set2 HH3.out (by have := lt_of_blk HG1.out; omega)))
    go_wp2_with fail
    go_meet
    case rel => exact ⟨_, _, ug, uc, dg, dc, rfl, rfl, HW.out⟩
    have HW : Hid (Wy w.heap.size w n (b1 + 1) lg lc Q (w3.heap.size) (w3.heap.size + 1) ug uc dg dc (cellsM n (least n (upW K rk))) (cellsM n (least n (dnW K rk))) (cellsM n (least n W)) ((((w6.setCell ⟨w3.heap.size, 0, none⟩ (.int .i64 n)).setCell ⟨w3.heap.size, 1, none⟩ (.slice (some ⟨ug, 0, none⟩) Q uc)).setCell ⟨w3.heap.size + 1, 0, none⟩ (.int .i64 n)).setCell ⟨w3.heap.size + 1, 1, none⟩ (.slice (some ⟨dg, 0, none⟩) Q dc))) :=
      wy_mk (b1 := w3.heap.size) (b2 := w3.heap.size) H4.out (below_set7 (below_set7 (below_set7 (below_set7 (HU6.out.2.1) (Nat.le_refl _)) (Nat.le_refl _)) (Nat.le_succ _)) (Nat.le_succ _)) (irow_set2 (irow_set2 (HU6.out.2.2) HH1.out) (blk_set2 HH2.out (by omega))) (irow_set2 (irow_set2 (HU6.out.1) HH1.out) (blk_set2 HH2.out (by omega))) (by rw [cellsM_len]; exact HQ.out) (by rw [cellsM_len]; exact HQ.out) (cell_over2 (cell_set2 HH1.out) (by omega)) (cell_set2 (blk_set2 HH2.out (by omega)))
    go_wp2_with fail
    go_meet
    case rel => exact ⟨_, _, ug, uc, dg, dc, rfl, rfl, HW.out⟩
    have HW : Hid (Wy w.heap.size w n (b1 + 1) lg lc Q (w6.heap.size) (w3.heap.size) ug uc dg dc (cellsM n (least n (upW K rk))) (cellsM n (least n (dnW K rk))) (cellsM n (least n W)) ((((w6).setCell ⟨w3.heap.size, 0, none⟩ (.int .i64 n)).setCell ⟨w3.heap.size, 1, none⟩ (.slice (some ⟨dg, 0, none⟩) Q dc)).alloc (.cells #[.int .i64 n, .slice (some ⟨ug, 0, none⟩) Q uc] 39))) :=
      wy_mk (b1 := w3.heap.size) (b2 := w3.heap.size) H4.out (below_alloc7 (below_set7 (below_set7 (HU6.out.2.1) (Nat.le_refl _)) (Nat.le_refl _))) (irow_alloc (irow_set2 (HU6.out.2.2) HH1.out)) (irow_alloc (irow_set2 (HU6.out.1) HH1.out)) (by rw [cellsM_len]; exact HQ.out) (by rw [cellsM_len]; exact HQ.out) (cell_new (by simp)) (cell_al (cell_set2 HH1.out))
    go_wp2_with fail
    go_meet
    case rel => exact ⟨_, _, ug, uc, dg, dc, rfl, rfl, HW.out⟩
    have HW : Hid (Wy w.heap.size w n (b1 + 1) lg lc Q (w5.heap.size) (w3.heap.size) ug uc dg dc (cellsM n (least n (upW K rk))) (cellsM n (least n (dnW K rk))) (cellsM n (least n W)) ((((w6.setCell ⟨w5.heap.size, 0, none⟩ (.int .i64 n)).setCell ⟨w5.heap.size, 1, none⟩ (.slice (some ⟨ug, 0, none⟩) Q uc)).setCell ⟨w3.heap.size, 0, none⟩ (.int .i64 n)).setCell ⟨w3.heap.size, 1, none⟩ (.slice (some ⟨dg, 0, none⟩) Q dc))) :=
      wy_mk (b1 := w3.heap.size) (b2 := w3.heap.size) H4.out (below_set7 (below_set7 (below_set7 (below_set7 (HU6.out.2.1) HU5.out.2.size) HU5.out.2.size) (Nat.le_refl _)) (Nat.le_refl _)) (irow_set2 (irow_set2 (HU6.out.2.2) HH3.out) (blk_set2 HH1.out (by have := lt_of_blk HG1.out; omega))) (irow_set2 (irow_set2 (HU6.out.1) HH3.out) (blk_set2 HH1.out (by have := lt_of_blk HG1.out; omega))) (by rw [cellsM_len]; exact HQ.out) (by rw [cellsM_len]; exact HQ.out) (cell_over2 (cell_set2 HH3.out) (by have := lt_of_blk HG1.out; omega)) (cell_set2 (blk_set2 HH1.out (by have := lt_of_blk HG1.out; omega)))
    go_wp2_with fail
    go_meet
    case rel => exact ⟨_, _, ug, uc, dg, dc, rfl, rfl, HW.out⟩
    have HW : Hid (Wy w.heap.size w n (b1 + 1) lg lc Q (w3.heap.size + 1) (w3.heap.size) ug uc dg dc (cellsM n (least n (upW K rk))) (cellsM n (least n (dnW K rk))) (cellsM n (least n W)) ((((w6.setCell ⟨w3.heap.size + 1, 0, none⟩ (.int .i64 n)).setCell ⟨w3.heap.size + 1, 1, none⟩ (.slice (some ⟨ug, 0, none⟩) Q uc)).setCell ⟨w3.heap.size, 0, none⟩ (.int .i64 n)).setCell ⟨w3.heap.size, 1, none⟩ (.slice (some ⟨dg, 0, none⟩) Q dc))) :=
      wy_mk (b1 := w3.heap.size) (b2 := w3.heap.size) H4.out (below_set7 (below_set7 (below_set7 (below_set7 (HU6.out.2.1) (Nat.le_succ _)) (Nat.le_succ _)) (Nat.le_refl _)) (Nat.le_refl _)) (irow_set2 (irow_set2 (HU6.out.2.2) HH2.out) (blk_set2 HH1.out (by omega))) (irow_set2 (irow_set2 (HU6.out.1) HH2.out) (blk_set2 HH1.out (by omega))) (by rw [cellsM_len]; exact HQ.out) (by rw [cellsM_len]; exact HQ.out) (cell_over2 (cell_set2 HH2.out) (by omega)) (cell_set2 (blk_set2 HH1.out (by omega)))
    go_wp2_with fail
    go_meet
    case rel => exact ⟨_, _, ug, uc, dg, dc, rfl, rfl, HW.out⟩
  case rest =>
    obtain ⟨p10, p11, ug, uc, dg, dc, rfl, rfl, HW⟩ := hcut
    clear H4 HX0 x0
    go_wp2
    go_loopw [12] (fun vi wr => ∃ i : Nat, vi = .int .i64 i ∧ i ≤ n ∧ Hid (Wy w.heap.size w n (b1 + 1) lg lc Q p10 p11 ug uc dg dc (cellsM n (least n (upW K rk))) (cellsM n (least n (dnW K rk))) (cellsM n (least n W)) wr)) (fun vi _ => n - (intOf vi).toNat)
    case atStart => exact ⟨0, rfl, Nat.zero_le _, HW.out⟩
    case round =>
      clear HW
      obtain ⟨i, rfl, hi, HR⟩ := hrel
      have r0 := HR.out.c0
      by_cases hin : i < n
      · have i1 : (i : Int) < (n : Int) := by omega
        have HIN := hide hin
        obtain ⟨hmi, hmib⟩ := mul_wrap (show i ≤ 32 by omega) HN.out.2
        go_wp2
        go_loopw [13] (fun vj wr => ∃ j : Nat, vj = .int .i64 j ∧ j ≤ n ∧ Hid (Wy w.heap.size w n (b1 + 1) lg lc Q p10 p11 ug uc dg dc (cellsM n (least n (upW K rk))) (cellsM n (least n (dnW K rk))) (cellsM n (least n W)) wr)) (fun vj _ => n - (intOf vj).toNat)
        case atStart => exact ⟨0, rfl, Nat.zero_le _, HR.out⟩
        case round =>
          clear HR r0
          obtain ⟨j, rfl, hj, HR⟩ := hrel
          have r0 := HR.out.c0
          by_cases hjn : j < n
          · have j1 : (j : Int) < (n : Int) := by omega
            have HJN := hide hjn
            have HBE := hide (ways_best HBD.out HN.out.2 HWO.out HIN.out HJN.out)
            have HF : Hid (∀ k, k < n → ∃ z, (fun c => cv (least n (upW K rk) i c)) k = z ∧ -1 ≤ z ∧ z ≤ 4294967296000000 ∧ (cellsM n (least n (upW K rk)))[i * n + k]! = z) := fun k hk => ⟨_, rfl, (up_bnd HBD.out HN.out.2 HIN.out hk).1, (up_bnd HBD.out HN.out.2 HIN.out hk).2, cellsM_at _ HIN.out hk⟩
            have HG : Hid (∀ k, k < n → ∃ z, (fun c => cv (least n (dnW K rk) c j)) k = z ∧ -1 ≤ z ∧ z ≤ 4294967296000000 ∧ (cellsM n (least n (dnW K rk)))[k * n + j]! = z) := fun k hk => ⟨_, rfl, (dn_bnd HBD.out HN.out.2 hk HJN.out).1, (dn_bnd HBD.out HN.out.2 hk HJN.out).2, cellsM_at _ hk HJN.out⟩
            have HBN : Hid (∀ k, k ≤ n → -1 ≤ bestB (fun c => cv (least n (upW K rk) i c)) (fun c => cv (least n (dnW K rk) c j)) k ∧ bestB (fun c => cv (least n (upW K rk) i c)) (fun c => cv (least n (dnW K rk) c j)) k ≤ 8589934592000000) := bestB_bnd (n := n) (fun c hc => up_bnd HBD.out HN.out.2 HIN.out hc) (fun c hc => dn_bnd HBD.out HN.out.2 hc HJN.out)
            generalize (fun c => cv (least n (upW K rk) i c)) = f at HBE HF HBN
            generalize (fun c => cv (least n (dnW K rk) c j)) = g' at HBE HG HBN
            go_wp2
            go_loopw [14, 15] (fun vb vk wr => ∃ k : Nat, vb = .int .i64 (bestB f g' k) ∧ vk = .int .i64 k ∧ k ≤ n ∧ Hid (Wy w.heap.size w n (b1 + 1) lg lc Q p10 p11 ug uc dg dc (cellsM n (least n (upW K rk))) (cellsM n (least n (dnW K rk))) (cellsM n (least n W)) wr)) (fun _ vk _ => n - (intOf vk).toNat)
            case atStart => exact ⟨0, rfl, rfl, Nat.zero_le _, HR.out⟩
            case round =>
              clear HR r0
              obtain ⟨k, rfl, rfl, hk, HR⟩ := hrel
              have r0 := HR.out.c0
              by_cases hkn : k < n
              · have k1 : (k : Int) < (n : Int) := by omega
                obtain ⟨hmk, hmkb⟩ := mul_wrap (show k ≤ 32 by omega) HN.out.2
                have r1 := HR.out.u1
                have r2 := HR.out.d1
                have l1 := cell_lt HIN.out hkn
                have l2 := cell_lt hkn HJN.out
                rw [HQ.out] at l1 l2
                have ru := HR.out.ur _ l1
                have rd := HR.out.dr _ l2
                obtain ⟨xf, ef, bf1, bf2, ef2⟩ := HF.out k hkn
                obtain ⟨xg, eg, bg1, bg2, eg2⟩ := HG.out k hkn
                rw [ef2] at ru
                rw [eg2] at rd
                have HST : Hid (bestB f g' (k + 1) = if 0 ≤ xf ∧ 0 ≤ xg ∧ (bestB f g' k < 0 ∨ xf + xg < bestB f g' k) then xf + xg else bestB f g' k) := by
                  show bestB f g' (k + 1) = _
                  rw [bestB, ef, eg]
                obtain ⟨bb1, bb2⟩ := HBN.out k hk
                generalize bestB f g' k = bk at HST bb1 bb2 ⊢
                have HKN := hide hkn
                clear ef eg ef2 eg2
                have HR2 : Hid (∀ q, Wy w.heap.size w n (b1 + 1) lg lc Q p10 p11 ug uc dg dc (cellsM n (least n (upW K rk))) (cellsM n (least n (dnW K rk))) (cellsM n (least n W)) (wr.drewN q)) := fun q => HR.out.drewN q
                clear HR
                go_wp2
                go_quiet (fail)
                by_cases h1 : xf < 0
                · have d1 : decide (0 ≤ xf) = false := decide_eq_false (by omega)
                  have HE : Hid (bestB f g' (k + 1) = bk) := by show _ = _; rw [HST.out, if_neg (fun h => by omega)]
                  clear HST
                  go_wp2
                  go_roundw
                  case rel => exact ⟨k + 1, by rw [HE.out], by go_num, by have := HKN.out; omega, HR2.out nq⟩
                  case measure => have := HKN.out; simp [intOf]; omega
                · have h1' : 0 ≤ xf := by omega
                  by_cases h2 : xg < 0
                  · have d1 : decide (0 ≤ xg) = false := decide_eq_false (by omega)
                    have HE : Hid (bestB f g' (k + 1) = bk) := by show _ = _; rw [HST.out, if_neg (fun h => by omega)]
                    clear HST
                    go_wp2
                    go_roundw
                    case rel => exact ⟨k + 1, by rw [HE.out], by go_num, by have := HKN.out; omega, HR2.out nq⟩
                    case measure => have := HKN.out; simp [intOf]; omega
                  · have h2' : 0 ≤ xg := by omega
                    by_cases h3 : bk < 0
                    · skip
                      have HE : Hid (bestB f g' (k + 1) = xf + xg) := by show _ = _; rw [HST.out, if_pos ⟨h1', h2', .inl h3⟩]
                      clear HST
                      go_wp2
                      go_roundw
                      case rel => exact ⟨k + 1, by rw [HE.out], by go_num, by have := HKN.out; omega, HR2.out nq⟩
                      case measure => have := HKN.out; simp [intOf]; omega
                    · by_cases h4 : xf + xg < bk
                      · skip
                        have HE : Hid (bestB f g' (k + 1) = xf + xg) := by show _ = _; rw [HST.out, if_pos ⟨h1', h2', .inr h4⟩]
                        clear HST
                        go_wp2
                        go_roundw
                        case rel => exact ⟨k + 1, by rw [HE.out], by go_num, by have := HKN.out; omega, HR2.out nq⟩
                        case measure => have := HKN.out; simp [intOf]; omega
                      · skip
                        have HE : Hid (bestB f g' (k + 1) = bk) := by show _ = _; rw [HST.out, if_neg (fun h => by omega)]
                        clear HST
                        go_wp2
                        go_roundw
                        case rel => exact ⟨k + 1, by rw [HE.out], by go_num, by have := HKN.out; omega, HR2.out nq⟩
                        case measure => have := HKN.out; simp [intOf]; omega
              · have e : k = n := by omega
                have k1 : ¬ (k : Int) < (n : Int) := by omega
                have eb : bestB f g' k = cv (least n W i j) := by rw [e]; exact HBE.out
                rw [eb]
                have l3 := cell_lt HIN.out HJN.out
                rw [HQ.out] at l3
                have rl := HR.out.lr _ l3
                rw [cellsM_at _ HIN.out HJN.out] at rl
                have r3 := HR.out.c1
                have rl' : wr.cell? ⟨lg, i * n + j, none⟩ = some (.int .i64 (cv (least n W i j))) := rl
                clear rl eb HBE
                generalize cv (least n W i j) = z at rl' ⊢
                have zz : (z != z) = false := by simp
                replace e := hide e
                go_wp2
                go_roundw
                case rel => exact ⟨j + 1, by go_num, by have := HJN.out; omega, HR.out⟩
                case measure => have := HJN.out; simp [intOf]; omega
          · have e : j = n := by omega
            have j1 : ¬ (j : Int) < (n : Int) := by omega
            go_wp2
            go_roundw
            case rel => exact ⟨i + 1, by go_num, by have := HIN.out; omega, HR.out⟩
            case measure => have := HIN.out; simp [intOf]; omega
      · have i1 : ¬ (i : Int) < (n : Int) := by omega
        have HB9 := hide HR.out.below
        go_wp2
        go_ret
        exact ⟨rfl, HB9.out⟩

theorem ways7_any (n : Int) (a : Option Addr) (m c : Nat) (A : List Arc) (d : Bool) (w : World) (h : ArcsAt w a m A) (hc : a = none → c = 0) :
    Calls Try.prog 6 #[.agg #[.int .i64 n, .slice a m c], .bool d] w fun e w' => e = .returned (.bool true) ∧ Below w.heap.size w w' := by
  by_cases hm : 300 < m
  · exact ways7_bad n a m c A d w h hc (.inl hm)
  · by_cases he : (checkM n A).2 = 0
    · obtain ⟨hn, _⟩ := checkM_ok he
      obtain ⟨k, rfl⟩ : ∃ k : Nat, n = (k : Int) := ⟨n.toNat, by omega⟩
      exact ways7_good k a m c A d w h hc (by omega) he
    · exact ways7_bad n a m c A d w h hc (.inr ⟨by omega, he⟩)
end Go.Proofs.Ytojkdmkeankcgaa
