/-
  What the law LiftOwn does.
-/
import Derived.Test.YtlflbjnglmbdeaaZLk
import Derived.Deep.CutRange
namespace Go.Proofs.Ytlflbjnglmbdeaa
open Go.RowKit Go.Sort

/-- A block of so many cells of links, whatever they hold. -/
def Blk (w : World) (g k : Nat) : Prop := ∃ cur, w.heap[g]? = some (.cells cur 59 (0, 0)) ∧ k ≤ cur.size
theorem blk_of_row {w : World} {base g m cap : Nat} {L : List Lnk} (h : LRow w base (.slice (some ⟨g, 0, none⟩) m cap) L) : Blk w g (L.length * 4) := by
  rcases h.2 with ⟨e, _⟩ | ⟨g2, cap2, cur, e, _, hb, h1, _, h3, h4⟩
  · cases e
  · cases e
    refine ⟨cur, hb, ?_⟩
    have := Nat.mul_le_mul_right 4 h1
    omega
theorem Blk.cell {w : World} {g k j : Nat} (h : Blk w g k) (hj : j < k) : (∃ v, w.cell? ⟨g, j, none⟩ = some v) ∧ w.frozen? ⟨g, j, none⟩ = false := by
  obtain ⟨cur, hb, hk⟩ := h
  refine ⟨⟨cur[j], ?_⟩, frozen_of_row w g j _ _ hb⟩
  rw [cell_of_row w g j _ _ _ hb]
  simp
theorem Blk.put {w : World} {g k : Nat} (h : Blk w g k) (j : Nat) (v : Value) : Blk (w.setCell ⟨g, j, none⟩ v) g k := by
  obtain ⟨cur, hb, hk⟩ := h
  exact ⟨_, heap_setCell_same w g j _ _ _ hb, by simpa using hk⟩
theorem Blk.later {w w' : World} {g k : Nat} (h : Blk w g k) (f : Below w.heap.size w w') : Blk w' g k := by
  obtain ⟨cur, hb, hk⟩ := h
  exact ⟨cur, (f.block g (Array.getElem?_eq_some_iff.1 hb).1).trans hb, hk⟩
/-- Links in a block. -/
def LksAt (w : World) (g i : Nat) (L : List Lnk) : Prop := ∀ j, i ≤ j → j < L.length → w.cell? ⟨g, j * 4, none⟩ = some (.int .i64 L[j]!.1) ∧ w.cell? ⟨g, j * 4 + 1, none⟩ = some (.int .i64 L[j]!.2.1) ∧ w.cell? ⟨g, j * 4 + 2, none⟩ = some (.int .i64 L[j]!.2.2.1) ∧ w.cell? ⟨g, j * 4 + 3, none⟩ = some (.int .i64 L[j]!.2.2.2)
theorem lks_of_row {w : World} {base g m cap : Nat} {L : List Lnk} (h : LRow w base (.slice (some ⟨g, 0, none⟩) m cap) L) : LksAt w g 0 L := fun j _ hj => h.cells j hj
theorem LksAt.later {w w' : World} {g i : Nat} {L : List Lnk} (h : LksAt w g i L) (f : Below w.heap.size w w') : LksAt w' g i L := fun j h1 h2 => by
  obtain ⟨a, b, c, d⟩ := h j h1 h2
  have hg := block_lt_of_cell a
  exact ⟨(f.cell (p := ⟨g, j * 4, none⟩) hg).trans a, (f.cell (p := ⟨g, j * 4 + 1, none⟩) hg).trans b, (f.cell (p := ⟨g, j * 4 + 2, none⟩) hg).trans c, (f.cell (p := ⟨g, j * 4 + 3, none⟩) hg).trans d⟩
theorem LksAt.drewN {w : World} {g i : Nat} {L : List Lnk} (h : LksAt w g i L) (q : Nat) : LksAt (w.drewN q) g i L := h.later (Qu.below_drewN (Below.refl _ _) q)
theorem LksAt.putOther {w : World} {g i g2 : Nat} {L : List Lnk} (h : LksAt w g i L) (hg : g ≠ g2) (j : Nat) (v : Value) : LksAt (w.setCell ⟨g2, j, none⟩ v) g i L := fun k h1 h2 => by
  obtain ⟨a, b, c, d⟩ := h k h1 h2
  have e : ∀ x, (w.setCell ⟨g2, j, none⟩ v).cell? ⟨g, x, none⟩ = w.cell? ⟨g, x, none⟩ := fun x => World.cell?_of_block (w := w) (heap_setCell_other _ _ _ _ hg)
  rw [e, e, e, e]
  exact ⟨a, b, c, d⟩
theorem LksAt.next {w : World} {g i : Nat} {L : List Lnk} (h : LksAt w g i L) (v0 v1 v2 v3 : Value) : LksAt ((((w.setCell ⟨g, i * 4, none⟩ v0).setCell ⟨g, i * 4 + 1, none⟩ v1).setCell ⟨g, i * 4 + 2, none⟩ v2).setCell ⟨g, i * 4 + 3, none⟩ v3) g (i + 1) L := fun k h1 h2 => by
  obtain ⟨a, b, c, d⟩ := h k (by omega) h2
  have e : ∀ x, i * 4 + 4 ≤ x → ((((w.setCell ⟨g, i * 4, none⟩ v0).setCell ⟨g, i * 4 + 1, none⟩ v1).setCell ⟨g, i * 4 + 2, none⟩ v2).setCell ⟨g, i * 4 + 3, none⟩ v3).cell? ⟨g, x, none⟩ = w.cell? ⟨g, x, none⟩ := fun x hx => by
    rw [World.cell?_setCell_other _ _ _ _ (fun e => absurd (congrArg Addr.off e) (by simp only; omega)), World.cell?_setCell_other _ _ _ _ (fun e => absurd (congrArg Addr.off e) (by simp only; omega)), World.cell?_setCell_other _ _ _ _ (fun e => absurd (congrArg Addr.off e) (by simp only; omega)), World.cell?_setCell_other _ _ _ _ (fun e => absurd (congrArg Addr.off e) (by simp only; omega))]
  rw [e _ (by omega), e _ (by omega), e _ (by omega), e _ (by omega)]
  exact ⟨a, b, c, d⟩
theorem Blk.put2 {w : World} {g k g2 : Nat} (h : Blk w g k) (j : Nat) (v : Value) : Blk (w.setCell ⟨g2, j, none⟩ v) g k := by
  by_cases e : g = g2
  · subst e; exact h.put j v
  · obtain ⟨cur, hb, hk⟩ := h
    exact ⟨cur, by rw [heap_setCell_other _ _ _ _ e]; exact hb, hk⟩
/-- A row of links that was answered, if it isn't empty. -/
def Rw7 (B g0 : Nat) (w : World) (va : Option Addr) (len : Nat) : Prop := 0 < len → ∃ g, va = some ⟨g, 0, none⟩ ∧ Blk w g (len * 4) ∧ B ≤ g ∧ g0 < g
theorem Rw7.put4 {B g0 g i len : Nat} {w : World} {va : Option Addr} (h : Rw7 B g0 w va len) (v0 v1 v2 v3 : Value) : Rw7 B g0 ((((w.setCell ⟨g, i * 4, none⟩ v0).setCell ⟨g, i * 4 + 1, none⟩ v1).setCell ⟨g, i * 4 + 2, none⟩ v2).setCell ⟨g, i * 4 + 3, none⟩ v3) va len := fun hl => by
  obtain ⟨g1, e, hb, h1, h2⟩ := h hl
  exact ⟨g1, e, (((hb.put2 _ _).put2 _ _).put2 _ _).put2 _ _, h1, h2⟩
theorem Rw7.later {B g0 len : Nat} {w w' : World} {va : Option Addr} (h : Rw7 B g0 w va len) (f : Below w.heap.size w w') : Rw7 B g0 w' va len := fun hl => by
  obtain ⟨g1, e, hb, h1, h2⟩ := h hl
  exact ⟨g1, e, hb.later f, h1, h2⟩
theorem rw7_row {B g0 base m vc : Nat} {w : World} {va : Option Addr} {L : List Lnk} (h : LRow w base (.slice va m vc) L) (hB : B ≤ base) (hg : g0 < base) : Rw7 B g0 w va L.length := fun hl => by
  obtain ⟨g, cap, hv, hb, _⟩ := h.form hl
  have hr := h
  injection hv with e1 e2 e3
  subst e1 e3
  exact ⟨g, rfl, blk_of_row hr, by omega, by omega⟩
/-- The same, and from the i-th on it holds L. -/
def Rv7 (B g0 : Nat) (w : World) (va : Option Addr) (L : List Lnk) (i : Nat) : Prop := 0 < L.length → ∃ g, va = some ⟨g, 0, none⟩ ∧ Blk w g (L.length * 4) ∧ B ≤ g ∧ g0 < g ∧ LksAt w g i L
theorem Rv7.later {B g0 i : Nat} {w w' : World} {va : Option Addr} {L : List Lnk} (h : Rv7 B g0 w va L i) (f : Below w.heap.size w w') : Rv7 B g0 w' va L i := fun hl => by
  obtain ⟨g1, e, hb, h1, h2, h3⟩ := h hl
  exact ⟨g1, e, hb.later f, h1, h2, h3.later f⟩
theorem rv7_row {B g0 base m vc : Nat} {w : World} {va : Option Addr} {L : List Lnk} (h : LRow w base (.slice va m vc) L) (hB : B ≤ base) (hg : g0 < base) : Rv7 B g0 w va L 0 := fun hl => by
  obtain ⟨g, cap, hv, hb, _⟩ := h.form hl
  have hr := h
  injection hv with e1 e2 e3
  subst e1 e3
  exact ⟨g, rfl, blk_of_row hr, by omega, by omega, lks_of_row hr⟩
/-- Between the steps: the lifted graph, and the links that were answered first. -/
structure Ow (B : Nat) (w : World) (n b lg lc Q : Nat) (bb : LfB) (rv : Nat → Int) (U V : Mx) (g0 : Nat) (L : List Lnk) (wr : World) : Prop where
  l8 : L8 B w n b lg lc Q bb rv U V wr
  ls : LksAt wr g0 0 L
section
variable {B n b lg lc Q g0 g j : Nat} {w wr w' : World} {bb : LfB} {rv : Nat → Int} {U V : Mx} {L : List Lnk}
theorem Ow.later (h : Ow B w n b lg lc Q bb rv U V g0 L wr) (f : Below wr.heap.size wr w') : Ow B w n b lg lc Q bb rv U V g0 L w' := ⟨h.l8.later f, h.ls.later f⟩
theorem Ow.drewN (h : Ow B w n b lg lc Q bb rv U V g0 L wr) (q : Nat) : Ow B w n b lg lc Q bb rv U V g0 L (wr.drewN q) := h.later (Qu.below_drewN (Below.refl _ _) q)
theorem Ow.put {k : Nat} (h : Ow B w n b lg lc Q bb rv U V g0 L wr) (hb : Blk wr g k) (hg : g0 ≠ g) (hB : B ≤ g) (j : Nat) (v : Value) : Ow B w n b lg lc Q bb rv U V g0 L (wr.setCell ⟨g, j, none⟩ v) := by
  obtain ⟨cur, hc, _⟩ := hb
  exact ⟨h.l8.put hc (by decide) (by decide) (by decide) (by decide) hB j v, h.ls.putOther hg j v⟩
theorem Ow.put4 {k : Nat} (h : Ow B w n b lg lc Q bb rv U V g0 L wr) (hb : Blk wr g k) (hg : g0 ≠ g) (hB : B ≤ g) (i : Nat) (v0 v1 v2 v3 : Value) : Ow B w n b lg lc Q bb rv U V g0 L ((((wr.setCell ⟨g, i * 4, none⟩ v0).setCell ⟨g, i * 4 + 1, none⟩ v1).setCell ⟨g, i * 4 + 2, none⟩ v2).setCell ⟨g, i * 4 + 3, none⟩ v3) ∧ Blk ((((wr.setCell ⟨g, i * 4, none⟩ v0).setCell ⟨g, i * 4 + 1, none⟩ v1).setCell ⟨g, i * 4 + 2, none⟩ v2).setCell ⟨g, i * 4 + 3, none⟩ v3) g k :=
  ⟨(((h.put hb hg hB _ v0).put (hb.put _ v0) hg hB _ v1).put ((hb.put _ v0).put _ v1) hg hB _ v2).put (((hb.put _ v0).put _ v1).put _ v2) hg hB _ v3, (((hb.put _ v0).put _ v1).put _ v2).put _ v3⟩
end
set_option maxRecDepth 100000 in
set_option maxHeartbeats 1600000 in
theorem own7_bad (n : Int) (a : Option Addr) (m c : Nat) (A : List Arc) (z : Int) (w : World) (h : ArcsAt w a m A) (hc : a = none → c = 0) (hb : 300 < m ∨ (m ≤ 300 ∧ (checkM n A).2 ≠ 0)) :
    Calls Try.prog 9 #[.agg #[.int .i64 n, .slice a m c], .int .i64 z] w fun e w' => e = .returned (.bool true) ∧ Below w.heap.size w w' := by
  have HS := hide (rin_start w n a m c A h)
  have HGR : Hid (∀ w', ArcsAt w' a m A → Calls Try.prog 20 #[.agg #[.int .i64 n, .slice a m c], .bool false] w' fun e w'' => e = .returned (.tuple #[.pointer none, .agg #[.int .i64 0, .slice none 0 0], .agg #[.int .i64 0, .slice none 0 0], .bool false]) ∧ Below w'.heap.size w' w'') := fun w' h' => by
    rcases hb with hm | ⟨hm, he⟩
    · exact graph_many n a m c A false w' h' hm
    · exact graph_bad n a m c A false w' h' hc hm he
  clear h hc hb
  go_enter Try.func9, Try.ntmps9
  go_wp2_with (first
    | (go_at_call 25; refine (awakeL_any _).mono ?_; rintro e w1 ⟨rfl, h1⟩; have H1 := hide (HS.out.later h1); have c0 := H1.out.c0; have c1 := H1.out.c1; clear h1)
    | (go_at_call 20; refine (HGR.out _ H1.out.arcs).mono ?_; rintro e w2 ⟨rfl, h2⟩; have H2 := hide (H1.out.later h2); clear h2)
    | (go_at_call 26; refine (build_nil _).mono ?_; rintro e w1 ⟨rfl, hw⟩; rw [hw]; clear hw)
    | (go_at_call 27; refine (lplaces_nil _).mono ?_; rintro e w1 ⟨rfl, hw⟩; rw [hw]; clear hw)
    | (go_at_call 28; refine (lrank_nil z _).mono ?_; rintro e w1 ⟨rfl, hw⟩; rw [hw]; clear hw)
    | (go_at_call 29; refine (lup_nil z _).mono ?_; rintro e w1 ⟨rfl, hw⟩; rw [hw]; clear hw)
    | (go_at_call 30; refine (ldown_nil z _).mono ?_; rintro e w1 ⟨rfl, hw⟩; rw [hw]; clear hw)
    | (go_at_call 31; refine (llinks_nil _).mono ?_; rintro e w1 ⟨rfl, hw⟩; rw [hw]; clear hw))
  go_ret
  exact ⟨rfl, (H2.out.below.alloc H2.out.below.size _).alloc (by have := H2.out.below.size; simp; omega) _⟩
set_option maxRecDepth 100000 in
set_option maxHeartbeats 12800000 in
theorem own7_good (n : Nat) (a : Option Addr) (m c : Nat) (A : List Arc) (z : Int) (w : World) (h : ArcsAt w a m A) (hc : a = none → c = 0) (hm : m ≤ 300) (he : (checkM n A).2 = 0) :
    Calls Try.prog 9 #[.agg #[.int .i64 n, .slice a m c], .int .i64 z] w fun e w' => e = .returned (.bool true) ∧ Below w.heap.size w w' := by
  obtain ⟨hn0, hl, hok⟩ := checkM_ok he
  have hn : 1 ≤ n ∧ n ≤ 32 := by omega
  have HN := hide hn
  have HM := hide (mt_pos he false)
  have HWO : Hid (WOk n (tab (legsM (mtM false) A))) := fun p q x _ _ hx => tab_pos HM.out p q x hx
  have HLP : Hid (∀ a, a < n → tab (legsM (mtM false) A) a a = none) := fun a _ => tab_loop _ _ a
  have HS := hide (rin_start w n a m c A h)
  have HGR := hide (fun (w' : World) (h' : ArcsAt w' a m A) => graph_good n a m c A false w' h' hc hm he)
  obtain ⟨Q, hQ⟩ : ∃ Q, n * n = Q := ⟨_, rfl⟩
  have HQ := hide hQ
  have hQb : Q ≤ 1024 := by rw [← hQ]; exact (mul_wrap hn.2 hn.2).2
  have HQ0 : Hid (0 < n * n) := Nat.mul_pos (by omega) (by omega)
  clear h hc he hn0 hok hQ
  generalize tab (legsM (mtM false) A) = W at HWO HGR HLP
  have HL1 : Hid ((cellsM n W).length = Q) := (cellsM_len n W).trans HQ.out
  have HL2 : Hid ((cellsM n (least n W)).length = Q) := (cellsM_len n (least n W)).trans HQ.out
  go_enter Try.func9, Try.ntmps9
  go_wp2_with (first
    | (go_at_call 25; refine (awakeL_any _).mono ?_; rintro e w1 ⟨rfl, h1⟩; have H1 := hide (HS.out.later h1); have c0 := H1.out.c0; have c1 := H1.out.c1; clear h1)
    | (go_at_call 20; refine (HGR.out _ H1.out.arcs).mono ?_; rintro e w2 ⟨g, vt, vl, rfl, h2, h3, h4, h5⟩; obtain ⟨tg, tc, rfl, _⟩ := h3.form (by rw [cellsM_len]; exact HQ0.out); obtain ⟨lg, lc, rfl, _⟩ := h4.form (by rw [cellsM_len]; exact HQ0.out); rw [HL1.out] at h3 ⊢; rw [HL2.out] at h4 ⊢; have H3 := hide (g3_mk (H1.out.later h5) h2 h3 h4 HQ.out); clear h2 h3 h4 h5)
    | (go_at_call 26; refine (build_any H3.out.gr HN.out HWO.out HLP.out).mono ?_; rintro e w3 ⟨bb, rfl, K, rk, Q9, rv, h1, h2, _, h4⟩; have HBD := hide h1; have H4 : Hid (L7 w.heap.size w n a m c A g W w2.heap.size tg tc lg lc Q bb rv (upM K rk) (dnM K rk) w3) := ⟨H3.out.later h4, h2⟩; clear h1 h2 h4)
    | (go_at_call 31; refine (llinks_any H4.out.lf HN.out.2).mono ?_; rintro e w4 ⟨v4, rfl, h1, h2⟩; have H5 : Hid (L7 w.heap.size w n a m c A g W w2.heap.size tg tc lg lc Q bb rv (upM K rk) (dnM K rk) w4 ∧ LRow w4 w3.heap.size v4 (linksL n (upM K rk) (dnM K rk) n)) := ⟨H4.out.later h2, h1⟩; obtain ⟨va4, vc4, rfl⟩ := h1.shape; clear h1 h2)
    | (go_at_call 26; refine (build_nil _).mono ?_; rintro e w1 ⟨rfl, hw⟩; rw [hw]; clear hw)
    | (go_at_call 27; refine (lplaces_nil _).mono ?_; rintro e w1 ⟨rfl, hw⟩; rw [hw]; clear hw)
    | (go_at_call 28; refine (lrank_nil z _).mono ?_; rintro e w1 ⟨rfl, hw⟩; rw [hw]; clear hw)
    | (go_at_call 29; refine (lup_nil z _).mono ?_; rintro e w1 ⟨rfl, hw⟩; rw [hw]; clear hw)
    | (go_at_call 30; refine (ldown_nil z _).mono ?_; rintro e w1 ⟨rfl, hw⟩; rw [hw]; clear hw)
    | (go_at_call 31; refine (llinks_nil _).mono ?_; rintro e w1 ⟨rfl, hw⟩; rw [hw]; clear hw))
  obtain ⟨b1, hb1⟩ : ∃ b, w2.heap.size = b := ⟨_, rfl⟩
  rw [hb1] at H5
  try rw [hb1]
  clear H1 H3 H4 hb1 c0 c1
  obtain ⟨L, hL⟩ : ∃ L, linksL n (upM K rk) (dnM K rk) n = L := ⟨_, rfl⟩
  have HLQ := hide hL
  have hll : L.length ≤ 2048 := by
    rw [← hL]
    have h1 := linksL_len n (upM K rk) (dnM K rk) n
    have h2 := Nat.mul_le_mul (show n ≤ 32 by omega) (show n + n ≤ 64 by omega)
    omega
  rw [hL] at H5 ⊢
  clear hL
  obtain ⟨g0, hg0⟩ : ∃ g0, Hid (Ow w.heap.size w n (b1 + 1) lg lc Q bb rv (upM K rk) (dnM K rk) g0 L w4 ∧ (0 < L.length → va4 = some ⟨g0, 0, none⟩) ∧ g0 < w4.heap.size) := by
    by_cases hz : 0 < L.length
    · obtain ⟨g0, c1, hv, _, hlt, _⟩ := H5.out.2.form hz
      have hr := H5.out.2
      injection hv with e1 e2 e3
      subst e1 e3
      exact ⟨g0, ⟨H5.out.1.l8 H5.out.1.below.size, lks_of_row hr⟩, fun _ => rfl, hlt⟩
    · have e : L.length = 0 := by omega
      exact ⟨b1 + 1, ⟨H5.out.1.l8 H5.out.1.below.size, fun j _ hj => by omega⟩, fun h => absurd h hz, (Array.getElem?_eq_some_iff.1 H5.out.1.g3.ml.box).1⟩
  have HG0 := hide hg0.out.2.1
  have HS : Hid (Ow w.heap.size w n (b1 + 1) lg lc Q bb rv (upM K rk) (dnM K rk) g0 L w4 ∧ g0 < w4.heap.size) := ⟨hg0.out.1, hg0.out.2.2⟩
  clear H5 hg0
  go_wp2
  go_loopw [12] (fun vi wr => ∃ p : Nat, vi = .int .i64 p ∧ p ≤ n ∧ Hid (Ow w.heap.size w n (b1 + 1) lg lc Q bb rv (upM K rk) (dnM K rk) g0 L wr ∧ g0 < wr.heap.size)) (fun vi _ => n - (intOf vi).toNat)
  case atStart => exact ⟨0, rfl, Nat.zero_le _, HS.out⟩
  case round =>
    clear HS
    obtain ⟨p, rfl, hp, HR⟩ := hrel
    have x0 := HR.out.1.l8.c0
    by_cases hpn : p < n
    · have i1 : (p : Int) < (n : Int) := by omega
      have HPN := hide hpn
      have HUL := hide (upL_len n (upM K rk) p)
      have HDL := hide (dnL_len n (dnM K rk) p)
      go_wp2_with (first
        | (go_at_call 29; refine (lup_any HR.out.1.l8.lf HN.out.2 HPN.out).mono ?_; rintro e w6 ⟨v6, rfl, h1, h2⟩; have HA1 := hide (HR.out.1.later h2); have HRW := hide h1; obtain ⟨va6, vc6, rfl⟩ := h1.shape; have hs6 := h2.size; clear h1 h2)
        | (go_at_call 30; refine (ldown_any HA1.out.l8.lf HN.out.2 HPN.out).mono ?_; rintro e w7 ⟨v7, rfl, h1, h2⟩; have HA2 : Hid (Ow w.heap.size w n (b1 + 1) lg lc Q bb rv (upM K rk) (dnM K rk) g0 L w7) := HA1.out.later h2; have HRW2 : Hid (LRow w7 wr.heap.size (.slice va6 (upL n (upM K rk) p).length vc6) (upL n (upM K rk) p) ∧ LRow w7 w6.heap.size v7 (dnL n (dnM K rk) p)) := ⟨HRW.out.later (Nat.le_refl _) h2, h1⟩; obtain ⟨va7, vc7, rfl⟩ := h1.shape; have HSZ : Hid (wr.heap.size ≤ w6.heap.size ∧ w6.heap.size ≤ w7.heap.size) := ⟨hs6, h2.size⟩; clear h1 h2))
      obtain ⟨lu, hlu⟩ : ∃ lu, (upL n (upM K rk) p).length = lu := ⟨_, rfl⟩
      obtain ⟨ld, hld⟩ : ∃ ld, (dnL n (dnM K rk) p).length = ld := ⟨_, rfl⟩
      have hg6 : g0 < wr.heap.size := HR.out.2
      have hB6 : w.heap.size ≤ wr.heap.size := HR.out.1.l8.wB
      have HS3 : Hid (Ow w.heap.size w n (b1 + 1) lg lc Q bb rv (upM K rk) (dnM K rk) g0 L w7 ∧ Rw7 w.heap.size g0 w7 va6 lu ∧ Rw7 w.heap.size g0 w7 va7 ld ∧ g0 < w7.heap.size) := by
        have h7 := HA2.out.l8.wB
        refine ⟨HA2.out, hlu ▸ rw7_row HRW2.out.1 hB6 hg6, hld ▸ rw7_row HRW2.out.2 (by omega) (by omega), ?_⟩
        have := HSZ.out
        omega
      rw [hlu, hld]
      have hlu2 : lu ≤ n := by rw [← hlu]; exact HUL.out
      have hld2 : ld ≤ n := by rw [← hld]; exact HDL.out
      clear hlu hld hg6 hB6 HA1 HA2 HRW HRW2 HR hs6 HUL HDL x0
      go_loopw [83] (fun vi wr => ∃ i : Nat, vi = .int .i64 i ∧ i ≤ lu ∧ Hid (Ow w.heap.size w n (b1 + 1) lg lc Q bb rv (upM K rk) (dnM K rk) g0 L wr ∧ Rw7 w.heap.size g0 wr va6 lu ∧ Rw7 w.heap.size g0 wr va7 ld ∧ g0 < wr.heap.size)) (fun vi _ => lu - (intOf vi).toNat)
      case atStart => exact ⟨0, rfl, Nat.zero_le _, HS3.out⟩
      case round =>
        clear HS3
        obtain ⟨i, rfl, hi, HR⟩ := hrel
        by_cases hil : i < lu
        · obtain ⟨g1, hva, hb, hB1, hg1⟩ := HR.out.2.1 (by omega)
          obtain ⟨⟨u0, c0⟩, f0⟩ := hb.cell (j := i * 4) (by omega)
          obtain ⟨⟨u1, c1⟩, f1⟩ := hb.cell (j := i * 4 + 1) (by omega)
          obtain ⟨⟨u2, c2⟩, f2⟩ := hb.cell (j := i * 4 + 2) (by omega)
          obtain ⟨⟨u3, c3⟩, f3⟩ := hb.cell (j := i * 4 + 3) (by omega)
          have i3 : (i : Int) < (lu : Int) := by omega
          have HE : Hid (∀ v0 v1 v2 v3, Ow w.heap.size w n (b1 + 1) lg lc Q bb rv (upM K rk) (dnM K rk) g0 L ((((wr.setCell ⟨g1, i * 4, none⟩ v0).setCell ⟨g1, i * 4 + 1, none⟩ v1).setCell ⟨g1, i * 4 + 2, none⟩ v2).setCell ⟨g1, i * 4 + 3, none⟩ v3) ∧ Rw7 w.heap.size g0 ((((wr.setCell ⟨g1, i * 4, none⟩ v0).setCell ⟨g1, i * 4 + 1, none⟩ v1).setCell ⟨g1, i * 4 + 2, none⟩ v2).setCell ⟨g1, i * 4 + 3, none⟩ v3) va6 lu ∧ Rw7 w.heap.size g0 ((((wr.setCell ⟨g1, i * 4, none⟩ v0).setCell ⟨g1, i * 4 + 1, none⟩ v1).setCell ⟨g1, i * 4 + 2, none⟩ v2).setCell ⟨g1, i * 4 + 3, none⟩ v3) va7 ld ∧ g0 < ((((wr.setCell ⟨g1, i * 4, none⟩ v0).setCell ⟨g1, i * 4 + 1, none⟩ v1).setCell ⟨g1, i * 4 + 2, none⟩ v2).setCell ⟨g1, i * 4 + 3, none⟩ v3).heap.size) := fun v0 v1 v2 v3 => ⟨(HR.out.1.put4 hb (by omega) hB1 i v0 v1 v2 v3).1, HR.out.2.1.put4 v0 v1 v2 v3, HR.out.2.2.1.put4 v0 v1 v2 v3, by simpa [World.setCell] using HR.out.2.2.2⟩
          try rw [hva]
          try rw [hva] at HE
          clear HR hb hB1 hg1 hva
          go_wp2
          go_roundw
          case rel => exact ⟨i + 1, by go_num, by omega, HE.out _ _ _ _⟩
          case measure => simp [intOf]; omega
        · have i3 : ¬ (i : Int) < (lu : Int) := by omega
          have HS3 := HR
          go_wp2
          clear HR
          go_loopw [93] (fun vi wr => ∃ i : Nat, vi = .int .i64 i ∧ i ≤ ld ∧ Hid (Ow w.heap.size w n (b1 + 1) lg lc Q bb rv (upM K rk) (dnM K rk) g0 L wr ∧ Rw7 w.heap.size g0 wr va6 lu ∧ Rw7 w.heap.size g0 wr va7 ld ∧ g0 < wr.heap.size)) (fun vi _ => ld - (intOf vi).toNat)
          case atStart => exact ⟨0, rfl, Nat.zero_le _, HS3.out⟩
          case round =>
            clear HS3
            obtain ⟨i, rfl, hi, HR⟩ := hrel
            by_cases hil : i < ld
            · obtain ⟨g1, hva, hb, hB1, hg1⟩ := HR.out.2.2.1 (by omega)
              obtain ⟨⟨u0, c0⟩, f0⟩ := hb.cell (j := i * 4) (by omega)
              obtain ⟨⟨u1, c1⟩, f1⟩ := hb.cell (j := i * 4 + 1) (by omega)
              obtain ⟨⟨u2, c2⟩, f2⟩ := hb.cell (j := i * 4 + 2) (by omega)
              obtain ⟨⟨u3, c3⟩, f3⟩ := hb.cell (j := i * 4 + 3) (by omega)
              have i3 : (i : Int) < (ld : Int) := by omega
              have HE : Hid (∀ v0 v1 v2 v3, Ow w.heap.size w n (b1 + 1) lg lc Q bb rv (upM K rk) (dnM K rk) g0 L ((((wr.setCell ⟨g1, i * 4, none⟩ v0).setCell ⟨g1, i * 4 + 1, none⟩ v1).setCell ⟨g1, i * 4 + 2, none⟩ v2).setCell ⟨g1, i * 4 + 3, none⟩ v3) ∧ Rw7 w.heap.size g0 ((((wr.setCell ⟨g1, i * 4, none⟩ v0).setCell ⟨g1, i * 4 + 1, none⟩ v1).setCell ⟨g1, i * 4 + 2, none⟩ v2).setCell ⟨g1, i * 4 + 3, none⟩ v3) va6 lu ∧ Rw7 w.heap.size g0 ((((wr.setCell ⟨g1, i * 4, none⟩ v0).setCell ⟨g1, i * 4 + 1, none⟩ v1).setCell ⟨g1, i * 4 + 2, none⟩ v2).setCell ⟨g1, i * 4 + 3, none⟩ v3) va7 ld ∧ g0 < ((((wr.setCell ⟨g1, i * 4, none⟩ v0).setCell ⟨g1, i * 4 + 1, none⟩ v1).setCell ⟨g1, i * 4 + 2, none⟩ v2).setCell ⟨g1, i * 4 + 3, none⟩ v3).heap.size) := fun v0 v1 v2 v3 => ⟨(HR.out.1.put4 hb (by omega) hB1 i v0 v1 v2 v3).1, HR.out.2.1.put4 v0 v1 v2 v3, HR.out.2.2.1.put4 v0 v1 v2 v3, by simpa [World.setCell] using HR.out.2.2.2⟩
              try rw [hva]
              try rw [hva] at HE
              clear HR hb hB1 hg1 hva
              go_wp2
              go_roundw
              case rel => exact ⟨i + 1, by go_num, by omega, HE.out _ _ _ _⟩
              case measure => simp [intOf]; omega
            · have i3 : ¬ (i : Int) < (ld : Int) := by omega
              go_wp2
              go_roundw
              case rel => exact ⟨p + 1, by go_num, by have := HPN.out; omega, HR.out.1, HR.out.2.2.2⟩
              case measure => have := HPN.out; simp [intOf]; omega
    · have i1 : ¬ (p : Int) < (n : Int) := by omega
      go_wp2_with (go_at_call 31; refine (llinks_any HR.out.1.l8.lf HN.out.2).mono ?_; rintro e w6 ⟨v6, rfl, h1, h2⟩; rw [HLQ.out] at h1; obtain ⟨va6, vc6, rfl⟩ := h1.shape; have HA1 : Hid (Ow w.heap.size w n (b1 + 1) lg lc Q bb rv (upM K rk) (dnM K rk) g0 L w6 ∧ LRow w6 wr.heap.size (.slice va6 L.length vc6) L ∧ g0 < w6.heap.size) := ⟨HR.out.1.later h2, h1, Nat.lt_of_lt_of_le HR.out.2 h2.size⟩; clear h1 h2)
      have HS3 : Hid (Ow w.heap.size w n (b1 + 1) lg lc Q bb rv (upM K rk) (dnM K rk) g0 L w6 ∧ Rv7 w.heap.size g0 w6 va6 L 0 ∧ g0 < w6.heap.size) := ⟨HA1.out.1, rv7_row HA1.out.2.1 HR.out.1.l8.wB HR.out.2, HA1.out.2.2⟩
      clear HA1 HR x0
      go_loopw [105] (fun vi wr => ∃ i : Nat, vi = .int .i64 i ∧ i ≤ L.length ∧ Hid (Ow w.heap.size w n (b1 + 1) lg lc Q bb rv (upM K rk) (dnM K rk) g0 L wr ∧ Rv7 w.heap.size g0 wr va6 L i ∧ g0 < wr.heap.size)) (fun vi _ => L.length - (intOf vi).toNat)
      case atStart => exact ⟨0, rfl, Nat.zero_le _, HS3.out⟩
      case round =>
        clear HS3
        obtain ⟨i, rfl, hi, HR⟩ := hrel
        by_cases hil : i < L.length
        · obtain ⟨g1, hva, hb, hB1, hg1, hlk⟩ := HR.out.2.1 (by omega)
          have hva4 := HG0.out (by omega)
          subst hva hva4
          obtain ⟨y0, y1, y2, y3⟩ := hlk i (Nat.le_refl _) hil
          obtain ⟨u0, u1, u2, u3⟩ := HR.out.1.ls i (Nat.zero_le _) hil
          obtain ⟨k, hk⟩ : ∃ k, L[i]! = k := ⟨_, rfl⟩
          rw [hk] at y0 y1 y2 y3 u0 u1 u2 u3
          obtain ⟨k1, k2, k3, k4⟩ := k
          simp only at y0 y1 y2 y3 u0 u1 u2 u3
          have i3 : (i : Int) < (L.length : Int) := by omega
          have z1 : ((k1 : Int) == (k1 : Int)) = true := by simp
          have z2 : ((k2 : Int) == (k2 : Int)) = true := by simp
          have z3 : (k3 == k3) = true := by simp
          have z4 : (k4 == k4) = true := by simp
          have HB := hide hb
          have HK := hide hlk
          have HGB := hide (And.intro hB1 hg1)
          clear hb hlk hk hB1 hg1
          go_wp2
          go_quiet (fail)
          have HE : Hid (∀ v0 v1 v2 v3, Ow w.heap.size w n (b1 + 1) lg lc Q bb rv (upM K rk) (dnM K rk) g0 L (((((wr.drewN nq).setCell ⟨g1, i * 4, none⟩ v0).setCell ⟨g1, i * 4 + 1, none⟩ v1).setCell ⟨g1, i * 4 + 2, none⟩ v2).setCell ⟨g1, i * 4 + 3, none⟩ v3) ∧ Rv7 w.heap.size g0 (((((wr.drewN nq).setCell ⟨g1, i * 4, none⟩ v0).setCell ⟨g1, i * 4 + 1, none⟩ v1).setCell ⟨g1, i * 4 + 2, none⟩ v2).setCell ⟨g1, i * 4 + 3, none⟩ v3) (some ⟨g1, 0, none⟩) L (i + 1) ∧ g0 < (((((wr.drewN nq).setCell ⟨g1, i * 4, none⟩ v0).setCell ⟨g1, i * 4 + 1, none⟩ v1).setCell ⟨g1, i * 4 + 2, none⟩ v2).setCell ⟨g1, i * 4 + 3, none⟩ v3).heap.size) := fun v0 v1 v2 v3 => by
            have hd := Qu.below_drewN (Below.refl wr.heap.size wr) nq
            have h4 := (HR.out.1.drewN nq).put4 (HB.out.later hd) (Nat.ne_of_lt HGB.out.2) HGB.out.1 i v0 v1 v2 v3
            refine ⟨h4.1, fun _ => ⟨g1, rfl, h4.2, HGB.out.1, HGB.out.2, (HK.out.drewN nq).next v0 v1 v2 v3⟩, ?_⟩
            have := HR.out.2.2
            simpa [World.setCell, Qu.drewN_heap] using this
          have hbd := HB.out.later (Qu.below_drewN (Below.refl wr.heap.size wr) nq)
          generalize wr.drewN nq = W9 at HE hbd ⊢
          obtain ⟨⟨t0, c0⟩, f0⟩ := hbd.cell (j := i * 4) (by omega)
          obtain ⟨⟨t1, c1⟩, f1⟩ := hbd.cell (j := i * 4 + 1) (by omega)
          obtain ⟨⟨t2, c2⟩, f2⟩ := hbd.cell (j := i * 4 + 2) (by omega)
          obtain ⟨⟨t3, c3⟩, f3⟩ := hbd.cell (j := i * 4 + 3) (by omega)
          clear HR hbd HB HK y0 y1 y2 y3 u0 u1 u2 u3
          go_wp2
          go_roundw
          case rel => exact ⟨i + 1, by go_num, by omega, HE.out _ _ _ _⟩
          case measure => simp [intOf]; omega
        · have i3 : ¬ (i : Int) < (L.length : Int) := by omega
          go_wp2_with (go_at_call 31; refine (llinks_any HR.out.1.l8.lf HN.out.2).mono ?_; rintro e w7 ⟨v7, rfl, h1, h2⟩; rw [HLQ.out] at h1; obtain ⟨va7, vc7, rfl⟩ := h1.shape; have HA1 : Hid (Ow w.heap.size w n (b1 + 1) lg lc Q bb rv (upM K rk) (dnM K rk) g0 L w7 ∧ Rv7 w.heap.size g0 w7 va7 L 0) := ⟨HR.out.1.later h2, rv7_row h1 HR.out.1.l8.wB HR.out.2.2⟩; clear h1 h2)
          clear HR
          go_loopw [126] (fun vi wr => ∃ i : Nat, vi = .int .i64 i ∧ i ≤ L.length ∧ Hid (Ow w.heap.size w n (b1 + 1) lg lc Q bb rv (upM K rk) (dnM K rk) g0 L wr ∧ Rv7 w.heap.size g0 wr va7 L 0)) (fun vi _ => L.length - (intOf vi).toNat)
          case atStart => exact ⟨0, rfl, Nat.zero_le _, HA1.out⟩
          case round =>
            clear HA1
            obtain ⟨j, rfl, hj, HR⟩ := hrel
            by_cases hjl : j < L.length
            · obtain ⟨g1, hva, hb, hB1, hg1, hlk⟩ := HR.out.2 (by omega)
              have hva4 := HG0.out (by omega)
              subst hva hva4
              obtain ⟨y0, y1, y2, y3⟩ := hlk j (Nat.zero_le _) hjl
              obtain ⟨u0, u1, u2, u3⟩ := HR.out.1.ls j (Nat.zero_le _) hjl
              obtain ⟨k, hk⟩ : ∃ k, L[j]! = k := ⟨_, rfl⟩
              rw [hk] at y0 y1 y2 y3 u0 u1 u2 u3
              obtain ⟨k1, k2, k3, k4⟩ := k
              simp only at y0 y1 y2 y3 u0 u1 u2 u3
              have i4 : (j : Int) < (L.length : Int) := by omega
              have z1 : ((k1 : Int) == (k1 : Int)) = true := by simp
              have z2 : ((k2 : Int) == (k2 : Int)) = true := by simp
              have z3 : (k3 == k3) = true := by simp
              have z4 : (k4 == k4) = true := by simp
              clear hb hlk hk hB1 hg1
              go_wp2
              go_quiet (fail)
              go_wp2
              go_roundw
              case rel => exact ⟨j + 1, by go_num, by omega, HR.out.1.drewN nq, HR.out.2.later (Qu.below_drewN (Below.refl _ _) nq)⟩
              case measure => simp [intOf]; omega
            · have i4 : ¬ (j : Int) < (L.length : Int) := by omega
              have z1 : ((L.length : Int) == (L.length : Int)) = true := by simp
              go_wp2
              go_ret
              exact ⟨rfl, HR.out.1.l8.below⟩
theorem own7_any (n : Int) (a : Option Addr) (m c : Nat) (A : List Arc) (z : Int) (w : World) (h : ArcsAt w a m A) (hc : a = none → c = 0) :
    Calls Try.prog 9 #[.agg #[.int .i64 n, .slice a m c], .int .i64 z] w fun e w' => e = .returned (.bool true) ∧ Below w.heap.size w w' := by
  by_cases hm : 300 < m
  · exact own7_bad n a m c A z w h hc (.inl hm)
  · by_cases he : (checkM n A).2 = 0
    · obtain ⟨hn, _⟩ := checkM_ok he
      obtain ⟨k, rfl⟩ : ∃ k : Nat, n = (k : Int) := ⟨n.toNat, by omega⟩
      exact own7_good k a m c A z w h hc (by omega) he
    · exact own7_bad n a m c A z w h hc (.inr ⟨by omega, he⟩)
end Go.Proofs.Ytlflbjnglmbdeaa
