/-
  What the calls of cmp.Compare, of the closure of Tasks, and of slices.SortStableFunc over few tasks do.
-/
import Derived.Test.YtgjpkpmikbpcnaaRowT
import Derived.Deep.RegionHeld3
namespace Go.Proofs.Ytgjpkpmikbpcnaa
open Go.RowKit

theorem nan_any (x : Int) (w : World) : Calls Try.prog 87 #[.int .i64 x] w fun e w' => e = .returned (.bool false) ∧ w' = w := by
  have z : (x != x) = false := by simp
  go_enter Try.func87, Try.ntmps87
  go_wp2
  go_ret
  exact ⟨rfl, rfl⟩
def cmpM (x y : Int) : Int := if x < y then -1 else if y < x then 1 else 0
set_option maxHeartbeats 800000 in
theorem cmp_any (x y : Int) (w : World) : Calls Try.prog 57 #[.int .i64 x, .int .i64 y] w fun e w' => e = .returned (.int .i64 (cmpM x y)) ∧ w' = w := by
  unfold cmpM
  by_cases h1 : x < y
  · rw [if_pos h1]
    go_enter Try.func57, Try.ntmps57
    go_wp2_with (go_at_call 87; refine (nan_any _ _).mono ?_; rintro e w' ⟨rfl, rfl⟩)
    go_ret
    exact ⟨rfl, rfl⟩
  · rw [if_neg h1]
    by_cases h2 : y < x
    · rw [if_pos h2]
      go_enter Try.func57, Try.ntmps57
      go_wp2_with (go_at_call 87; refine (nan_any _ _).mono ?_; rintro e w' ⟨rfl, rfl⟩)
      go_ret
      exact ⟨rfl, rfl⟩
    · rw [if_neg h2]
      go_enter Try.func57, Try.ntmps57
      go_wp2_with (go_at_call 87; refine (nan_any _ _).mono ?_; rintro e w' ⟨rfl, rfl⟩)
      go_ret
      exact ⟨rfl, rfl⟩
/-- A problem in a box. -/
def BoxP (w : World) (bx : Nat) (p : Prb) (x : PrbS) : Prop := ∀ j, j < 8 → w.cell? ⟨bx, j, none⟩ = (prbE p x)[j]?
theorem BoxP.on {w w' : World} {bx B : Nat} {p : Prb} {x : PrbS} (h : BoxP w bx p x) (hb : bx < B) (f : Below B w w') : BoxP w' bx p x := fun j hj => (f.cell (p := ⟨bx, j, none⟩) hb).trans (h j hj)
set_option maxRecDepth 100000 in
set_option maxHeartbeats 3200000 in
theorem clo_any {w : World} {bx : Nat} {x : PrbS} {p : Prb} (h : PrbV w x p) (hb : BoxP w bx p x) (s1 s2 : Bool) (i1 i2 : Int) :
    Calls Try.prog 56 #[.agg #[.bool s1, .int .i64 i1], .agg #[.bool s2, .int .i64 i2], .pointer (some ⟨bx, 0, none⟩)] w fun e w' => e = .returned (.int .i64 (cmpM (prioM p (s2, i2)) (prioM p (s1, i1)))) ∧ Below w.heap.size w w' := by
  obtain ⟨ta, tc, da, dc, va, vc, ja, jc, sa, sc, rfl⟩ := h.open
  have HP := hide h
  have HB0 : Hid (∀ A B, Below w.heap.size w ((w.alloc A).alloc B)) := fun A B => ((Below.refl _ _).alloc (Nat.le_refl _) A).alloc (by simp) B
  have g0 : w.cell? ⟨bx, 0, none⟩ = some (.int .i64 p.dims) := hb 0 (by decide)
  have g1 : w.cell? ⟨bx, 1, none⟩ = some (.int .i64 p.time.n) := hb 1 (by decide)
  have g2 : w.cell? ⟨bx, 2, none⟩ = some (.slice ta p.time.cells.length tc) := hb 2 (by decide)
  have g3 : w.cell? ⟨bx, 3, none⟩ = some (.int .i64 p.dist.n) := hb 3 (by decide)
  have g4 : w.cell? ⟨bx, 4, none⟩ = some (.slice da p.dist.cells.length dc) := hb 4 (by decide)
  have g5 : w.cell? ⟨bx, 5, none⟩ = some (.slice va p.vs.length vc) := hb 5 (by decide)
  have g6 : w.cell? ⟨bx, 6, none⟩ = some (.slice ja p.js.length jc) := hb 6 (by decide)
  have g7 : w.cell? ⟨bx, 7, none⟩ = some (.slice sa p.ss.length sc) := hb 7 (by decide)
  have hbl : bx < w.heap.size := block_lt_of_cell g0
  have hne : ¬ bx = w.heap.size := by omega
  have hne2 : ¬ bx = w.heap.size + 1 := by omega
  clear h hb
  obtain ⟨y1, hy1⟩ : ∃ y, prioM p (s1, i1) = y := ⟨_, rfl⟩
  obtain ⟨y2, hy2⟩ : ∃ y, prioM p (s2, i2) = y := ⟨_, rfl⟩
  have HY1 := hide hy1
  have HY2 := hide hy2
  rw [hy1, hy2]
  clear hy1 hy2
  have HPE : Hid (prbE p ⟨.slice ta p.time.cells.length tc, .slice da p.dist.cells.length dc, .slice va p.vs.length vc, .slice ja p.js.length jc, .slice sa p.ss.length sc⟩ = #[.int .i64 p.dims, .int .i64 p.time.n, .slice ta p.time.cells.length tc, .int .i64 p.dist.n, .slice da p.dist.cells.length dc, .slice va p.vs.length vc, .slice ja p.js.length jc, .slice sa p.ss.length sc]) := rfl
  go_enter Try.func56, Try.ntmps56
  go_wp2
  obtain ⟨W, hW⟩ : ∃ W, W = (w.alloc (.cells #[.bool s1, .int .i64 i1] 31)).alloc (.cells #[.bool s2, .int .i64 i2] 31) := ⟨_, rfl⟩
  have HBW : Hid (Below w.heap.size w W) := by rw [hW]; exact HB0.out _ _
  have hsz : W.heap.size = w.heap.size + 2 := by rw [hW]; simp
  have r0 : W.cell? ⟨bx, 0, none⟩ = some (.int .i64 p.dims) := ((bcell HBW.out).1 bx 0 hbl).trans g0
  have r1 : W.cell? ⟨bx, 1, none⟩ = some (.int .i64 p.time.n) := ((bcell HBW.out).1 bx 1 hbl).trans g1
  have r2 : W.cell? ⟨bx, 2, none⟩ = some (.slice ta p.time.cells.length tc) := ((bcell HBW.out).1 bx 2 hbl).trans g2
  have r3 : W.cell? ⟨bx, 3, none⟩ = some (.int .i64 p.dist.n) := ((bcell HBW.out).1 bx 3 hbl).trans g3
  have r4 : W.cell? ⟨bx, 4, none⟩ = some (.slice da p.dist.cells.length dc) := ((bcell HBW.out).1 bx 4 hbl).trans g4
  have r5 : W.cell? ⟨bx, 5, none⟩ = some (.slice va p.vs.length vc) := ((bcell HBW.out).1 bx 5 hbl).trans g5
  have r6 : W.cell? ⟨bx, 6, none⟩ = some (.slice ja p.js.length jc) := ((bcell HBW.out).1 bx 6 hbl).trans g6
  have r7 : W.cell? ⟨bx, 7, none⟩ = some (.slice sa p.ss.length sc) := ((bcell HBW.out).1 bx 7 hbl).trans g7
  have r8 : W.cell? ⟨w.heap.size, 0, none⟩ = some (.bool s1) := by rw [hW]; simp [go_sem]
  have r9 : W.cell? ⟨w.heap.size, 1, none⟩ = some (.int .i64 i1) := by rw [hW]; simp [go_sem]
  have r10 : W.cell? ⟨w.heap.size + 1, 0, none⟩ = some (.bool s2) := by rw [hW]; simp [go_sem]
  have r11 : W.cell? ⟨w.heap.size + 1, 1, none⟩ = some (.int .i64 i2) := by rw [hW]; simp [go_sem]
  have HSZ := hide hsz
  have b0 : bx < W.heap.size := by omega
  have b1 : w.heap.size < W.heap.size := by omega
  have b2 : w.heap.size + 1 < W.heap.size := by omega
  clear hsz g0 g1 g2 g3 g4 g5 g6 g7
  rw [← hW]
  clear hW
  go_region_held3 (fun w' => w'.cell? ⟨bx, 0, none⟩ = some (.int .i64 p.dims) ∧ w'.cell? ⟨bx, 1, none⟩ = some (.int .i64 p.time.n) ∧ w'.cell? ⟨bx, 2, none⟩ = some (.slice ta p.time.cells.length tc) ∧ w'.cell? ⟨bx, 3, none⟩ = some (.int .i64 p.dist.n) ∧ w'.cell? ⟨bx, 4, none⟩ = some (.slice da p.dist.cells.length dc) ∧ w'.cell? ⟨bx, 5, none⟩ = some (.slice va p.vs.length vc) ∧ w'.cell? ⟨bx, 6, none⟩ = some (.slice ja p.js.length jc) ∧ w'.cell? ⟨bx, 7, none⟩ = some (.slice sa p.ss.length sc) ∧ w'.cell? ⟨w.heap.size, 0, none⟩ = some (.bool s1) ∧ w'.cell? ⟨w.heap.size, 1, none⟩ = some (.int .i64 i1) ∧ w'.cell? ⟨w.heap.size + 1, 0, none⟩ = some (.bool s2) ∧ w'.cell? ⟨w.heap.size + 1, 1, none⟩ = some (.int .i64 i2)) (go_keep) (first | (go_at_call 57; refine (cmp_any _ _ _).mono ?_; rintro e w' ⟨rfl, rfl⟩) | (go_at_call 28; refine (priority12_any (HP.out.on (below_on HBW.out K1.out)) _ _).mono ?_; rintro e w2 ⟨rfl, k2⟩; rw [HY1.out]; have K2 := hide (below_on K1.out k2); have t20 := (bcell K2.out).1 bx 0 b0; rw [r0] at t20; have t21 := (bcell K2.out).1 bx 1 b0; rw [r1] at t21; have t22 := (bcell K2.out).1 bx 2 b0; rw [r2] at t22; have t23 := (bcell K2.out).1 bx 3 b0; rw [r3] at t23; have t24 := (bcell K2.out).1 bx 4 b0; rw [r4] at t24; have t25 := (bcell K2.out).1 bx 5 b0; rw [r5] at t25; have t26 := (bcell K2.out).1 bx 6 b0; rw [r6] at t26; have t27 := (bcell K2.out).1 bx 7 b0; rw [r7] at t27; have t28 := (bcell K2.out).1 w.heap.size 0 b1; rw [r8] at t28; have t29 := (bcell K2.out).1 w.heap.size 1 b1; rw [r9] at t29; have t210 := (bcell K2.out).1 (w.heap.size + 1) 0 b2; rw [r10] at t210; have t211 := (bcell K2.out).1 (w.heap.size + 1) 1 b2; rw [r11] at t211; clear k2) | (go_at_call 28; refine (priority12_any (HP.out.on (below_on HBW.out ((Below.refl _ _).drew))) _ _).mono ?_; rintro e w1 ⟨rfl, k1⟩; rw [HY2.out]; have K1 := hide (below_on ((Below.refl W.heap.size W).drew) k1); have t10 := (bcell K1.out).1 bx 0 b0; rw [r0] at t10; have t11 := (bcell K1.out).1 bx 1 b0; rw [r1] at t11; have t12 := (bcell K1.out).1 bx 2 b0; rw [r2] at t12; have t13 := (bcell K1.out).1 bx 3 b0; rw [r3] at t13; have t14 := (bcell K1.out).1 bx 4 b0; rw [r4] at t14; have t15 := (bcell K1.out).1 bx 5 b0; rw [r5] at t15; have t16 := (bcell K1.out).1 bx 6 b0; rw [r6] at t16; have t17 := (bcell K1.out).1 bx 7 b0; rw [r7] at t17; have t18 := (bcell K1.out).1 w.heap.size 0 b1; rw [r8] at t18; have t19 := (bcell K1.out).1 w.heap.size 1 b1; rw [r9] at t19; have t110 := (bcell K1.out).1 (w.heap.size + 1) 0 b2; rw [r10] at t110; have t111 := (bcell K1.out).1 (w.heap.size + 1) 1 b2; rw [r11] at t111; clear k1))
  rename_i hHeld
  clear hHeld
  go_wp2
  go_ret
  exact ⟨rfl, below_on HBW.out K2.out⟩
section
variable {α : Type}
/-- x on its way to the left: j of S stand ahead of it. -/
def Cj (S : List α) (x : α) (R : List α) (j : Nat) : List α := S.take j ++ x :: (S.drop j ++ R)
theorem Cj_len (S : List α) (x : α) (R : List α) (j : Nat) : (Cj S x R j).length = S.length + 1 + R.length := by simp [Cj]; omega
theorem Cj_at (S : List α) (x : α) (R : List α) (j : Nat) (h : j ≤ S.length) : (Cj S x R j)[j]? = some x := by
  unfold Cj
  rw [List.getElem?_append_right (by simp [Nat.min_eq_left h])]
  simp [Nat.min_eq_left h]
theorem Cj_ahead (S : List α) (x y : α) (R : List α) (j : Nat) (h : S[j]? = some y) : (Cj S x R (j + 1))[j]? = some y := by
  have hl := (List.getElem?_eq_some_iff.1 h).1
  unfold Cj
  rw [List.getElem?_append_left (by simp; omega), List.getElem?_take, if_pos (by omega), h]
theorem Cj_swap (S : List α) (x y : α) (R : List α) (j : Nat) (h : S[j]? = some y) : ((Cj S x R (j + 1)).set (j + 1) y).set j x = Cj S x R j := by
  obtain ⟨hl, hy⟩ := List.getElem?_eq_some_iff.1 h
  unfold Cj
  have e1 : S.take (j + 1) = S.take j ++ [y] := by rw [List.take_succ_eq_append_getElem hl, hy]
  have e2 : S.drop j = y :: S.drop (j + 1) := by rw [List.drop_eq_getElem_cons hl, hy]
  have e3 : (S.take j).length = j := by simp; omega
  rw [e1, e2, List.append_assoc]
  rw [List.set_append_right _ _ (by rw [e3]; omega), List.set_append_right _ _ (by rw [e3]; omega), e3]
  simp
theorem Cj_start (S : List α) (x : α) (R : List α) : Cj S x R S.length = S ++ x :: R := by simp [Cj]
end
/-- The sort on its way: what lies where. -/
structure SortS (w0 w : World) (base bx : Nat) (p : Prb) (x : PrbS) (v : Value) (wr : World) (C : List Tsk) : Prop where
  row : TRow wr base v C
  low : Below base w wr
  size : base ≤ wr.heap.size
  box : BoxP wr bx p x
  prb : PrbV wr x p
theorem SortS.on {w0 w wr w' : World} {base bx : Nat} {p : Prb} {x : PrbS} {v : Value} {C : List Tsk} (h : SortS w0 w base bx p x v wr C) (hbx : bx < base) (f : Below wr.heap.size wr w') : SortS w0 w base bx p x v w' C :=
  ⟨h.row.later (Nat.le_refl _) f, h.low.trans (f.mono h.size), Nat.le_trans h.size f.size, h.box.on (Nat.lt_of_lt_of_le hbx h.size) f, h.prb.on f⟩
theorem cmp_neg {x y : Int} (h : x < y) : cmpM x y < 0 := by unfold cmpM; rw [if_pos h]; decide
theorem cmp_non {x y : Int} (h : ¬ x < y) : ¬ cmpM x y < 0 := by unfold cmpM; rw [if_neg h]; split <;> decide
theorem isort_snoc (f : Tsk → Int) (L : List Tsk) (i : Nat) (x : Tsk) (h : L[i]? = some x) : isort f (L.take (i + 1)) = insL f x (isort f (L.take i)) := by
  obtain ⟨hl, hx⟩ := List.getElem?_eq_some_iff.1 h
  rw [List.take_succ_eq_append_getElem hl, hx]
  unfold isort
  rw [isortF_app]
  rfl
theorem setCell_below {base : Nat} {w w' : World} (h : Below base w w') {g k : Nat} (hg : base ≤ g) (u : Value) : Below base w (w'.setCell ⟨g, k, none⟩ u) := h.setCell hg u
theorem SortS.swap {w0 w wr : World} {base bx g cap n : Nat} {p : Prb} {x : PrbS} {S R : List Tsk} {y z : Tsk} {j : Nat} (hl : (Cj S y R (j + 1)).length = n) (hbx : bx < base) (h0 : w0.heap.size ≤ base) (hp0 : PrbV w0 x p) (hbl : Below base w0 w) (hz : S[j]? = some z)
    (h : SortS w0 w base bx p x (.slice (some ⟨g, 0, none⟩) n cap) wr (Cj S y R (j + 1))) : SortS w0 w base bx p x (.slice (some ⟨g, 0, none⟩) n cap) ((((wr.setCell ⟨g, (j + 1) * 2, none⟩ (.bool z.1)).setCell ⟨g, (j + 1) * 2 + 1, none⟩ (.int .i64 z.2)).setCell ⟨g, j * 2, none⟩ (.bool y.1)).setCell ⟨g, j * 2 + 1, none⟩ (.int .i64 y.2)) (Cj S y R j) := by
  have hj : j < S.length := (List.getElem?_eq_some_iff.1 hz).1
  have hrow := h.row
  rw [← hl] at hrow
  have hlen := Cj_len S y R (j + 1)
  have r1 := TRow.set hrow (j + 1) z (by omega)
  have e1 : (Cj S y R (j + 1)).length = ((Cj S y R (j + 1)).set (j + 1) z).length := by simp
  rw [e1] at r1
  have r2 := TRow.set r1 j y (by rw [List.length_set]; omega)
  rw [Cj_swap S y z R j hz, ← e1, hl] at r2
  have hg := hrow.lt.1
  have f : Below base wr ((((wr.setCell ⟨g, (j + 1) * 2, none⟩ (.bool z.1)).setCell ⟨g, (j + 1) * 2 + 1, none⟩ (.int .i64 z.2)).setCell ⟨g, j * 2, none⟩ (.bool y.1)).setCell ⟨g, j * 2 + 1, none⟩ (.int .i64 y.2)) :=
    setCell_below (setCell_below (setCell_below (setCell_below (Below.refl _ _) hg _) hg _) hg _) hg _
  exact ⟨r2, h.low.trans f, Nat.le_trans h.size f.size, h.box.on hbx f, hp0.on ((hbl.trans (h.low.trans f)).mono h0)⟩
set_option maxRecDepth 100000 in
set_option maxHeartbeats 6400000 in
theorem insertion_any {w0 w : World} {base bx g cap n : Nat} {p : Prb} {x : PrbS} {L : List Tsk} (hn : L.length = n) (hn2 : n ≤ 12) (hbx : bx < base) (h0 : w0.heap.size ≤ base) (hp0 : PrbV w0 x p) (hbl : Below base w0 w) (h : SortS w0 w base bx p x (.slice (some ⟨g, 0, none⟩) n cap) w L) :
    Calls Try.prog 119 #[.slice (some ⟨g, 0, none⟩) n cap, .int .i64 0, .int .i64 n, .func (.func 56) #[] #[.pointer (some ⟨bx, 0, none⟩)]] w fun e w' => e = .returned (.tuple #[]) ∧ SortS w0 w base bx p x (.slice (some ⟨g, 0, none⟩) n cap) w' (isort (prioM p) L) := by
  have H0 := hide h
  have HN := hide hn
  have HBX := hide hbx
  have HP0 := hide hp0
  have HH0 := hide h0
  have HBL := hide hbl
  clear h hn hbx hp0 h0 hbl
  go_enter Try.func119, Try.ntmps119
  go_wp2
  go_loopw [8] (fun vi wr => ∃ i : Nat, vi = .int .i64 i ∧ 1 ≤ i ∧ i ≤ n + 1 ∧ Hid (SortS w0 w base bx p x (.slice (some ⟨g, 0, none⟩) n cap) wr (isort (prioM p) (L.take i) ++ L.drop i))) (fun vi _ => n + 1 - (intOf vi).toNat)
  case atStart =>
    refine ⟨1, rfl, by omega, by omega, ?_⟩
    have e : isort (prioM p) (L.take 1) ++ L.drop 1 = L := by
      rcases L with _ | ⟨a, L⟩
      · rfl
      · rfl
    show SortS _ _ _ _ _ _ _ _ _
    rw [e]
    exact H0.out
  case round =>
    clear H0
    obtain ⟨i, rfl, hi1, hi, HR⟩ := hrel
    by_cases hlt : i < n
    · have i3 : (i : Int) < (n : Int) := by omega
      obtain ⟨y, hy⟩ : ∃ y, L[i]? = some y := ⟨L[i]'(by have := HN.out; omega), List.getElem?_eq_getElem _⟩
      have HY := hide hy
      obtain ⟨S, hS⟩ : ∃ S, isort (prioM p) (L.take i) = S := ⟨_, rfl⟩
      have HS := hide hS
      have HSL : Hid (S.length = i) := by show _ = _; rw [← hS, isort_len, List.length_take]; have := HN.out; omega
      have HSS : Hid (Srt (prioM p) S) := by show Srt _ _; rw [← hS]; exact isort_srt _ _
      have HD : Hid (L.drop i = y :: L.drop (i + 1)) := by
        show _ = _
        obtain ⟨hl, e⟩ := List.getElem?_eq_some_iff.1 hy
        rw [List.drop_eq_getElem_cons hl, e]
      rw [hS, HD.out] at HR
      clear hS hy
      go_wp2
      go_loopw [9] (fun vj wr => ∃ j : Nat, vj = .int .i64 j ∧ j ≤ i ∧ Hid (SortS w0 w base bx p x (.slice (some ⟨g, 0, none⟩) n cap) wr (Cj S y (L.drop (i + 1)) j) ∧ ∀ b ∈ S.drop j, prioM p b < prioM p y)) (fun vj _ => (intOf vj).toNat)
      case atStart =>
        refine ⟨i, rfl, Nat.le_refl _, ?_, ?_⟩
        · have := Cj_start S y (L.drop (i + 1))
          rw [HSL.out] at this
          rw [this]
          exact HR.out
        · intro b hb
          rw [List.drop_eq_nil_of_le (by rw [HSL.out]; exact Nat.le_refl _)] at hb
          simp at hb
      case round =>
        clear HR
        obtain ⟨j, rfl, hj, HR⟩ := hrel
        have HCL : Hid ((Cj S y (L.drop (i + 1)) j).length = n) := by show _ = _; rw [Cj_len, HSL.out, List.length_drop]; have := HN.out; omega
        have HFIN : Hid ((∀ a ∈ S.take j, prioM p y ≤ prioM p a) → isort (prioM p) (L.take (i + 1)) ++ L.drop (i + 1) = Cj S y (L.drop (i + 1)) j) := fun h => by
          rw [isort_snoc (prioM p) L i y HY.out, HS.out]
          have := insL_at (prioM p) (A := S.take j) (B := S.drop j) h HR.out.2
          rw [List.take_append_drop] at this
          rw [this]
          simp [Cj]
        rcases j with _ | j
        · have HF : Hid (SortS w0 w base bx p x (.slice (some ⟨g, 0, none⟩) n cap) wr (isort (prioM p) (L.take (i + 1)) ++ L.drop (i + 1))) := by
            show SortS _ _ _ _ _ _ _ _ _
            rw [HFIN.out (fun a ha => by simp at ha)]
            exact HR.out.1
          go_wp2
          go_quiet (fail)
          go_wp2
          go_roundw
          case rel => exact ⟨i + 1, by go_num, by omega, by omega, SortS.on HF.out HBX.out (below_drewN (Below.refl _ _) _)⟩
          case measure => simp [intOf]; omega
        · obtain ⟨z, hz⟩ : ∃ z, S[j]? = some z := ⟨S[j]'(by have := HSL.out; omega), List.getElem?_eq_getElem _⟩
          have HZ := hide hz
          have hrow := HR.out.1.row
          rw [← HCL.out] at hrow
          obtain ⟨c1, c2⟩ := hrow.cells (j + 1) y (Cj_at S y _ (j + 1) (by have := HSL.out; omega))
          obtain ⟨c3, c4⟩ := hrow.cells j z (Cj_ahead S y z _ j hz)
          have fz : ∀ t, wr.frozen? ⟨g, t, none⟩ = false := hrow.frozen
          have hgl : g < wr.heap.size := hrow.lt.2
          have HGB := hide hrow.lt.1
          have HROW := hide hrow
          clear hz hrow
          obtain ⟨cm, hcm⟩ : ∃ c, cmpM (prioM p z) (prioM p y) = c := ⟨_, rfl⟩
          have HCM := hide hcm
          obtain ⟨y1, y2⟩ := y
          obtain ⟨z1, z2⟩ := z
          simp only at c1 c2 c3 c4
          obtain ⟨J, hJ⟩ : ∃ J, j + 1 = J := ⟨_, rfl⟩
          have j1 : (J : Int) < (n : Int) := by omega
          have j2 : (j : Int) < (n : Int) := by omega
          have j0 : (0 : Int) ≤ (j : Int) := by omega
          have j3 : (0 : Int) ≤ (J : Int) := by omega
          have j5 : (0 : Int) < (J : Int) := by omega
          have q5 : decide ((0 : Int) < (J : Int)) = true := decide_eq_true j5
          have j6 : 0 < J := by omega
          have q6 : decide (0 < J) = true := decide_eq_true j6
          have wq : IntKind.i64.wrap ((J : Int) - 1) = (j : Int) := by rw [IntKind.wrap_i64]; omega
          have wq2 : (J : Int) - 1 = (j : Int) := by omega
          have wq3 : IntKind.i64.wrap (j : Int) = (j : Int) := by rw [IntKind.wrap_i64]; omega
          clear wq
          rw [hJ] at c1 c2 ⊢
          have HJ := hide hJ
          clear hJ
          by_cases hc : prioM p (z1, z2) < prioM p (y1, y2)
          · have hm : cm < 0 := by rw [← hcm]; exact cmp_neg hc
            have qm : decide (cm < 0) = true := decide_eq_true hm
            clear hcm
            go_wp2
            first | (go_region_held3 (fun w' => w'.cell? ⟨g, J * 2, none⟩ = some (.bool y1) ∧ w'.cell? ⟨g, J * 2 + 1, none⟩ = some (.int .i64 y2) ∧ w'.cell? ⟨g, j * 2, none⟩ = some (.bool z1) ∧ w'.cell? ⟨g, j * 2 + 1, none⟩ = some (.int .i64 z2)) (go_keep) (first | (go_at_call 56; refine (clo_any (HR.out.1.on HBX.out ((Below.refl _ _).drew)).prb (HR.out.1.on HBX.out ((Below.refl _ _).drew)).box _ _ _ _).mono ?_; rintro e w1 ⟨rfl, k1⟩; have K1 := hide (below_on ((Below.refl wr.heap.size wr).drew) k1); have t1 := (bcell K1.out).1 g (J * 2) hgl; rw [c1] at t1; have t2 := (bcell K1.out).1 g (J * 2 + 1) hgl; rw [c2] at t2; have t3 := (bcell K1.out).1 g (j * 2) hgl; rw [c3] at t3; have t4 := (bcell K1.out).1 g (j * 2 + 1) hgl; rw [c4] at t4; rw [HCM.out]; clear k1))) | fail
            rename_i hHeld
            clear hHeld
            have fz1 : ∀ t, w1.frozen? ⟨g, t, none⟩ = false := fun t => ((bcell K1.out).2 g t hgl).trans (fz t)
            have HST : Hid (SortS w0 w base bx p x (.slice (some ⟨g, 0, none⟩) n cap) ((((w1.setCell ⟨g, J * 2, none⟩ (.bool z1)).setCell ⟨g, J * 2 + 1, none⟩ (.int .i64 z2)).setCell ⟨g, j * 2, none⟩ (.bool y1)).setCell ⟨g, j * 2 + 1, none⟩ (.int .i64 y2)).drew (Cj S (y1, y2) (L.drop (i + 1)) j)) := by
              have h1 := SortS.swap HCL.out HBX.out HH0.out HP0.out HBL.out HZ.out (HR.out.1.on HBX.out K1.out)
              rw [HJ.out] at h1
              exact h1.on HBX.out ((Below.refl _ _).drew)
            have HDR : Hid (∀ b ∈ S.drop j, prioM p b < prioM p (y1, y2)) := fun b hb => by
              obtain ⟨hl, e⟩ := List.getElem?_eq_some_iff.1 HZ.out
              rw [List.drop_eq_getElem_cons hl, e] at hb
              rcases List.mem_cons.1 hb with rfl | hb
              · exact hc
              · exact HR.out.2 b hb
            clear c1 c2 c3 c4 fz HR HFIN HROW
            go_wp2
            go_region
            generalize ((((w1.setCell ⟨g, J * 2, none⟩ (.bool z1)).setCell ⟨g, J * 2 + 1, none⟩ (.int .i64 z2)).setCell ⟨g, j * 2, none⟩ (.bool y1)).setCell ⟨g, j * 2 + 1, none⟩ (.int .i64 y2)).drew = w2 at HST ⊢
            go_wp2
            go_roundw
            case rel => exact ⟨j, by go_num, by have := HJ.out; omega, HST.out, HDR.out⟩
            case measure => simp [intOf]; have := HJ.out; omega
          · have hm : ¬ cm < 0 := by rw [← hcm]; exact cmp_non hc
            have qm : decide (cm < 0) = false := decide_eq_false hm
            clear hcm
            have HF : Hid (SortS w0 w base bx p x (.slice (some ⟨g, 0, none⟩) n cap) wr (isort (prioM p) (L.take (i + 1)) ++ L.drop (i + 1))) := by
              show SortS _ _ _ _ _ _ _ _ _
              rw [HFIN.out (fun a ha => ?_)]
              · exact HR.out.1
              · have hs := HSS.out
                obtain ⟨hl, e⟩ := List.getElem?_eq_some_iff.1 HZ.out
                rw [List.take_succ_eq_append_getElem hl, e] at ha
                rcases List.mem_append.1 ha with ha | ha
                · have h2 : Srt (prioM p) (S.take (j + 1)) := List.Pairwise.sublist (List.take_sublist _ _) hs
                  rw [List.take_succ_eq_append_getElem hl, e] at h2
                  have := (List.pairwise_append.1 h2).2.2 a ha (z1, z2) (by simp)
                  omega
                · simp at ha
                  rw [ha]; omega
            go_wp2
            first | (go_region_held3 (fun w' => w'.cell? ⟨g, J * 2, none⟩ = some (.bool y1) ∧ w'.cell? ⟨g, J * 2 + 1, none⟩ = some (.int .i64 y2) ∧ w'.cell? ⟨g, j * 2, none⟩ = some (.bool z1) ∧ w'.cell? ⟨g, j * 2 + 1, none⟩ = some (.int .i64 z2)) (go_keep) (first | (go_at_call 56; refine (clo_any (HR.out.1.on HBX.out ((Below.refl _ _).drew)).prb (HR.out.1.on HBX.out ((Below.refl _ _).drew)).box _ _ _ _).mono ?_; rintro e w1 ⟨rfl, k1⟩; have K1 := hide (below_on ((Below.refl wr.heap.size wr).drew) k1); have t1 := (bcell K1.out).1 g (J * 2) hgl; rw [c1] at t1; have t2 := (bcell K1.out).1 g (J * 2 + 1) hgl; rw [c2] at t2; have t3 := (bcell K1.out).1 g (j * 2) hgl; rw [c3] at t3; have t4 := (bcell K1.out).1 g (j * 2 + 1) hgl; rw [c4] at t4; rw [HCM.out]; clear k1))) | fail
            rename_i hHeld
            clear hHeld
            go_wp2
            go_roundw
            case rel => exact ⟨i + 1, by go_num, by omega, by omega, SortS.on HF.out HBX.out K1.out⟩
            case measure => simp [intOf]; omega
    · have i3 : ¬ (i : Int) < (n : Int) := by omega
      have HF : Hid (SortS w0 w base bx p x (.slice (some ⟨g, 0, none⟩) n cap) wr (isort (prioM p) L)) := by
        have := HR.out
        rw [List.take_of_length_le (by have := HN.out; omega), List.drop_eq_nil_of_le (by have := HN.out; omega), List.append_nil] at this
        exact this
      go_wp2
      go_end0
      exact ⟨rfl, HF.out⟩
end Go.Proofs.Ytgjpkpmikbpcnaa
