/-
  What the call of the document's Weigh does.
-/
import Derived.Test.YtkgpjhechopfhaaLawM
namespace Go.Proofs.Ytkgpjhechopfhaa
open Go.RowKit Go.Sort

/-- The weight of a list of numbers as places: on from a, with so much behind. -/
def weighF (n : Nat) (W : Nat → Nat → Option Int) (sum a : Int) : List Int → Int
  | [] => sum
  | b :: r => if wt n W a b < 0 then -1 else weighF n W (sum + wt n W a b) b r
def weighZ (n : Nat) (W : Nat → Nat → Option Int) : List Int → Int
  | [] => -1
  | a :: r => if inN n a then weighF n W 0 a r else -1
/-- Whole numbers in memory, wherever. -/
def IntsAt (w : World) (a : Option Addr) (zs : List Int) : Prop := ∀ k, k < zs.length → ∃ b off, a = some ⟨b, off, none⟩ ∧ w.cell? ⟨b, off + k, none⟩ = some (.int .i64 zs[k]!)
theorem IntsAt.later {w w' : World} {a : Option Addr} {zs : List Int} (h : IntsAt w a zs) (f : Below w.heap.size w w') : IntsAt w' a zs := fun k hk => by
  obtain ⟨b, off, e, h1⟩ := h k hk
  exact ⟨b, off, e, (f.cell (p := ⟨b, _, none⟩) (block_lt_of_cell h1)).trans h1⟩
theorem intsAt_row {w : World} {base : Nat} {va : Option Addr} {vm vc : Nat} {zs : List Int} (h : IRow w base (.slice va vm vc) zs) : IntsAt w va zs := fun k hk => by
  rcases h.2 with ⟨_, e2⟩ | ⟨g, cap, cur, e, _⟩
  · omega
  · cases e
    exact ⟨g, 0, rfl, by rw [Nat.zero_add]; exact h.cell k hk⟩
theorem wt_bnd {n : Nat} {W : Nat → Nat → Option Int} (hW : WOk n W) (a b : Int) : -1 ≤ wt n W a b ∧ wt n W a b ≤ 1000000 := by
  unfold wt
  split
  · rename_i h
    cases e : W a.toNat b.toNat with
    | none => simp
    | some x => have := hW _ _ x (by omega) (by omega) e; simp only [Option.getD_some]; omega
  · omega
theorem wt_in {n : Nat} {W : Nat → Nat → Option Int} {a b : Nat} (ha : a < n) (hb : b < n) : wt n W a b = (W a b).getD (-1) := by unfold wt; rw [if_pos (by omega)]; rfl
theorem wt_out {n : Nat} {W : Nat → Nat → Option Int} {a b : Int} (h : ¬ (0 ≤ b ∧ b < n)) : wt n W a b = -1 := by unfold wt; rw [if_neg (by omega)]
theorem weighF_drop (n : Nat) (W : Nat → Nat → Option Int) (s a : Int) (zs : List Int) (k : Nat) (hk : k < zs.length) : weighF n W s a (zs.drop k) = if wt n W a zs[k]! < 0 then -1 else weighF n W (s + wt n W a zs[k]!) zs[k]! (zs.drop (k + 1)) := by
  rw [List.drop_eq_getElem_cons hk, getElem!_pos zs k hk]
  rfl
/-- While Weigh runs. -/
structure WgIn (B : Nat) (w : World) (n tg tc Q : Nat) (W : Nat → Nat → Option Int) (a : Option Addr) (zs : List Int) (wr : World) : Prop where
  below : Below B w wr
  box : MBox wr B n tg tc Q (cellsM n W)
  ints : IntsAt wr a zs
theorem WgIn.drewN {B n tg tc Q : Nat} {w wr : World} {W : Nat → Nat → Option Int} {a : Option Addr} {zs : List Int} (h : WgIn B w n tg tc Q W a zs wr) (q : Nat) : WgIn B w n tg tc Q W a zs (wr.drewN q) := ⟨Qu.below_drewN h.below q, h.box.drewN q, h.ints.later (Qu.below_drewN (Below.refl _ _) q)⟩
set_option maxRecDepth 100000 in
set_option maxHeartbeats 6400000 in
theorem rweigh_box {w : World} {n tg tc Q bx vc : Nat} {W : Nat → Nat → Option Int} {a : Option Addr} {zs : List Int} (hn : 1 ≤ n ∧ n ≤ 32) (hW : WOk n W) (hQ : n * n = Q) (ht : MBox w bx n tg tc Q (cellsM n W)) (hz : IntsAt w a zs) (hl : zs.length ≤ 200) :
    Calls Try.prog 37 #[.agg #[.int .i64 n, .slice (some ⟨tg, 0, none⟩) Q tc], .slice a zs.length vc] w fun e w' => e = .returned (.int .i64 (weighZ n W zs)) ∧ Below w.heap.size w w' := by
  have HN := hide hn
  have HW := hide hW
  have HQ := hide hQ
  have hQb : Q ≤ 1024 := by rw [← hQ]; exact (mul_wrap hn.2 hn.2).2
  have f1 : Below w.heap.size w (w.alloc (.cells #[.int .i64 n, .slice (some ⟨tg, 0, none⟩) Q tc] 41)) := (Below.refl _ _).alloc (Nat.le_refl _) _
  have HS : Hid (WgIn w.heap.size w n tg tc Q W a zs (w.alloc (.cells #[.int .i64 n, .slice (some ⟨tg, 0, none⟩) Q tc] 41))) := ⟨f1, ⟨heap_alloc_new _ _, (ht.later f1).cells⟩, hz.later f1⟩
  obtain ⟨B, hB⟩ : ∃ B, w.heap.size = B := ⟨_, rfl⟩
  have HB := hide hB
  rw [hB] at HS ⊢
  clear ht hz f1 hB hQ hW
  by_cases hz0 : zs = []
  · subst hz0
    have i0 : ((0 : Nat) : Int) = 0 := rfl
    have hz1 : ((0 : Int) == 0) = true := by decide
    go_enter Try.func37, Try.ntmps37
    go_wp2
    try rw [HB.out]
    go_quiet (fail)
    go_wp2
    go_ret
    exact ⟨rfl, Qu.below_drewN HS.out.below nq⟩
  · have hl1 : 1 ≤ zs.length := by rcases zs with _ | ⟨z, r⟩; exact absurd rfl hz0; simp
    obtain ⟨z, r, hzr⟩ : ∃ z r, zs = z :: r := by rcases zs with _ | ⟨z, r⟩; exact absurd rfl hz0; exact ⟨z, r, rfl⟩
    obtain ⟨b, off, rfl, c0⟩ := HS.out.ints 0 (by omega)
    have ez : zs[0]! = z := by rw [hzr]; rfl
    rw [ez] at c0
    have HZ0 := hide (And.intro hzr ez)
    have d0 := HS.out.box.c0
    have hlz : ((zs.length : Int) == 0) = false := by simp; omega
    simp only [Nat.add_zero] at c0
    have i1 : (0 : Int) < (zs.length : Int) := by omega
    clear hzr ez hz0
    by_cases h1 : z < 0
    · have g1 : decide (z < 0) = true := decide_eq_true h1
      have HE : Hid (weighZ n W zs = -1) := by show _ = _; rw [HZ0.out.1]; show (if inN n z = true then weighF n W 0 z r else -1) = _; rw [if_neg (by unfold inN; simp; omega)]
      go_enter Try.func37, Try.ntmps37
      go_wp2
      try rw [HB.out]
      generalize w.alloc (.cells #[.int .i64 n, .slice (some ⟨tg, 0, none⟩) Q tc] 41) = W0 at HS c0 d0 ⊢
      go_quiet (fail)
      go_wp2
      go_ret
      rw [HE.out]
      exact ⟨rfl, Qu.below_drewN HS.out.below nq⟩
    · have g1 : decide (z < 0) = false := decide_eq_false h1
      by_cases h2 : (n : Int) ≤ z
      · have g2 : decide ((n : Int) ≤ z) = true := decide_eq_true h2
        have HE : Hid (weighZ n W zs = -1) := by show _ = _; rw [HZ0.out.1]; show (if inN n z = true then weighF n W 0 z r else -1) = _; rw [if_neg (by unfold inN; simp; omega)]
        go_enter Try.func37, Try.ntmps37
        go_wp2
        try rw [HB.out]
        generalize w.alloc (.cells #[.int .i64 n, .slice (some ⟨tg, 0, none⟩) Q tc] 41) = W0 at HS c0 d0 ⊢
        go_quiet (fail)
        go_wp2
        go_ret
        rw [HE.out]
        exact ⟨rfl, Qu.below_drewN HS.out.below nq⟩
      · have g2 : decide ((n : Int) ≤ z) = false := decide_eq_false h2
        have HE : Hid (weighZ n W zs = weighF n W 0 zs[0]! (zs.drop 1)) := by show _ = _; rw [HZ0.out.2]; rw [HZ0.out.1]; show (if inN n z = true then weighF n W 0 z r else -1) = _; rw [if_pos (by unfold inN; simp; omega)]; rfl
        have HZ1 : Hid (0 ≤ zs[0]! ∧ zs[0]! < n) := by show _ ∧ _; rw [HZ0.out.2]; omega
        go_enter Try.func37, Try.ntmps37
        go_wp2
        try rw [HB.out]
        generalize w.alloc (.cells #[.int .i64 n, .slice (some ⟨tg, 0, none⟩) Q tc] 41) = W0 at HS c0 d0 ⊢
        go_quiet (fail)
        go_wp2
        replace HS := hide (HS.out.drewN nq)
        generalize W0.drewN nq = W1 at HS ⊢
        clear c0 d0
        go_loopw [5, 6] (fun vs vi wr => ∃ (i : Nat) (s : Int), vi = .int .i64 i ∧ vs = .int .i64 s ∧ 1 ≤ i ∧ i ≤ zs.length ∧ 0 ≤ s ∧ s ≤ 1000000 * i ∧ Hid (WgIn B w n tg tc Q W (some ⟨b, off, none⟩) zs wr ∧ (0 ≤ zs[i - 1]! ∧ zs[i - 1]! < n) ∧ weighZ n W zs = weighF n W s zs[i - 1]! (zs.drop i))) (fun _ vi _ => zs.length - (intOf vi).toNat)
        case atStart => exact ⟨1, 0, rfl, rfl, Nat.le_refl _, hl1, by omega, by omega, HS.out, HZ1.out, HE.out⟩
        case round =>
          clear HS
          obtain ⟨i, s, rfl, rfl, hi1, hi, hs0, hs1, HR⟩ := hrel
          by_cases hil : i < zs.length
          · have ii : (i : Int) < (zs.length : Int) := by omega
            obtain ⟨b2, off2, e2, c1⟩ := HR.out.1.ints i hil
            cases e2
            obtain ⟨b2, off2, e2, c2⟩ := HR.out.1.ints (i - 1) (by omega)
            cases e2
            have d0 := HR.out.1.box.c0
            have d1 := HR.out.1.box.c1
            have HD := hide (HR.out.2.2.trans (weighF_drop n W s zs[i - 1]! zs i hil))
            have hp := HR.out.2.1
            obtain ⟨p, hpe⟩ : ∃ p : Nat, zs[i - 1]! = (p : Int) := ⟨(zs[i - 1]!).toNat, by omega⟩
            rw [hpe] at c2 HD hp
            have hpn : p < n := by omega
            generalize hy : zs[i]! = y at c1 HD
            have HY := hide hy
            have wb := wt_bnd HW.out (p : Int) y
            have im1 : ((i : Int) - 1) = ((i - 1 : Nat) : Int) := by omega
            have im2 : (i : Int) - 1 < (zs.length : Int) := by omega
            have im3 : 0 ≤ (i : Int) - 1 := by omega
            have im4 : ((i : Int) - 1).toNat = i - 1 := by omega
            obtain ⟨hmul, hmb⟩ := mul_wrap (show p ≤ 32 by omega) hn.2
            obtain ⟨P, hP⟩ : ∃ P, p * n = P := ⟨_, rfl⟩
            have HP := hide hP
            rw [hP] at hmul hmb
            clear hP hy hpe
            by_cases h1 : y < 0
            · have q1 : decide (y < 0) = true := decide_eq_true h1
              have HE2 : Hid (weighZ n W zs = -1) := by show _ = _; rw [HD.out, if_pos (by rw [wt_out (by omega)]; omega)]
              go_wp2
              go_quiet (fail)
              go_wp2
              go_ret
              rw [HE2.out]
              exact ⟨rfl, Qu.below_drewN HR.out.1.below nq⟩
            · have q1 : decide (y < 0) = false := decide_eq_false h1
              by_cases h2 : (n : Int) ≤ y
              · have q2 : decide ((n : Int) ≤ y) = true := decide_eq_true h2
                have HE2 : Hid (weighZ n W zs = -1) := by show _ = _; rw [HD.out, if_pos (by rw [wt_out (by omega)]; omega)]
                go_wp2
                go_quiet (fail)
                go_wp2
                go_ret
                rw [HE2.out]
                exact ⟨rfl, Qu.below_drewN HR.out.1.below nq⟩
              · obtain ⟨v, rfl⟩ : ∃ v : Nat, y = (v : Int) := ⟨y.toNat, by omega⟩
                have hvn : v < n := by omega
                have q2 : decide (n ≤ v) = false := decide_eq_false (by omega)
                have l1 := cell_lt hpn hvn
                rw [HP.out, HQ.out] at l1
                have t1 := HR.out.1.box.cells (P + v) l1
                have e1 : (cellsM n W)[P + v]! = wt n W p v := by rw [← HP.out, cellsM_at _ hpn hvn, wt_in hpn hvn]
                rw [e1] at t1
                generalize wt n W (p : Int) (v : Int) = z2 at t1 HD wb
                have k1 : (P : Int) + (v : Int) < (Q : Int) := by omega
                have w1 : IntKind.i64.wrap ((P : Int) + (v : Int)) = ((P + v : Nat) : Int) := by rw [IntKind.wrap_i64]; omega
                clear e1
                by_cases h3 : z2 < 0
                · have q3 : decide (z2 < 0) = true := decide_eq_true h3
                  have HE2 : Hid (weighZ n W zs = -1) := by show _ = _; rw [HD.out, if_pos h3]
                  go_wp2
                  go_quiet (fail)
                  go_wp2
                  go_ret
                  rw [HE2.out]
                  exact ⟨rfl, Qu.below_drewN HR.out.1.below nq⟩
                · have q3 : decide (z2 < 0) = false := decide_eq_false h3
                  have HE2 : Hid (weighZ n W zs = weighF n W (s + z2) zs[i + 1 - 1]! (zs.drop (i + 1))) := by show _ = _; rw [HD.out, if_neg h3, Nat.add_sub_cancel, HY.out]
                  have HV : Hid (0 ≤ zs[i + 1 - 1]! ∧ zs[i + 1 - 1]! < n) := by show _ ∧ _; rw [Nat.add_sub_cancel, HY.out]; omega
                  go_wp2
                  go_quiet (fail)
                  go_wp2
                  go_quiet (fail)
                  go_wp2
                  go_roundw
                  case rel => exact ⟨i + 1, s + z2, by go_num, by go_num, by omega, by omega, by omega, by omega, HR.out.1.drewN _, HV.out, HE2.out⟩
                  case measure => simp [intOf]; omega
          · have hie : i = zs.length := by omega
            have HE2 : Hid (weighZ n W zs = s) := by show _ = _; rw [HR.out.2.2, List.drop_eq_nil_of_le (by omega)]; rfl
            go_wp2
            go_ret
            rw [HE2.out]
            exact ⟨rfl, HR.out.1.below⟩
end Go.Proofs.Ytkgpjhechopfhaa
