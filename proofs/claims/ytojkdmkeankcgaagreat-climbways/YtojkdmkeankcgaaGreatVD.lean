/-
  Several texts in one.
-/
import Derived.Test.YtojkdmkeankcgaaGreatZRw
import Derived.Test.YtojkdmkeankcgaaGreatVA
import Derived.Test.YtojkdmkeankcgaaGreatZGg
import Derived.Test.YtojkdmkeankcgaaGreatVC
import Derived.Deep.RegionHeld
/-  What the call of the document's Weigh does. -/
namespace Go.Proofs.YtojkdmkeankcgaaGreat
open Go.RowKit Go.Sort

/-- Is it a place? -/
def inN (n : Nat) (p : Int) : Bool := decide (0 ≤ p ∧ p < n)
/-- The weight of a list of numbers as places: on from a, with so much behind. -/
def weighF (n : Nat) (W : Nat → Nat → Option Int) (sum a : Int) : List Int → Int
  | [] => sum
  | b :: r => if wt n W a b < 0 then -1 else weighF n W (sum + wt n W a b) b r
def weighZ (n : Nat) (W : Nat → Nat → Option Int) : List Int → Int
  | [] => -1
  | a :: r => if inN n a then weighF n W 0 a r else -1
theorem wt_bnd {n : Nat} {W : Nat → Nat → Option Int} (hW : WOk n W) (a b : Int) : -1 ≤ wt n W a b ∧ wt n W a b ≤ 1000000 := by
  unfold wt
  split
  · rename_i h
    cases e : W a.toNat b.toNat with
    | none => simp
    | some x => have := hW _ _ x (by omega) (by omega) e; simp only [Option.getD_some]; omega
  · omega
theorem wt_in {n : Nat} {W : Nat → Nat → Option Int} {a b : Nat} (ha : a < n) (hb : b < n) : wt n W a b = (W a b).getD (-1) := by unfold wt; rw [if_pos (by omega)]; rfl
theorem wt_out {n : Nat} {W : Nat → Nat → Option Int} {a b : Int} (h : ¬ (0 ≤ b ∧ b < n)) : wt n W a b = -1 := by unfold wt; rw [if_neg (by omega)]
theorem weighF_drop (n : Nat) (W : Nat → Nat → Option Int) (s a : Int) (zs : List Int) (k : Nat) (hk : k < zs.length) : weighF n W s a (zs.drop k) = if wt n W a zs[k]! < 0 then -1 else weighF n W (s + wt n W a zs[k]!) zs[k]! (zs.drop (k + 1)) := by
  rw [List.drop_eq_getElem_cons hk, getElem!_pos zs k hk]
  rfl
/-- While Weigh runs. -/
structure WgIn (B : Nat) (w : World) (n tg tc Q : Nat) (W : Nat → Nat → Option Int) (a : Option Addr) (zs : List Int) (wr : World) : Prop where
  below : Below B w wr
  box : MBox wr B n tg tc Q (cellsM n W)
  ints : IntsAt wr a zs
theorem WgIn.drewN {B n tg tc Q : Nat} {w wr : World} {W : Nat → Nat → Option Int} {a : Option Addr} {zs : List Int} (h : WgIn B w n tg tc Q W a zs wr) (q : Nat) : WgIn B w n tg tc Q W a zs (wr.drewN q) := ⟨Qu.below_drewN h.below q, h.box.drewN q, h.ints.later (Qu.below_drewN (Below.refl _ _) q)⟩
set_option maxRecDepth 100000 in
set_option maxHeartbeats 6400000 in
theorem rweigh_box {w : World} {n tg tc Q bx vc : Nat} {W : Nat → Nat → Option Int} {a : Option Addr} {zs : List Int} (hn : 1 ≤ n ∧ n ≤ 32) (hW : WOk n W) (hQ : n * n = Q) (ht : MBox w bx n tg tc Q (cellsM n W)) (hz : IntsAt w a zs) (hl : zs.length ≤ 200) :
    Calls Tryz.prog 16 #[.agg #[.int .i64 n, .slice (some ⟨tg, 0, none⟩) Q tc], .slice a zs.length vc] w fun e w' => e = .returned (.int .i64 (weighZ n W zs)) ∧ Below w.heap.size w w' := by
  have HN := hide hn
  have HW := hide hW
  have HQ := hide hQ
  have hQb : Q ≤ 1024 := by rw [← hQ]; exact (mul_wrap hn.2 hn.2).2
  have f1 : Below w.heap.size w (w.alloc (.cells #[.int .i64 n, .slice (some ⟨tg, 0, none⟩) Q tc] 29)) := (Below.refl _ _).alloc (Nat.le_refl _) _
  have HS : Hid (WgIn w.heap.size w n tg tc Q W a zs (w.alloc (.cells #[.int .i64 n, .slice (some ⟨tg, 0, none⟩) Q tc] 29))) := ⟨f1, ⟨heap_alloc_new _ _, (ht.later f1).cells⟩, hz.later f1⟩
  obtain ⟨B, hB⟩ : ∃ B, w.heap.size = B := ⟨_, rfl⟩
  have HB := hide hB
  rw [hB] at HS ⊢
  clear ht hz f1 hB hQ hW
  by_cases hz0 : zs = []
  · subst hz0
    have i0 : ((0 : Nat) : Int) = 0 := rfl
    have hz1 : ((0 : Int) == 0) = true := by decide
    go_enter Tryz.func16, Tryz.ntmps16
    go_wp2
    try rw [HB.out]
    go_quiet (fail)
    go_wp2
    go_ret
    exact ⟨rfl, Qu.below_drewN HS.out.below nq⟩
  · have hl1 : 1 ≤ zs.length := by rcases zs with _ | ⟨z, r⟩; exact absurd rfl hz0; simp
    obtain ⟨z, r, hzr⟩ : ∃ z r, zs = z :: r := by rcases zs with _ | ⟨z, r⟩; exact absurd rfl hz0; exact ⟨z, r, rfl⟩
    obtain ⟨b, off, rfl, c0⟩ := HS.out.ints 0 (by omega)
    have ez : zs[0]! = z := by rw [hzr]; rfl
    rw [ez] at c0
    have HZ0 := hide (And.intro hzr ez)
    have d0 := HS.out.box.c0
    have hlz : ((zs.length : Int) == 0) = false := by simp; omega
    simp only [Nat.add_zero] at c0
    have i1 : (0 : Int) < (zs.length : Int) := by omega
    clear hzr ez hz0
    by_cases h1 : z < 0
    · have g1 : decide (z < 0) = true := decide_eq_true h1
      have HE : Hid (weighZ n W zs = -1) := by show _ = _; rw [HZ0.out.1]; show (if inN n z = true then weighF n W 0 z r else -1) = _; rw [if_neg (by unfold inN; simp; omega)]
      go_enter Tryz.func16, Tryz.ntmps16
      go_wp2
      try rw [HB.out]
      generalize w.alloc (.cells #[.int .i64 n, .slice (some ⟨tg, 0, none⟩) Q tc] 29) = W0 at HS c0 d0 ⊢
      go_quiet (fail)
      go_wp2
      go_ret
      rw [HE.out]
      exact ⟨rfl, Qu.below_drewN HS.out.below nq⟩
    · have g1 : decide (z < 0) = false := decide_eq_false h1
      by_cases h2 : (n : Int) ≤ z
      · have g2 : decide ((n : Int) ≤ z) = true := decide_eq_true h2
        have HE : Hid (weighZ n W zs = -1) := by show _ = _; rw [HZ0.out.1]; show (if inN n z = true then weighF n W 0 z r else -1) = _; rw [if_neg (by unfold inN; simp; omega)]
        go_enter Tryz.func16, Tryz.ntmps16
        go_wp2
        try rw [HB.out]
        generalize w.alloc (.cells #[.int .i64 n, .slice (some ⟨tg, 0, none⟩) Q tc] 29) = W0 at HS c0 d0 ⊢
        go_quiet (fail)
        go_wp2
        go_ret
        rw [HE.out]
        exact ⟨rfl, Qu.below_drewN HS.out.below nq⟩
      · have g2 : decide ((n : Int) ≤ z) = false := decide_eq_false h2
        have HE : Hid (weighZ n W zs = weighF n W 0 zs[0]! (zs.drop 1)) := by show _ = _; rw [HZ0.out.2]; rw [HZ0.out.1]; show (if inN n z = true then weighF n W 0 z r else -1) = _; rw [if_pos (by unfold inN; simp; omega)]; rfl
        have HZ1 : Hid (0 ≤ zs[0]! ∧ zs[0]! < n) := by show _ ∧ _; rw [HZ0.out.2]; omega
        go_enter Tryz.func16, Tryz.ntmps16
        go_wp2
        try rw [HB.out]
        generalize w.alloc (.cells #[.int .i64 n, .slice (some ⟨tg, 0, none⟩) Q tc] 29) = W0 at HS c0 d0 ⊢
        go_quiet (fail)
        go_wp2
        replace HS := hide (HS.out.drewN nq)
        generalize W0.drewN nq = W1 at HS ⊢
        clear c0 d0
        go_loopw [5, 6] (fun vs vi wr => ∃ (i : Nat) (s : Int), vi = .int .i64 i ∧ vs = .int .i64 s ∧ 1 ≤ i ∧ i ≤ zs.length ∧ 0 ≤ s ∧ s ≤ 1000000 * i ∧ Hid (WgIn B w n tg tc Q W (some ⟨b, off, none⟩) zs wr ∧ (0 ≤ zs[i - 1]! ∧ zs[i - 1]! < n) ∧ weighZ n W zs = weighF n W s zs[i - 1]! (zs.drop i))) (fun _ vi _ => zs.length - (intOf vi).toNat)
        case atStart => exact ⟨1, 0, rfl, rfl, Nat.le_refl _, hl1, by omega, by omega, HS.out, HZ1.out, HE.out⟩
        case round =>
          clear HS
          obtain ⟨i, s, rfl, rfl, hi1, hi, hs0, hs1, HR⟩ := hrel
          by_cases hil : i < zs.length
          · have ii : (i : Int) < (zs.length : Int) := by omega
            obtain ⟨b2, off2, e2, c1⟩ := HR.out.1.ints i hil
            cases e2
            obtain ⟨b2, off2, e2, c2⟩ := HR.out.1.ints (i - 1) (by omega)
            cases e2
            have d0 := HR.out.1.box.c0
            have d1 := HR.out.1.box.c1
            have HD := hide (HR.out.2.2.trans (weighF_drop n W s zs[i - 1]! zs i hil))
            have hp := HR.out.2.1
            obtain ⟨p, hpe⟩ : ∃ p : Nat, zs[i - 1]! = (p : Int) := ⟨(zs[i - 1]!).toNat, by omega⟩
            rw [hpe] at c2 HD hp
            have hpn : p < n := by omega
            generalize hy : zs[i]! = y at c1 HD
            have HY := hide hy
            have wb := wt_bnd HW.out (p : Int) y
            have im1 : ((i : Int) - 1) = ((i - 1 : Nat) : Int) := by omega
            have im2 : (i : Int) - 1 < (zs.length : Int) := by omega
            have im3 : 0 ≤ (i : Int) - 1 := by omega
            have im4 : ((i : Int) - 1).toNat = i - 1 := by omega
            obtain ⟨hmul, hmb⟩ := mul_wrap (show p ≤ 32 by omega) hn.2
            obtain ⟨P, hP⟩ : ∃ P, p * n = P := ⟨_, rfl⟩
            have HP := hide hP
            rw [hP] at hmul hmb
            clear hP hy hpe
            by_cases h1 : y < 0
            · have q1 : decide (y < 0) = true := decide_eq_true h1
              have HE2 : Hid (weighZ n W zs = -1) := by show _ = _; rw [HD.out, if_pos (by rw [wt_out (by omega)]; omega)]
              go_wp2
              go_quiet (fail)
              go_wp2
              go_ret
              rw [HE2.out]
              exact ⟨rfl, Qu.below_drewN HR.out.1.below nq⟩
            · have q1 : decide (y < 0) = false := decide_eq_false h1
              by_cases h2 : (n : Int) ≤ y
              · have q2 : decide ((n : Int) ≤ y) = true := decide_eq_true h2
                have HE2 : Hid (weighZ n W zs = -1) := by show _ = _; rw [HD.out, if_pos (by rw [wt_out (by omega)]; omega)]
                go_wp2
                go_quiet (fail)
                go_wp2
                go_ret
                rw [HE2.out]
                exact ⟨rfl, Qu.below_drewN HR.out.1.below nq⟩
              · obtain ⟨v, rfl⟩ : ∃ v : Nat, y = (v : Int) := ⟨y.toNat, by omega⟩
                have hvn : v < n := by omega
                have q2 : decide (n ≤ v) = false := decide_eq_false (by omega)
                have l1 := cell_lt hpn hvn
                rw [HP.out, HQ.out] at l1
                have t1 := HR.out.1.box.cells (P + v) l1
                have e1 : (cellsM n W)[P + v]! = wt n W p v := by rw [← HP.out, cellsM_at _ hpn hvn, wt_in hpn hvn]
                rw [e1] at t1
                generalize wt n W (p : Int) (v : Int) = z2 at t1 HD wb
                have k1 : (P : Int) + (v : Int) < (Q : Int) := by omega
                have w1 : IntKind.i64.wrap ((P : Int) + (v : Int)) = ((P + v : Nat) : Int) := by rw [IntKind.wrap_i64]; omega
                clear e1
                by_cases h3 : z2 < 0
                · have q3 : decide (z2 < 0) = true := decide_eq_true h3
                  have HE2 : Hid (weighZ n W zs = -1) := by show _ = _; rw [HD.out, if_pos h3]
                  go_wp2
                  go_quiet (fail)
                  go_wp2
                  go_ret
                  rw [HE2.out]
                  exact ⟨rfl, Qu.below_drewN HR.out.1.below nq⟩
                · have q3 : decide (z2 < 0) = false := decide_eq_false h3
                  have HE2 : Hid (weighZ n W zs = weighF n W (s + z2) zs[i + 1 - 1]! (zs.drop (i + 1))) := by show _ = _; rw [HD.out, if_neg h3, Nat.add_sub_cancel, HY.out]
                  have HV : Hid (0 ≤ zs[i + 1 - 1]! ∧ zs[i + 1 - 1]! < n) := by show _ ∧ _; rw [Nat.add_sub_cancel, HY.out]; omega
                  go_wp2
                  go_quiet (fail)
                  go_wp2
                  go_quiet (fail)
                  go_wp2
                  go_roundw
                  case rel => exact ⟨i + 1, s + z2, by go_num, by go_num, by omega, by omega, by omega, by omega, HR.out.1.drewN _, HV.out, HE2.out⟩
                  case measure => simp [intOf]; omega
          · have hie : i = zs.length := by omega
            have HE2 : Hid (weighZ n W zs = s) := by show _ = _; rw [HR.out.2.2, List.drop_eq_nil_of_le (by omega)]; rfl
            go_wp2
            go_ret
            rw [HE2.out]
            exact ⟨rfl, HR.out.1.below⟩
theorem weigh_nat {n : Nat} {W : Nat → Nat → Option Int} (hW : WOk n W) : ∀ (r : List Nat) (a : Nat) (s d : Int), (∀ x ∈ a :: r, x < n) → weighL W (a :: r) = some d → weighF n W s a (natsI r) = s + d
  | [], a, s, d, _, h => by
    have : (0 : Int) = d := by simpa [weighL] using h
    show s = s + d
    omega
  | b :: r, a, s, d, hall, h => by
    obtain ⟨x, y, h1, h2, h3⟩ := oadd_some h
    have ha := hall a (by simp)
    have hb := hall b (by simp)
    have hx := hW a b x ha hb h1
    show (if wt n W a (b : Int) < 0 then -1 else weighF n W (s + wt n W a (b : Int)) (b : Int) (natsI r)) = _
    rw [wt_in ha hb, h1]
    simp only [Option.getD_some]
    rw [if_neg (by omega), weigh_nat hW r b (s + x) y (fun z hz => hall z (by simp at hz ⊢; exact .inr hz)) h2]
    omega
theorem weigh_way {n p q : Nat} {W : Nat → Nat → Option Int} {d : Int} {L : List Nat} (hW : WOk n W) (h : WayOk n W p q d L) : weighZ n W (natsI L) = d := by
  match L, h with
  | [], h => exact absurd h.first (by simp)
  | a :: r, h =>
    have ha := h.all a (by simp)
    show (if inN n ((a : Nat) : Int) = true then weighF n W 0 ((a : Nat) : Int) (natsI r) else -1) = d
    rw [if_pos (by unfold inN; simp; omega), weigh_nat hW r a 0 d h.all h.sum]
    omega
end Go.Proofs.YtojkdmkeankcgaaGreat
/-  What the law ClimbWays does. -/
namespace Go.Proofs.YtojkdmkeankcgaaGreat
open Go.RowKit Go.Sort

theorem way_ge1 {n : Nat} {W : Nat → Nat → Option Int} {p q : Nat} {d : Int} {L : List Nat} (h : WayOk n W p q d L) : 1 ≤ L.length := by
  have := h.first
  rcases L with _ | ⟨z, r⟩
  · cases this
  · simp
theorem way_ends {n : Nat} {W : Nat → Nat → Option Int} {p q g k base : Nat} {d : Int} {L : List Nat} {w : World} (hr : IRow w base (.slice (some ⟨g, 0, none⟩) L.length k) (natsI L)) (h : WayOk n W p q d L) : g < w.heap.size ∧ w.cell? ⟨g, 0, none⟩ = some (.int .i64 p) ∧ w.cell? ⟨g, L.length - 1, none⟩ = some (.int .i64 q) := by
  have hl := way_ge1 h
  have f0 := hr.cell 0 (by rw [natsI_len]; omega)
  have fl := hr.cell (L.length - 1) (by rw [natsI_len]; omega)
  have e0 : (natsI L)[0]! = (p : Int) := by
    have := h.first
    rcases L with _ | ⟨z, r⟩
    · cases this
    · simp at this; subst this; rfl
  have el : (natsI L)[L.length - 1]! = (q : Int) := by
    have h1 := h.last
    rw [List.getLast?_eq_getElem?] at h1
    rw [getElem!_pos _ _ (by rw [natsI_len]; omega)]
    have h2 : L[L.length - 1]'(by omega) = q := by
      rw [List.getElem?_eq_getElem (by omega)] at h1
      simpa using h1
    simp [natsI, h2]
  rw [e0] at f0
  rw [el] at fl
  exact ⟨(hr.lt g rfl).2, f0, fl⟩
theorem rweigh_is {w : World} {n tg tc Q bx p q g k base : Nat} {d : Int} {L : List Nat} {W : Nat → Nat → Option Int} (hn : 1 ≤ n ∧ n ≤ 32) (hW : WOk n W) (hQ : n * n = Q) (ht : MBox w bx n tg tc Q (cellsM n W)) (hr : IRow w base (.slice (some ⟨g, 0, none⟩) L.length k) (natsI L)) (h : WayOk n W p q d L) :
    Calls Tryz.prog 16 #[.agg #[.int .i64 n, .slice (some ⟨tg, 0, none⟩) Q tc], .slice (some ⟨g, 0, none⟩) L.length k] w fun e w' => e = .returned (.int .i64 d) ∧ Below w.heap.size w w' := by
  have := rweigh_box hn hW hQ ht (intsAt_row hr) (by rw [natsI_len]; have := h.len; omega) (vc := k)
  rw [natsI_len, weigh_way hW h] at this
  exact this
set_option maxRecDepth 100000 in
set_option maxHeartbeats 1600000 in
theorem ways8_bad (n : Int) (a : Option Addr) (m c : Nat) (A : List Arc) (d : Bool) (w : World) (h : ArcsAt w a m A) (hc : a = none → c = 0) (hb : 300 < m ∨ (m ≤ 300 ∧ (checkM n A).2 ≠ 0)) :
    Calls Tryz.prog 4 #[.agg #[.int .i64 n, .slice a m c], .bool d] w fun e w' => e = .returned (.bool true) ∧ Below w.heap.size w w' := by
  have HS := hide (rin_start w n a m c A h)
  have HGR : Hid (∀ w', ArcsAt w' a m A → Calls Tryz.prog 10 #[.agg #[.int .i64 n, .slice a m c], .bool d] w' fun e w'' => e = .returned (.tuple #[.pointer none, .agg #[.int .i64 0, .slice none 0 0], .agg #[.int .i64 0, .slice none 0 0], .bool false]) ∧ Below w'.heap.size w' w'') := fun w' h' => by
    rcases hb with hm | ⟨hm, he⟩
    · exact graph_many n a m c A d w' h' hm
    · exact graph_bad n a m c A d w' h' hc hm he
  clear h hc hb
  go_enter Tryz.func4, Tryz.ntmps4
  go_wp2_with (first
    | (go_at_call 9; refine (awake8_any _).mono ?_; rintro e w1 ⟨rfl, h1⟩; have H1 := hide (HS.out.later h1); have c0 := H1.out.c0; have c1 := H1.out.c1; clear h1)
    | (go_at_call 10; refine (HGR.out _ H1.out.arcs).mono ?_; rintro e w2 ⟨rfl, h2⟩; have H2 := hide (H1.out.later h2); clear h2))
  go_ret
  exact ⟨rfl, (H2.out.below.alloc H2.out.below.size _).alloc (by have := H2.out.below.size; simp; omega) _⟩
set_option maxRecDepth 100000 in
set_option maxHeartbeats 12800000 in
theorem ways8_good (n : Nat) (a : Option Addr) (m c : Nat) (A : List Arc) (d : Bool) (w : World) (h : ArcsAt w a m A) (hc : a = none → c = 0) (hm : m ≤ 300) (he : (checkM n A).2 = 0) :
    Calls Tryz.prog 4 #[.agg #[.int .i64 n, .slice a m c], .bool d] w fun e w' => e = .returned (.bool true) ∧ Below w.heap.size w w' := by
  obtain ⟨hn0, hl, hok⟩ := checkM_ok he
  have hn : 1 ≤ n ∧ n ≤ 32 := by omega
  have HN := hide hn
  have HM := hide (mt_pos he d)
  have HWO : Hid (WOk n (tab (legsM (mtM d) A))) := fun p q x _ _ hx => tab_pos HM.out p q x hx
  have HLP : Hid (∀ a, a < n → tab (legsM (mtM d) A) a a = none) := fun a _ => tab_loop _ _ a
  have HS := hide (rin_start w n a m c A h)
  have HGR := hide (fun (w' : World) (h' : ArcsAt w' a m A) => graph_good n a m c A d w' h' hc hm he)
  obtain ⟨Q, hQ⟩ : ∃ Q, n * n = Q := ⟨_, rfl⟩
  have HQ := hide hQ
  have hQb : Q ≤ 1024 := by rw [← hQ]; exact (mul_wrap hn.2 hn.2).2
  have HQ0 : Hid (0 < n * n) := Nat.mul_pos (by omega) (by omega)
  clear h hc he hn0 hok hQ
  generalize tab (legsM (mtM d) A) = W at HWO HGR HLP
  have HL1 : Hid ((cellsM n W).length = Q) := (cellsM_len n W).trans HQ.out
  have HL2 : Hid ((cellsM n (least n W)).length = Q) := (cellsM_len n (least n W)).trans HQ.out
  go_enter Tryz.func4, Tryz.ntmps4
  go_wp2_with (first
    | (go_at_call 9; refine (awake8_any _).mono ?_; rintro e w1 ⟨rfl, h1⟩; have H1 := hide (HS.out.later h1); have c0 := H1.out.c0; have c1 := H1.out.c1; clear h1)
    | (go_at_call 10; refine (HGR.out _ H1.out.arcs).mono ?_; rintro e w2 ⟨g, vt, vl, rfl, h2, h3, h4, h5⟩; obtain ⟨tg, tc, rfl, _⟩ := h3.form (by rw [cellsM_len]; exact HQ0.out); obtain ⟨lg, lc, rfl, _⟩ := h4.form (by rw [cellsM_len]; exact HQ0.out); rw [HL1.out] at h3 ⊢; rw [HL2.out] at h4 ⊢; have H3 := hide (g3_mk (H1.out.later h5) h2 h3 h4 HQ.out); clear h2 h3 h4 h5)
    | (go_at_call 11; refine (build_any H3.out.gr HN.out HWO.out HLP.out).mono ?_; rintro e w3 ⟨bb, rfl, K, rk, Q9, rv, h1, h2, _, h4⟩; have HBD := hide h1; have H4 : Hid (L7 w.heap.size w n a m c A g W w2.heap.size tg tc lg lc Q bb rv (upM K rk) (dnM K rk) w3) := ⟨H3.out.later h4, h2⟩; clear h1 h2 h4))
  obtain ⟨b1, hb1⟩ : ∃ b, w2.heap.size = b := ⟨_, rfl⟩
  rw [hb1] at H4
  try rw [hb1]
  clear H1 H3 hb1 c0 c1
  have HR0 := hide H4.out
  clear H4
  go_wp2_with fail
  go_loopw [10] (fun vi wr => ∃ i : Nat, vi = .int .i64 i ∧ i ≤ n ∧ Hid (L7 w.heap.size w n a m c A g W b1 tg tc lg lc Q bb rv (upM K rk) (dnM K rk) wr)) (fun vi _ => n - (intOf vi).toNat)
  case atStart => exact ⟨0, rfl, Nat.zero_le _, HR0.out⟩
  case round =>
    clear HR0
    obtain ⟨p, rfl, hp, HR⟩ := hrel
    have x0 := HR.out.g3.ml.c0
    by_cases hpn : p < n
    · have i1 : (p : Int) < (n : Int) := by omega
      have HPN := hide hpn
      obtain ⟨hmul, hmb⟩ := mul_wrap (show p ≤ 32 by omega) hn.2
      obtain ⟨P, hP⟩ : ∃ P, p * n = P := ⟨_, rfl⟩
      have HP := hide hP
      rw [hP] at hmul hmb
      clear hP
      go_wp2
      go_loopw [11] (fun vi wr => ∃ j : Nat, vi = .int .i64 j ∧ j ≤ n ∧ Hid (L7 w.heap.size w n a m c A g W b1 tg tc lg lc Q bb rv (upM K rk) (dnM K rk) wr)) (fun vi _ => n - (intOf vi).toNat)
      case atStart => exact ⟨0, rfl, Nat.zero_le _, HR.out⟩
      case round =>
        clear HR x0
        obtain ⟨q, rfl, hq, HR⟩ := hrel
        have x0 := HR.out.g3.ml.c0
        by_cases hqn : q < n
        · have i2 : (q : Int) < (n : Int) := by omega
          have l1 := cell_lt hpn hqn
          rw [HP.out, HQ.out] at l1
          have k1 : (P : Int) + (q : Int) < (Q : Int) := by omega
          have w1' : IntKind.i64.wrap ((P : Int) + (q : Int)) = ((P + q : Nat) : Int) := by rw [IntKind.wrap_i64]; omega
          have HLQ := hide l1
          have HEC : Hid ((cellsM n (least n W))[P + q]! = (least n W p q).getD (-1)) := by
            have := cellsM_at (least n W) hpn hqn
            rw [HP.out] at this
            exact this
          cases hd : least n W p q with
          | none =>
            have HW4 := hide (way8_none HR.out.lf hn.2 HBD.out HWO.out hpn hqn hd)
            rw [hd] at HEC
            clear hd
            go_wp2_with (go_at_call 15; refine HW4.out.mono ?_; rintro e w4 ⟨rfl, h1⟩; have H5 := hide (HR.out.later h1); have y0 := H5.out.g3.ml.c0; have y1 := H5.out.g3.ml.c1; have y2 := H5.out.g3.ml.cells (P + q) HLQ.out; rw [HEC.out] at y2; simp only [Option.getD_none] at y2; clear h1)
            go_roundw
            case rel => exact ⟨q + 1, by go_num, by omega, H5.out⟩
            case measure => simp [intOf]; omega
          | some dd =>
            have HW4 := hide (way8_some HR.out.lf hn.2 HBD.out HWO.out hpn hqn hd)
            rw [hd] at HEC
            have hd0 := (least_pos HWO.out hpn hqn hd).1
            have n0 : ¬ dd < 0 := by omega
            have z1 : (dd != dd) = false := by simp
            have z2 : ((p : Int) != (p : Int)) = false := by simp
            have z3 : ((q : Int) != (q : Int)) = false := by simp
            clear hd
            go_wp2_with (first
              | (go_at_call 15; refine HW4.out.mono ?_; rintro e w4 ⟨gv, kv, L, rfl, hrow, hway, h1⟩; have H5 := hide (HR.out.later h1); have y0 := H5.out.g3.ml.c0; have y1 := H5.out.g3.ml.c1; have y2 := H5.out.g3.ml.cells (P + q) HLQ.out; rw [HEC.out] at y2; simp only [Option.getD_some] at y2; have d0 := H5.out.g3.mt.c0; have d1 := H5.out.g3.mt.c1; have hlen := hway.len; have hL1 := way_ge1 hway; have HRW := hide (rweigh_is HN.out HWO.out HQ.out H5.out.g3.mt hrow hway); have HFL := hide (way_ends hrow hway); have m1 : (L.length : Int) - 1 < (L.length : Int) := (by omega); have m2 : 0 ≤ (L.length : Int) - 1 := (by omega); have m3 : ((L.length : Int) - 1).toNat = L.length - 1 := (by omega); clear h1 hrow hway)
              | (go_at_call 16; refine HRW.out.mono ?_; rintro e w5 ⟨rfl, h5⟩; have f0 := (h5.cell (p := ⟨gv, 0, none⟩) HFL.out.1).trans HFL.out.2.1; have fl := (h5.cell (p := ⟨gv, L.length - 1, none⟩) HFL.out.1).trans HFL.out.2.2; have H6 := hide (H5.out.later h5); clear h5))
            go_roundw
            case rel => exact ⟨q + 1, by go_num, by omega, H6.out⟩
            case measure => simp [intOf]; omega
        · have i2 : ¬ (q : Int) < (n : Int) := by omega
          go_wp2
          go_roundw
          case rel => exact ⟨p + 1, by go_num, by omega, HR.out⟩
          case measure => simp [intOf]; omega
    · have i1 : ¬ (p : Int) < (n : Int) := by omega
      have HW4 := hide (way8_out (p := 0) (q := (n : Int)) HR.out.lf hn.2 HBD.out (by omega) (by omega))
      go_wp2_with (go_at_call 15; refine HW4.out.mono ?_; rintro e w4 ⟨rfl, h1⟩; have H5 := hide (HR.out.later h1); clear h1)
      go_ret
      exact ⟨rfl, H5.out.g3.rin.below⟩
theorem ways8_any (n : Int) (a : Option Addr) (m c : Nat) (A : List Arc) (d : Bool) (w : World) (h : ArcsAt w a m A) (hc : a = none → c = 0) :
    Calls Tryz.prog 4 #[.agg #[.int .i64 n, .slice a m c], .bool d] w fun e w' => e = .returned (.bool true) ∧ Below w.heap.size w w' := by
  by_cases hm : 300 < m
  · exact ways8_bad n a m c A d w h hc (.inl hm)
  · by_cases he : (checkM n A).2 = 0
    · obtain ⟨hn, _⟩ := checkM_ok he
      obtain ⟨k, rfl⟩ : ∃ k : Nat, n = (k : Int) := ⟨n.toNat, by omega⟩
      exact ways8_good k a m c A d w h hc (by omega) he
    · exact ways8_bad n a m c A d w h hc (.inr ⟨by omega, he⟩)
end Go.Proofs.YtojkdmkeankcgaaGreat
