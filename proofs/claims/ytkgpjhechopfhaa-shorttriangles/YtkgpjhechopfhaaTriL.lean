/-
  What the law ShortTriangles does.
-/
import Derived.Test.YtkgpjhechopfhaaLawM
import Derived.Deep.CutRange
namespace Go.Proofs.Ytkgpjhechopfhaa
open Go.RowKit Go.Sort

section
variable {n : Nat} {W : Nat → Nat → Option Int}
theorem tri_edge (hW : WOk n W) {i j : Nat} (hi : i < n) (hj : j < n) (h : 0 ≤ cv (W i j)) : 0 ≤ cv (least n W i j) ∧ cv (least n W i j) ≤ cv (W i j) := by
  have L := least_is hW i hi
  cases e : W i j with
  | none => rw [e] at h; simp [cv] at h
  | some x =>
    obtain ⟨d', h1, h2⟩ := L.edge i j 0 x hi hj L.here e
    have := (least_pos hW hi hj h1).1
    rw [h1]
    simp only [cv, Option.getD_some]
    omega
theorem tri_three (hW : WOk n W) {i j k : Nat} (hi : i < n) (hj : j < n) (hk : k < n) (ha : 0 ≤ cv (least n W i k)) (hb : 0 ≤ cv (least n W k j)) : 0 ≤ cv (least n W i j) ∧ cv (least n W i j) ≤ cv (least n W i k) + cv (least n W k j) := by
  cases e1 : least n W i k with
  | none => rw [e1] at ha; simp [cv] at ha
  | some x =>
    cases e2 : least n W k j with
    | none => rw [e2] at hb; simp [cv] at hb
    | some y =>
      obtain ⟨d', h1, h2⟩ := (least_is hW i hi).le (((least_is hW i hi).way k x hk e1).trans ((least_is hW k hk).way j y hj e2))
      have := (least_pos hW hi hj h1).1
      rw [h1]
      simp only [cv, Option.getD_some]
      omega
theorem cv_least (hW : WOk n W) (hn : n ≤ 32) {i j : Nat} (hi : i < n) (hj : j < n) : -1 ≤ cv (least n W i j) ∧ cv (least n W i j) ≤ 4294967296000000 := cv_bnd (fw_is hW n (Nat.le_refl _)) hn hi hj
end
/-- Two matrices, each in a box of its own. -/
structure T2 (B : Nat) (w : World) (n b1 b2 ga ca gb cb Q : Nat) (xs ys : List Int) (wr : World) : Prop where
  below : Below B w wr
  a : MBox wr b1 n ga ca Q xs
  b : MBox wr b2 n gb cb Q ys
theorem T2.drewN {B n b1 b2 ga ca gb cb Q : Nat} {w wr : World} {xs ys : List Int} (h : T2 B w n b1 b2 ga ca gb cb Q xs ys wr) (q : Nat) : T2 B w n b1 b2 ga ca gb cb Q xs ys (wr.drewN q) := ⟨Qu.below_drewN h.below q, h.a.drewN q, h.b.drewN q⟩

set_option maxRecDepth 100000 in
set_option maxHeartbeats 1600000 in
theorem tri_bad (n : Int) (a : Option Addr) (m c : Nat) (A : List Arc) (d : Bool) (w : World) (h : ArcsAt w a m A) (hc : a = none → c = 0) (hb : 300 < m ∨ (m ≤ 300 ∧ (checkM n A).2 ≠ 0)) :
    Calls Try.prog 10 #[.agg #[.int .i64 n, .slice a m c], .bool d] w fun e w' => e = .returned (.bool true) ∧ Below w.heap.size w w' := by
  have HS := hide (rin_start w n a m c A h)
  have HGR : Hid (∀ w', ArcsAt w' a m A → Calls Try.prog 31 #[.agg #[.int .i64 n, .slice a m c], .bool d] w' fun e w'' => e = .returned (.tuple #[.pointer none, .agg #[.int .i64 0, .slice none 0 0], .agg #[.int .i64 0, .slice none 0 0], .bool false]) ∧ Below w'.heap.size w' w'') := fun w' h' => by
    rcases hb with hm | ⟨hm, he⟩
    · exact graph_many n a m c A d w' h' hm
    · exact graph_bad n a m c A d w' h' hc hm he
  clear h hc hb
  go_enter Try.func10, Try.ntmps10
  go_wp2_with (first
    | (go_at_call 30; refine (awakeS_any _).mono ?_; rintro e w1 ⟨rfl, h1⟩; have H1 := hide (HS.out.later h1); have c0 := H1.out.c0; have c1 := H1.out.c1; clear h1)
    | (go_at_call 31; refine (HGR.out _ H1.out.arcs).mono ?_; rintro e w2 ⟨rfl, h2⟩; have H2 := hide (H1.out.later h2); clear h2))
  go_ret
  exact ⟨rfl, (H2.out.below.alloc H2.out.below.size _).alloc (by have := H2.out.below.size; simp; omega) _⟩
set_option maxRecDepth 100000 in
set_option maxHeartbeats 6400000 in
theorem tri_good (n : Nat) (a : Option Addr) (m c : Nat) (A : List Arc) (d : Bool) (w : World) (h : ArcsAt w a m A) (hc : a = none → c = 0) (hm : m ≤ 300) (he : (checkM n A).2 = 0) :
    Calls Try.prog 10 #[.agg #[.int .i64 n, .slice a m c], .bool d] w fun e w' => e = .returned (.bool true) ∧ Below w.heap.size w w' := by
  obtain ⟨hn0, hl, hok⟩ := checkM_ok he
  have hn : 1 ≤ n ∧ n ≤ 32 := by omega
  have HN := hide hn
  have HM := hide (mt_pos he d)
  have HWO : Hid (WOk n (tab (legsM (mtM d) A))) := fun p q x _ _ hx => tab_pos HM.out p q x hx
  have HS := hide (rin_start w n a m c A h)
  have HGR := hide (fun (w' : World) (h' : ArcsAt w' a m A) => graph_good n a m c A d w' h' hc hm he)
  obtain ⟨Q, hQ⟩ : ∃ Q, n * n = Q := ⟨_, rfl⟩
  have HQ := hide hQ
  have hQb : Q ≤ 1024 := by rw [← hQ]; exact (mul_wrap hn.2 hn.2).2
  have HQ0 : Hid (0 < n * n) := Nat.mul_pos (by omega) (by omega)
  clear h hc he hn0 hok hQ
  generalize tab (legsM (mtM d) A) = W at HWO HGR
  have HL1 : Hid ((cellsM n W).length = Q) := (cellsM_len n W).trans HQ.out
  have HL2 : Hid ((cellsM n (least n W)).length = Q) := (cellsM_len n (least n W)).trans HQ.out
  go_enter Try.func10, Try.ntmps10
  go_upto_region 7 with (first
    | (go_at_call 30; refine (awakeS_any _).mono ?_; rintro e w1 ⟨rfl, h1⟩; have H1 := hide (HS.out.later h1); have c0 := H1.out.c0; have c1 := H1.out.c1; clear h1)
    | (go_at_call 31; refine (HGR.out _ H1.out.arcs).mono ?_; rintro e w2 ⟨g, vt, vl, rfl, h2, h3, h4, h5⟩; obtain ⟨tg, tc, rfl, _⟩ := h3.form (by rw [cellsM_len]; exact HQ0.out); obtain ⟨lg, lc, rfl, _⟩ := h4.form (by rw [cellsM_len]; exact HQ0.out); rw [HL1.out] at h3 ⊢; rw [HL2.out] at h4 ⊢; have H3 := hide (g3_mk (H1.out.later h5) h2 h3 h4 HQ.out); clear h2 h3 h4 h5)
    | (go_at_call 35; refine (all_any H3.out.gr HN.out HWO.out).mono ?_; rintro e w3 ⟨v3, rfl, h1, h2⟩; obtain ⟨ga, ca, rfl, _⟩ := h1.form (by rw [cellsM_len]; exact HQ0.out); rw [HL2.out] at h1 ⊢; have H5 := hide (And.intro (H3.out.later h2) h1); clear h1 h2))
  have HZ : Hid (T2 w.heap.size w n w2.heap.size w3.heap.size tg tc ga ca Q (cellsM n W) (cellsM n (least n W)) (w3.alloc (.cells #[.int .i64 n, .slice (some ⟨ga, 0, none⟩) Q ca] 41))) := by
    have f1 : Below w3.heap.size w3 (w3.alloc (.cells #[.int .i64 n, .slice (some ⟨ga, 0, none⟩) Q ca] 41)) := (Below.refl _ _).alloc (Nat.le_refl _) _
    exact ⟨(H5.out.1.rin.later f1).below, H5.out.1.mt.later f1, MBox.mk' (H5.out.2.later (Nat.le_refl _) f1) HL2.out (heap_alloc_new _ _)⟩
  obtain ⟨b1, hb1⟩ : ∃ b, w2.heap.size = b := ⟨_, rfl⟩
  obtain ⟨b2, hb2⟩ : ∃ b, w3.heap.size = b := ⟨_, rfl⟩
  rw [hb1, hb2] at HZ
  try rw [hb2]
  try rw [hb1]
  generalize w3.alloc (.cells #[.int .i64 n, .slice (some ⟨ga, 0, none⟩) Q ca] 41) = W6 at HZ ⊢
  clear H1 H3 H5 hb1 hb2 c0 c1
  go_wp2
  go_loopw [10] (fun vi wr => ∃ i : Nat, vi = .int .i64 i ∧ i ≤ n ∧ Hid (T2 w.heap.size w n b1 b2 tg tc ga ca Q (cellsM n W) (cellsM n (least n W)) wr)) (fun vi _ => n - (intOf vi).toNat)
  case atStart => exact ⟨0, rfl, Nat.zero_le _, HZ.out⟩
  case round =>
    clear HZ
    obtain ⟨i, rfl, hi, HR⟩ := hrel
    have r0 := HR.out.b.c0
    by_cases hlt : i < n
    · have i1 : (i : Int) < (n : Int) := by omega
      obtain ⟨hmul, hmb⟩ := mul_wrap (show i ≤ 32 by omega) hn.2
      obtain ⟨Pi, hPi⟩ : ∃ P, i * n = P := ⟨_, rfl⟩
      have HPI := hide hPi
      rw [hPi] at hmul hmb
      clear hPi
      have l0 := cell_lt hlt hlt
      rw [HPI.out, HQ.out] at l0
      have x0 := HR.out.b.cells (Pi + i) l0
      have e0 : (cellsM n (least n W))[Pi + i]! = 0 := by rw [← HPI.out, cellsM_at _ hlt hlt, (least_is HWO.out i hlt).here]; rfl
      rw [e0] at x0
      have r1 := HR.out.b.c1
      have z0 : ((0 : Int) != 0) = false := by decide
      have k0 : (Pi : Int) + (i : Int) < (Q : Int) := by omega
      clear e0
      go_wp2
      clear r0 r1 x0
      go_loopw [11] (fun vi wr => ∃ j : Nat, vi = .int .i64 j ∧ j ≤ n ∧ Hid (T2 w.heap.size w n b1 b2 tg tc ga ca Q (cellsM n W) (cellsM n (least n W)) wr)) (fun vi _ => n - (intOf vi).toNat)
      case atStart => exact ⟨0, rfl, Nat.zero_le _, HR.out⟩
      case round =>
        clear HR
        obtain ⟨j, rfl, hj, HR⟩ := hrel
        have r0 := HR.out.b.c0
        by_cases hjn : j < n
        · have j1 : (j : Int) < (n : Int) := by omega
          have l1 := cell_lt hlt hjn
          rw [HPI.out, HQ.out] at l1
          have x1 := HR.out.b.cells (Pi + j) l1
          have x2 := HR.out.a.cells (Pi + j) l1
          have e1 : (cellsM n (least n W))[Pi + j]! = cv (least n W i j) := by rw [← HPI.out]; exact cellsM_at _ hlt hjn
          have e2 : (cellsM n W)[Pi + j]! = cv (W i j) := by rw [← HPI.out]; exact cellsM_at _ hlt hjn
          rw [e1] at x1
          rw [e2] at x2
          have r1 := HR.out.b.c1
          have s1 := HR.out.a.c1
          have s0 := HR.out.a.c0
          have k1 : (Pi : Int) + (j : Int) < (Q : Int) := by omega
          have HED := hide (tri_edge HWO.out hlt hjn)
          have bc := cv_least HWO.out hn.2 hlt hjn
          have HT := hide (fun k (hk : k < n) => tri_three HWO.out hlt hjn hk)
          clear e1 e2
          generalize cv (W i j) = xw at x2 HED
          generalize cv (least n W i j) = xc at x1 HED HT bc
          have HNX : ∀ (Q1 : Prop), Q1 → Q1 := fun _ h => h
          clear HNX
          by_cases hw : 0 ≤ xw
          · have hcw := HED.out hw
            have g1 : ¬ xc < 0 := by omega
            have g2 : ¬ xw < xc := by omega
            go_wp2
            clear r0 r1 s0 s1 x1 x2
            go_loopw [14] (fun vi wr => ∃ k : Nat, vi = .int .i64 k ∧ k ≤ n ∧ Hid (T2 w.heap.size w n b1 b2 tg tc ga ca Q (cellsM n W) (cellsM n (least n W)) wr)) (fun vi _ => n - (intOf vi).toNat)
            case atStart => exact ⟨0, rfl, Nat.zero_le _, HR.out⟩
            case round =>
              clear HR
              obtain ⟨k, rfl, hk, HR⟩ := hrel
              have r0 := HR.out.b.c0
              by_cases hkn : k < n
              · have kk1 : (k : Int) < (n : Int) := by omega
                obtain ⟨hmulk, hmbk⟩ := mul_wrap (show k ≤ 32 by omega) hn.2
                obtain ⟨Pk, hPk⟩ : ∃ P, k * n = P := ⟨_, rfl⟩
                have HPK := hide hPk
                rw [hPk] at hmulk hmbk
                have l2 := cell_lt hlt hkn
                have l3 := cell_lt hkn hjn
                rw [HPI.out, HQ.out] at l2
                rw [HPK.out, HQ.out] at l3
                have y1 := HR.out.b.cells (Pi + k) l2
                have y2 := HR.out.b.cells (Pk + j) l3
                have e1 : (cellsM n (least n W))[Pi + k]! = cv (least n W i k) := by rw [← HPI.out]; exact cellsM_at _ hlt hkn
                have e2 : (cellsM n (least n W))[Pk + j]! = cv (least n W k j) := by rw [← HPK.out]; exact cellsM_at _ hkn hjn
                rw [e1] at y1
                rw [e2] at y2
                have r1 := HR.out.b.c1
                have k2 : (Pi : Int) + (k : Int) < (Q : Int) := by omega
                have k3 : (Pk : Int) + (j : Int) < (Q : Int) := by omega
                have ba := cv_least HWO.out hn.2 hlt hkn
                have bb := cv_least HWO.out hn.2 hkn hjn
                have HT3 := hide (HT.out k hkn)
                generalize cv (least n W i k) = xa at y1 ba HT3
                generalize cv (least n W k j) = xb at y2 bb HT3
                clear hPk e1 e2
                go_wp2
                go_quiet (fail)
                by_cases ha : 0 ≤ xa
                · by_cases hb : 0 ≤ xb
                  · have h3 := HT3.out ha hb
                    have g4 : ¬ xc < 0 := by omega
                    have g5 : ¬ xa + xb < xc := by omega
                    go_wp2
                    go_roundw
                    case rel => exact ⟨k + 1, by go_num, by omega, HR.out.drewN nq⟩
                    case measure => simp [intOf]; omega
                  · have g4 : xb < 0 := by omega
                    go_wp2
                    go_roundw
                    case rel => exact ⟨k + 1, by go_num, by omega, HR.out.drewN nq⟩
                    case measure => simp [intOf]; omega
                · have g4 : xa < 0 := by omega
                  go_wp2
                  go_roundw
                  case rel => exact ⟨k + 1, by go_num, by omega, HR.out.drewN nq⟩
                  case measure => simp [intOf]; omega
              · go_wp2
                go_roundw
                case rel => exact ⟨j + 1, by go_num, by omega, HR.out⟩
                case measure => simp [intOf]; omega
          · have g1 : xw < 0 := by omega
            go_wp2
            clear r0 r1 s0 s1 x1 x2
            go_loopw [14] (fun vi wr => ∃ k : Nat, vi = .int .i64 k ∧ k ≤ n ∧ Hid (T2 w.heap.size w n b1 b2 tg tc ga ca Q (cellsM n W) (cellsM n (least n W)) wr)) (fun vi _ => n - (intOf vi).toNat)
            case atStart => exact ⟨0, rfl, Nat.zero_le _, HR.out⟩
            case round =>
              clear HR
              obtain ⟨k, rfl, hk, HR⟩ := hrel
              have r0 := HR.out.b.c0
              by_cases hkn : k < n
              · have kk1 : (k : Int) < (n : Int) := by omega
                obtain ⟨hmulk, hmbk⟩ := mul_wrap (show k ≤ 32 by omega) hn.2
                obtain ⟨Pk, hPk⟩ : ∃ P, k * n = P := ⟨_, rfl⟩
                have HPK := hide hPk
                rw [hPk] at hmulk hmbk
                have l2 := cell_lt hlt hkn
                have l3 := cell_lt hkn hjn
                rw [HPI.out, HQ.out] at l2
                rw [HPK.out, HQ.out] at l3
                have y1 := HR.out.b.cells (Pi + k) l2
                have y2 := HR.out.b.cells (Pk + j) l3
                have e1 : (cellsM n (least n W))[Pi + k]! = cv (least n W i k) := by rw [← HPI.out]; exact cellsM_at _ hlt hkn
                have e2 : (cellsM n (least n W))[Pk + j]! = cv (least n W k j) := by rw [← HPK.out]; exact cellsM_at _ hkn hjn
                rw [e1] at y1
                rw [e2] at y2
                have r1 := HR.out.b.c1
                have k2 : (Pi : Int) + (k : Int) < (Q : Int) := by omega
                have k3 : (Pk : Int) + (j : Int) < (Q : Int) := by omega
                have ba := cv_least HWO.out hn.2 hlt hkn
                have bb := cv_least HWO.out hn.2 hkn hjn
                have HT3 := hide (HT.out k hkn)
                generalize cv (least n W i k) = xa at y1 ba HT3
                generalize cv (least n W k j) = xb at y2 bb HT3
                clear hPk e1 e2
                go_wp2
                go_quiet (fail)
                by_cases ha : 0 ≤ xa
                · by_cases hb : 0 ≤ xb
                  · have h3 := HT3.out ha hb
                    have g4 : ¬ xc < 0 := by omega
                    have g5 : ¬ xa + xb < xc := by omega
                    go_wp2
                    go_roundw
                    case rel => exact ⟨k + 1, by go_num, by omega, HR.out.drewN nq⟩
                    case measure => simp [intOf]; omega
                  · have g4 : xb < 0 := by omega
                    go_wp2
                    go_roundw
                    case rel => exact ⟨k + 1, by go_num, by omega, HR.out.drewN nq⟩
                    case measure => simp [intOf]; omega
                · have g4 : xa < 0 := by omega
                  go_wp2
                  go_roundw
                  case rel => exact ⟨k + 1, by go_num, by omega, HR.out.drewN nq⟩
                  case measure => simp [intOf]; omega
              · go_wp2
                go_roundw
                case rel => exact ⟨j + 1, by go_num, by omega, HR.out⟩
                case measure => simp [intOf]; omega
        · go_wp2
          go_roundw
          case rel => exact ⟨i + 1, by go_num, by omega, HR.out⟩
          case measure => simp [intOf]; omega
    · go_wp2
      go_ret
      exact ⟨rfl, HR.out.below⟩
theorem tri_any (n : Int) (a : Option Addr) (m c : Nat) (A : List Arc) (d : Bool) (w : World) (h : ArcsAt w a m A) (hc : a = none → c = 0) :
    Calls Try.prog 10 #[.agg #[.int .i64 n, .slice a m c], .bool d] w fun e w' => e = .returned (.bool true) ∧ Below w.heap.size w w' := by
  by_cases hm : 300 < m
  · exact tri_bad n a m c A d w h hc (.inl hm)
  · by_cases he : (checkM n A).2 = 0
    · obtain ⟨hn, _⟩ := checkM_ok he
      obtain ⟨k, rfl⟩ : ∃ k : Nat, n = (k : Int) := ⟨n.toNat, by omega⟩
      exact tri_good k a m c A d w h hc (by omega) he
    · exact tri_bad n a m c A d w h hc (.inr ⟨by omega, he⟩)
end Go.Proofs.Ytkgpjhechopfhaa
