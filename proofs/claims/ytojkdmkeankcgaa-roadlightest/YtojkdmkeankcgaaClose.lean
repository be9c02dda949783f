/-
  What the call of short's close does.
-/
import Derived.Test.YtojkdmkeankcgaaCloseA
namespace Go.Proofs.Ytojkdmkeankcgaa
open Go.RowKit Go.Sort

/-- While close runs: the search, the row of edges, how far it is. -/
structure ClIn (B : Nat) (w0 : World) (sb q gc gl ga n : Nat) (W : Nat → Nat → Option Int) (s : Nat) (D : Nat → Option Int) (rk : Nat → Nat) (p : Nat) (k : Int) (va : Option Addr) (c : Nat) (A : Nat → Int) (X : List Qu.Pr) (S : Nat → Prop) (wr : World) : Prop where
  below : Below B w0 wr
  hB : B ≤ wr.heap.size
  sr : SrAt B wr sb q gc gl ga n D A X S
  row : ERow wr va (rowM n W p) gc gl ga S
  mid : Mid n W s D X A rk p k c
set_option maxRecDepth 100000 in
set_option maxHeartbeats 6400000 in
theorem close_any {B sb q gc gl ga n s p rc : Nat} {w : World} {W : Nat → Nat → Option Int} {D : Nat → Option Int} {A : Nat → Int} {rk : Nat → Nat} {X : List Qu.Pr} {S : Nat → Prop} {k : Int} {va : Option Addr}
    (hn : 1 ≤ n ∧ n ≤ 32) (hW : WOk n W) (hp : p < n) (hB : B ≤ w.heap.size) (h : SrAt B w sb q gc gl ga n D A X S) (hr : ERow w va (rowM n W p) gc gl ga S) (hm : Mid n W s (upd D p (some k)) X A rk p k 0) :
    Calls Try.prog 54 #[.pointer (some ⟨sb, 0, none⟩), .int .i64 p, .int .i64 k, .slice va (rowM n W p).length rc] w fun e w' => e = .returned (.tuple #[]) ∧ ∃ A' X' S', SrAt B w' sb q gc gl ga n (upd D p (some k)) A' X' S' ∧ Mid n W s (upd D p (some k)) X' A' rk p k (rowM n W p).length ∧ Below B w w' := by
  have HN := hide hn
  have HW := hide hW
  have hrl := rowM_len n W p
  have hkb : 0 ≤ k ∧ k ≤ 64000000 := by
    have h1 := hm.core.clo p k hm.hp
    have h2 := cnt_le (upd D p (some k)) n
    omega
  have HPL := hide hp
  obtain ⟨c0, c1, c2, c3⟩ := h.c
  obtain ⟨y1, y2⟩ := h.cclo p hp
  obtain ⟨z1, z2⟩ := h.clst p hp
  have HS : Hid (ClIn B w sb q gc gl ga n W s (upd D p (some k)) rk p k va 0 A X S ((w.setCell ⟨gc, p, none⟩ (.bool true)).setCell ⟨gl, p, none⟩ (.int .i64 k))) :=
    ⟨((Below.refl _ _).setCell h.ge.2.1 _).setCell h.ge.2.2.1 _, by simpa [World.setCell] using hB, h.mark p k, (hr.set (.inl rfl) _).set (.inr (.inl rfl)) _, hm⟩
  obtain ⟨m1, m2, m3, m4, m5⟩ := h.nes
  have i1 : (p : Int) < (n : Int) := by omega
  generalize upd D p (some k) = D' at HS ⊢
  clear h hr hm
  go_enter Try.func54, Try.ntmps54
  go_wp2
  generalize (w.setCell ⟨gc, p, none⟩ (.bool true)).setCell ⟨gl, p, none⟩ (.int .i64 k) = W0 at HS ⊢
  clear c0 c1 c2 c3 y1 y2 z1 z2
  go_loopw [25] (fun vi wr => ∃ c : Nat, vi = .int .i64 c ∧ c ≤ (rowM n W p).length ∧ Hid (∃ A' X' S', ClIn B w sb q gc gl ga n W s D' rk p k va c A' X' S' wr)) (fun vi _ => (rowM n W p).length - (intOf vi).toNat)
  case atStart => exact ⟨0, rfl, Nat.zero_le _, _, _, _, HS.out⟩
  case round =>
    clear HS
    obtain ⟨c, rfl, hc, HR⟩ := hrel
    obtain ⟨A1, X1, S1, hC⟩ := HR.out
    by_cases hlt : c < (rowM n W p).length
    · obtain ⟨gb, hva, g1, g2, g3, g4, d0, d1⟩ := hC.row c hlt
      subst hva
      have i2 : (c : Int) < ((rowM n W p).length : Int) := by omega
      have hmem : (rowM n W p)[c]! ∈ rowM n W p := by rw [getElem!_pos _ c hlt]; exact List.getElem_mem _
      obtain ⟨v, x, hv, hx, hrow⟩ := mem_rowM.1 hmem
      rw [hrow] at d0 d1
      simp only at d0 d1
      have hxb := HW.out p v x HPL.out hv hx
      have i3 : (v : Int) < (n : Int) := by omega
      have HC := hide hC
      have HSA := hide (hC.sr.later ((Below.refl _ _).alloc (Nat.le_refl _) (.cells #[.int .i64 v, .int .i64 x] 71)))
      have HRA := hide (hC.row.later ((Below.refl _ _).alloc (Nat.le_refl _) (.cells #[.int .i64 v, .int .i64 x] 71)))
      have HBA : Hid (Below B w (wr.alloc (.cells #[.int .i64 v, .int .i64 x] 71)) ∧ B ≤ (wr.alloc (.cells #[.int .i64 v, .int .i64 x] 71)).heap.size) := ⟨hC.below.alloc hC.hB _, by have := hC.hB; simp; omega⟩
      have hnew := heap_alloc_new wr (.cells #[.int .i64 v, .int .i64 x] 71)
      have eb0 := cell_of_row _ wr.heap.size 0 _ _ _ hnew
      have eb1 := cell_of_row _ wr.heap.size 1 _ _ _ hnew
      simp only [List.getElem?_toArray, List.getElem?_cons_succ, List.getElem?_cons_zero] at eb0 eb1
      have hsz : wr.heap.size < (wr.alloc (.cells #[.int .i64 v, .int .i64 x] 71)).heap.size := by simp
      obtain ⟨E, hE⟩ : ∃ E, wr.heap.size = E := ⟨_, rfl⟩
      have HEE := hide hE
      rw [hE] at eb0 eb1 hsz
      clear hC hmem HR hnew hE
      cases hD : D' v with
      | some d =>
        have HM : Hid (Mid n W s D' X1 A1 rk p k (c + 1)) := mid_skip HC.out.mid HW.out HPL.out hlt (d := d) (by rw [hrow]; exact hD)
        go_wp2
        try rw [HEE.out]
        generalize wr.alloc (.cells #[.int .i64 v, .int .i64 x] 71) = W1 at HSA HRA HBA eb0 eb1 hsz ⊢
        obtain ⟨c0, c1, c2, c3⟩ := HSA.out.c
        have y1 := (HSA.out.cclo v hv).1
        rw [hD] at y1
        simp only [Option.isSome_some] at y1
        clear d0 d1 hD
        go_quiet (fail)
        go_wp2
        go_roundw
        case rel => exact ⟨c + 1, by go_num, by omega, A1, X1, S1, Qu.below_drewN HBA.out.1 nq, HBA.out.2, HSA.out.drewN nq, HRA.out.later (Qu.below_drewN (Below.refl _ _) nq), HM.out⟩
        case measure => simp [intOf]; omega
      | none =>
        have HM := hide (mid_put HC.out.mid hn.2 HW.out HPL.out hlt hrow hD)
        go_wp2
        try rw [HEE.out]
        generalize wr.alloc (.cells #[.int .i64 v, .int .i64 x] 71) = W1 at HSA HRA HBA eb0 eb1 hsz ⊢
        obtain ⟨c0, c1, c2, c3⟩ := HSA.out.c
        have y1 := (HSA.out.cclo v hv).1
        rw [hD] at y1
        simp only [Option.isSome_none] at y1
        have HPU := hide (sr_put2 (HSA.out.drewN 1) HBA.out.2 v (k + x) ⟨by omega, by omega⟩ ⟨by omega, by omega⟩)
        have HES : Hid (¬ S1 E) := fun e => by have := HC.out.sr.que.lt E e; have := HEE.out; omega
        generalize Qu.putM X1 v (k + x) = pm at HM HPU
        obtain ⟨X2, b⟩ := pm
        simp only at HM HPU
        have HD := hide hD
        clear d0 d1 hD
        have i4 : 0 ≤ k ∧ k ≤ 4000000000 := by omega
        have i5 : 0 ≤ x ∧ x ≤ 4000000000 := by omega
        first | (go_region_held (fun w' => w'.cell? ⟨sb, 0, none⟩ = some (.pointer (some ⟨q, 0, none⟩)) ∧ w'.cell? ⟨sb, 1, none⟩ = some (.slice (some ⟨gc, 0, none⟩) n n) ∧ w'.cell? ⟨E, 0, none⟩ = some (.int .i64 v) ∧ w'.cell? ⟨E, 1, none⟩ = some (.int .i64 x) ∧ w'.cell? ⟨gc, v, none⟩ = some (.bool false)) (go_keep) (first | (go_at_call 70; refine (plus_any k x i4 i5 _).mono ?_; rintro e w2 ⟨rfl, hw⟩; rw [hw]; clear hw) | (go_at_call 36; refine HPU.out.mono ?_; rintro e w3 ⟨rfl, S2, h1, h2, h3⟩; obtain ⟨t0, t1, t2, t3⟩ := h1.c; have t4 := (h1.cclo v hv).1; rw [HD.out] at t4; simp only [Option.isSome_none] at t4; have t5 : w3.cell? ⟨E, 0, none⟩ = some (.int .i64 v) := (by rw [← eb0]; unfold World.cell?; simp only [h2.block E hsz HES.out]; rfl); have t6 : w3.cell? ⟨E, 1, none⟩ = some (.int .i64 x) := (by rw [← eb1]; unfold World.cell?; simp only [h2.block E hsz HES.out]; rfl); have H3 := hide (And.intro h1 (And.intro h2 h3)); clear h1 h2 h3)))
        have HB3 : Hid (Below B w w3 ∧ B ≤ w3.heap.size) := by
          have f1 : Below B (W1.drewN 1) w3 := H3.out.2.1.below HBA.out.2 HSA.out.ge.2.2.2.2
          exact ⟨(Qu.below_drewN HBA.out.1 1).trans f1, Nat.le_trans HBA.out.2 f1.size⟩
        have HR3 : Hid (ERow w3 (some ⟨gb, 0, none⟩) (rowM n W p) gc gl ga S2) := (HRA.out.later (Qu.below_drewN (Below.refl _ _) 1)).fr H3.out.2.1 H3.out.2.2
        cases b
        · have HM2 : Hid (Mid n W s D' X2 A1 rk p k (c + 1)) := by show Mid _ _ _ _ _ _ _ _ _ _; have := HM.out; simpa using this
          go_wp2
          go_roundw
          case rel => exact ⟨c + 1, by go_num, by omega, A1, X2, S2, HB3.out.1, HB3.out.2, H3.out.1, HR3.out, HM2.out⟩
          case measure => simp [intOf]; omega
        · have HM2 : Hid (Mid n W s D' X2 (upd A1 v (p : Int)) rk p k (c + 1)) := by show Mid _ _ _ _ _ _ _ _ _ _; have := HM.out; simpa using this
          obtain ⟨a1, a2⟩ := H3.out.1.cahd v hv
          have HE3 : Hid (ClIn B w sb q gc gl ga n W s D' rk p k (some ⟨gb, 0, none⟩) (c + 1) (upd A1 v (p : Int)) X2 S2 (w3.setCell ⟨ga, v, none⟩ (.int .i64 p))) :=
            ⟨HB3.out.1.setCell H3.out.1.ge.2.2.2.1 _, by simpa [World.setCell] using HB3.out.2, H3.out.1.lead v p, HR3.out.set (.inr (.inr rfl)) _, HM2.out⟩
          go_wp2
          go_region
          all_goals
            go_wp2
            go_roundw
            case rel => exact ⟨c + 1, by go_num, by omega, _, X2, S2, Qu.below_drewN HE3.out.below 1, HE3.out.hB, HE3.out.sr.drewN 1, HE3.out.row.later (Qu.below_drewN (Below.refl _ _) 1), HE3.out.mid⟩
            case measure => simp [intOf]; omega
    · have hce : c = (rowM n W p).length := by omega
      subst hce
      go_wp2
      go_end0
      exact ⟨rfl, A1, X1, S1, hC.sr, hC.mid, hC.below⟩
end Go.Proofs.Ytojkdmkeankcgaa
