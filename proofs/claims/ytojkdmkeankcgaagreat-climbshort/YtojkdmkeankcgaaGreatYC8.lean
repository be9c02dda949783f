/-
  Several texts in one.
-/
import Derived.Test.YtojkdmkeankcgaaGreatYSm
import Derived.Deep.CutRange
import Derived.Deep.LoopGhost
/-  What the call of climb's close does. -/
namespace Go.Proofs.YtojkdmkeankcgaaGreat
open Go.RowKit Go.Sort

theorem links_up {n : Nat} {w : World} {b : LfB} {rv : Nat → Int} {U V : Mx} (h : LfA n w b rv U V) (hn : n ≤ 32) {p : Nat} (hp : p < n) : Calls Tryz.prog 18 #[.pointer (some ⟨b.l, 0, none⟩), .int .i64 p] w fun e w' => ∃ v, e = .returned v ∧ LRow w' w.heap.size v (upL n U p) ∧ Below w.heap.size w w' := lup_any h hn hp
theorem links_dn {n : Nat} {w : World} {b : LfB} {rv : Nat → Int} {U V : Mx} (h : LfA n w b rv U V) (hn : n ≤ 32) {p : Nat} (hp : p < n) : Calls Tryz.prog 19 #[.pointer (some ⟨b.l, 0, none⟩), .int .i64 p] w fun e w' => ∃ v, e = .returned v ∧ LRow w' w.heap.size v (dnL n V p) ∧ Below w.heap.size w w' := ldown_any h hn hp
/-- While close runs. -/
structure ClIn8 (B : Nat) (w0 : World) (sb q gc gl gy n : Nat) (lk lo hi : Value) (s : Int) (sN : Nat) (up : Bool) (E : Mx) (D : Nat → Option Int) (p : Nat) (k : Int) (va : Option Addr) (c : Nat) (A : Nat → Lnk) (X : List Qu.Pr) (S : Nat → Prop) (wr : World) : Prop where
  below : Below B w0 wr
  hB : B ≤ wr.heap.size
  sq : SqAt B wr sb q gc gl gy n lk lo hi s D A X S
  row : KRow wr va (rowS up n E p) gc gl gy S
  md : Md8 n up E sN D X A p k c
/-- Behind the call of upper: the link's own block. -/
structure Lk2 (wr wx : World) (cs : Array Value) : Prop where
  below : Below wr.heap.size wr wx
  new : wx.heap[wr.heap.size]? = some (.cells cs 46 (0, 0))
theorem lk2_mk {wr : World} {cs : Array Value} (h : Below wr.heap.size wr (wr.alloc (.cells cs 46))) (hn : (wr.alloc (.cells cs 46)).heap[wr.heap.size]? = some (.cells cs 46 (0, 0))) (nq : Nat) : Lk2 wr (((wr.alloc (.cells cs 46)).drewN nq).alloc (.cells cs 46)) cs := by
  have f : Below (wr.alloc (.cells cs 46)).heap.size (wr.alloc (.cells cs 46)) (((wr.alloc (.cells cs 46)).drewN nq).alloc (.cells cs 46)) := (Qu.below_drewN (Below.refl (wr.alloc (.cells cs 46)).heap.size _) nq).alloc (by simp) _
  exact ⟨h.trans (f.mono h.size), (f.block _ (by simp)).trans hn⟩
theorem lk2_lt {wr wx : World} {cs : Array Value} (h : Lk2 wr wx cs) : wr.heap.size < wx.heap.size := (Array.getElem?_eq_some_iff.1 h.new).1
theorem lk2_c2 {wr wx : World} {a b c d : Value} (h : Lk2 wr wx #[a, b, c, d]) : wx.cell? ⟨wr.heap.size, 2, none⟩ = some c := by rw [cell_of_row _ wr.heap.size 2 _ _ _ h.new]; rfl
theorem lk2_cells {wr wx w3 : World} {a b c d : Value} (h : Lk2 wr wx #[a, b, c, d]) (h3 : w3.heap[wr.heap.size]? = wx.heap[wr.heap.size]?) : w3.cell? ⟨wr.heap.size, 0, none⟩ = some a ∧ w3.cell? ⟨wr.heap.size, 1, none⟩ = some b ∧ w3.cell? ⟨wr.heap.size, 2, none⟩ = some c ∧ w3.cell? ⟨wr.heap.size, 3, none⟩ = some d := by
  have e := h3.trans h.new
  exact ⟨by rw [cell_of_row _ wr.heap.size 0 _ _ _ e]; rfl, by rw [cell_of_row _ wr.heap.size 1 _ _ _ e]; rfl, by rw [cell_of_row _ wr.heap.size 2 _ _ _ e]; rfl, by rw [cell_of_row _ wr.heap.size 3 _ _ _ e]; rfl⟩
set_option maxRecDepth 100000
set_option maxHeartbeats 12800000

/-- What upclose does. -/
theorem close_up {B sb q gc gl gy n sN p : Nat} {w : World} {b : LfB} {rv : Nat → Int} {U V : Mx} {E : Mx} {φ : Nat → Int} {ρ : Nat → Nat} {s : Int} {D : Nat → Option Int} {A : Nat → Lnk} {X : List Qu.Pr} {S : Nat → Prop} {k : Int}
    (hEU : E = U) (hn : n ≤ 32) (hE : EOk8 n E φ ρ) (hs : sN < n) (hp : p < n) (hB : B ≤ w.heap.size) (hl : LfA n w b rv U V) (hlB : ∀ k, b.S n k → k < B)
    (h : SqAt B w sb q gc gl gy n (.func (.func 18) #[.pointer (some ⟨b.l, 0, none⟩)] #[]) (.func (.func 66) #[] #[]) (.func (.func 67) #[] #[]) s D A X S) (hm : Md8 n true E sN (upd D p (some k)) X A p k 0) :
    Calls Tryz.prog 90 #[.pointer (some ⟨sb, 0, none⟩), .int .i64 p, .int .i64 k, .pointer (some ⟨q, 0, none⟩)] w fun e w' => e = .returned (.tuple #[]) ∧ ∃ A' X' S', SqAt B w' sb q gc gl gy n (.func (.func 18) #[.pointer (some ⟨b.l, 0, none⟩)] #[]) (.func (.func 66) #[] #[]) (.func (.func 67) #[] #[]) s (upd D p (some k)) A' X' S' ∧ Md8 n true E sN (upd D p (some k)) X' A' p k (rowS true n E p).length ∧ Below B w w' := by
  have HN := hide hn
  have HE := hide hE
  have HRL := hide (rowS_len true n E p)
  have hkb : 0 ≤ k ∧ k ≤ 4294967296000000 := hE.lid (hm.core.clo p k hm.hp).2 hs hp
  have HPL := hide hp
  obtain ⟨c0, c1, c2, c3, c4, c5, c6⟩ := h.sd.c
  have y1 := h.sd.cclo hp
  have y2 := frozen_of_row w gc p _ _ h.sd.clo
  have z1 := h.sd.clst hp
  have z2 := frozen_of_row w gl p _ _ h.sd.lst
  obtain ⟨m1, m2, m3, m4, m5, m6⟩ := h.sd.nes
  have i1 : (p : Int) < (n : Int) := by omega
  have HQ := hide (h.mark p k)
  have f0 : Below B w ((w.setCell ⟨gc, p, none⟩ (.bool true)).setCell ⟨gl, p, none⟩ (.int .i64 k)) := ((Below.refl _ _).setCell h.sd.ge.2.1 _).setCell h.sd.ge.2.2.1 _
  have HF0 := hide f0
  have HLK := hide (links_up (hl.of_blocks fun k hk => f0.block k (hlB k hk)) hn hp)
  have hSB : B ≤ ((w.setCell ⟨gc, p, none⟩ (.bool true)).setCell ⟨gl, p, none⟩ (.int .i64 k)).heap.size := by simpa [World.setCell] using hB
  have HSB := hide hSB
  have HROW : Hid (upL n U p = rowS true n E p) := by show _ = _; rw [hEU]; rfl
  have HM := hide hm
  generalize upd D p (some k) = D' at HQ HM ⊢
  clear h hm hl hE f0 hSB hEU
  go_enter Tryz.func90, Tryz.ntmps90
  go_wp2_with (go_at_call 18; refine HLK.out.mono ?_; rintro e w1 ⟨v, rfl, h1, h2⟩; rw [HROW.out] at h1; obtain ⟨va, rc, rfl⟩ := h1.shape; have H1 := hide (And.intro h1 h2); clear h1 h2)
  generalize (w.setCell ⟨gc, p, none⟩ (.bool true)).setCell ⟨gl, p, none⟩ (.int .i64 k) = W0 at HQ HF0 HSB H1
  have HS : Hid (ClIn8 B w sb q gc gl gy n (.func (.func 18) #[.pointer (some ⟨b.l, 0, none⟩)] #[]) (.func (.func 66) #[] #[]) (.func (.func 67) #[] #[]) s sN true E D' p k va 0 A X S w1) := by
    obtain ⟨l1, l2, l3, l4⟩ := HQ.out.sd.lts
    exact ⟨HF0.out.trans (H1.out.2.mono HSB.out), Nat.le_trans HSB.out H1.out.2.size, HQ.out.later H1.out.2, krow_of H1.out.1 (fun k hk => HQ.out.que.lt k hk) l2 l3 l4, HM.out⟩
  clear HQ HF0 HSB H1 HLK HM c0 c1 c2 c3 c4 c5 c6 y1 y2 z1 z2 HROW
  go_loopw [31] (fun vi wr => ∃ c : Nat, vi = .int .i64 c ∧ c ≤ (rowS true n E p).length ∧ Hid (∃ A' X' S', ClIn8 B w sb q gc gl gy n (.func (.func 18) #[.pointer (some ⟨b.l, 0, none⟩)] #[]) (.func (.func 66) #[] #[]) (.func (.func 67) #[] #[]) s sN true E D' p k va c A' X' S' wr)) (fun vi _ => (rowS true n E p).length - (intOf vi).toNat)
  case atStart => exact ⟨0, rfl, Nat.zero_le _, _, _, _, HS.out⟩
  case round =>
    clear HS
    obtain ⟨c, rfl, hc, HR⟩ := hrel
    obtain ⟨A1, X1, S1, hC⟩ := HR.out
    by_cases hlt : c < (rowS true n E p).length
    · obtain ⟨gb, hva, g1, g2, g3, g4, glt, d0, d1, d2, d3⟩ := hC.row c hlt
      subst hva
      have hRL := HRL.out
      obtain ⟨R, hR⟩ : ∃ R, (rowS true n E p).length = R := ⟨_, rfl⟩
      have HRR := hide hR
      have i2 : (c : Int) < (R : Int) := by omega
      obtain ⟨v, x, hv, hx, hrow⟩ := rowS_at hlt
      have hxb := HE.out.e p v x.1 x.2 hx
      have hxl := HE.out.f v hv
      have hpl := HE.out.f p HPL.out
      have i4 : Wt x.1 := ⟨by omega, by omega⟩
      have i5 : Wt k := ⟨hkb.1, by omega⟩
      have i6 : Qu.I64 (v : Int) := ⟨by omega, by omega⟩
      have i7 : Qu.I64 (k + x.1) := ⟨by unfold Wt at i4 i5; omega, by unfold Wt at i4 i5; omega⟩
      have HX := hide hx
      have HROW := hide hrow
      rw [hrow] at d0 d1 d2 d3
      obtain ⟨xw, xm⟩ := x
      simp only [mkL, if_true] at d0 d1 d2 d3
      have i3 : (v : Int) < (n : Int) := by omega
      have HC := hide hC
      have HI := hide (And.intro i4 (And.intro i5 (And.intro i6 i7)))
      have HB1 : Hid (Below wr.heap.size wr (wr.alloc (.cells #[.int .i64 p, .int .i64 v, .int .i64 xw, .int .i64 xm] 46))) := (Below.refl _ _).alloc (Nat.le_refl _) _
      have hnew := heap_alloc_new wr (.cells #[.int .i64 p, .int .i64 v, .int .i64 xw, .int .i64 xm] 46)
      have HNEW := hide hnew
      obtain ⟨c0, c1, c2, c3, c4, c5, c6⟩ := (hC.sq.sd.later HB1.out).c
      clear hC HR hxb hxl hpl i4 i5 i6 i7 hx hrow
      rw [hR]
      go_wp2
      go_cut [10] from 35 to 40 (fun v10 wx => v10 = .int .i64 v ∧ Hid (Lk2 wr wx #[.int .i64 p, .int .i64 v, .int .i64 xw, .int .i64 xm]))
      case first =>
        have e0 := cell_of_row _ wr.heap.size 0 _ _ _ hnew
        have e1 := cell_of_row _ wr.heap.size 1 _ _ _ hnew
        have e2 := cell_of_row _ wr.heap.size 2 _ _ _ hnew
        have e3 := cell_of_row _ wr.heap.size 3 _ _ _ hnew
        simp only [List.getElem?_toArray, List.getElem?_cons_succ, List.getElem?_cons_zero] at e0 e1 e2 e3
        go_region_with (go_at_call 67; refine (head_any _ _ _ _ _).mono ?_; rintro e w2 ⟨rfl, hw⟩; rw [hw]; clear hw)
        all_goals
          go_wp2_with fail
          go_meet
          case rel => exact ⟨rfl, lk2_mk HB1.out HNEW.out _⟩
      case rest =>
        obtain ⟨rfl, HW⟩ := hcut
        have HS2 := hide (HC.out.sq.later HW.out.below)
        have HR2 := hide (HC.out.row.later HW.out.below)
        have HB2 := hide (HC.out.below.trans (HW.out.below.mono HC.out.hB))
        have HZ2 := hide (Nat.le_trans HC.out.hB HW.out.below.size)
        have hE0l := lk2_lt HW.out
        have hE0S : ¬ S1 wr.heap.size := fun e => by have := HC.out.sq.que.lt _ e; omega
        clear c0 c1 c2 c3 c4 c5 c6 d0 d1 d2 d3
        obtain ⟨c0, c1, c2, c3, c4, c5, c6⟩ := HS2.out.sd.c
        have y1 := HS2.out.sd.cclo hv
        cases hD : D' v with
        | some d =>
          have HM : Hid (Md8 n true E sN D' X1 A1 p k (c + 1)) := md_skip HC.out.md HE.out hlt HX.out HROW.out hD
          rw [hD] at y1
          simp only [Option.isSome_some] at y1
          replace hD := hide hD
          go_wp2
          go_roundw
          case rel => exact ⟨c + 1, by go_num, by omega, A1, X1, S1, HB2.out, HZ2.out, HS2.out, HR2.out, HM.out⟩
          case measure => simp [intOf]; omega
        | none =>
          have HM := hide (md_put HC.out.md HN.out HE.out HPL.out hlt hv HX.out HROW.out hD)
          rw [hD] at y1
          simp only [Option.isSome_none] at y1
          have HPU := hide (sq_put HS2.out HZ2.out v (k + xw) HI.out.2.2.1 HI.out.2.2.2)
          simp only at HM
          generalize Qu.putM X1 v (k + xw) = pm at HM HPU
          obtain ⟨X2, bb⟩ := pm
          simp only at HM HPU
          replace hD := hide hD
          have e2 := lk2_c2 HW.out
          cases bb
          · have HM2 : Hid (Md8 n true E sN D' X2 A1 p k (c + 1)) := hide (by simpa using HM.out)
            go_wp2_with (first | (go_at_call 40; refine (plusC_any k xw HI.out.2.1 HI.out.1 _).mono ?_; rintro e w2 ⟨rfl, hw⟩; rw [hw]; clear hw) | (go_at_call 32; refine HPU.out.mono ?_; rintro e w3 ⟨rfl, S2, h1, h2, h3⟩; have H3 := hide (And.intro h1 (And.intro h2 h3)); clear h1 h2 h3))
            go_roundw
            case rel => exact ⟨c + 1, by go_num, by omega, A1, X2, S2, HB2.out.trans (H3.out.2.1.below HZ2.out HS2.out.ge), Nat.le_trans HZ2.out H3.out.2.1.size, H3.out.1, HR2.out.fr H3.out.2.1 H3.out.2.2, HM2.out⟩
            case measure => simp [intOf]; omega
          · have HM2 : Hid (Md8 n true E sN D' X2 (upd A1 v (mkL true p v (xw, xm))) p k (c + 1)) := hide (by simpa using HM.out)
            go_wp2_with (first | (go_at_call 40; refine (plusC_any k xw HI.out.2.1 HI.out.1 _).mono ?_; rintro e w2 ⟨rfl, hw⟩; rw [hw]; clear hw) | (go_at_call 32; refine HPU.out.mono ?_; rintro e w3 ⟨rfl, S2, h1, h2, h3⟩; have H3 := hide (And.intro h1 (And.intro h2 h3)); have x6 := h1.sd.c.2.2.2.2.2.2; obtain ⟨b0, b1, b2, b3⟩ := h1.sd.cbys hv; have x7 := h2.block _ hE0l hE0S; obtain ⟨k0, k1, k2, k3⟩ := lk2_cells HW.out x7; have f0 := frozen_of_row w3 gy (v * 4) _ _ h1.sd.bys; have f1 := frozen_of_row w3 gy (v * 4 + 1) _ _ h1.sd.bys; have f2 := frozen_of_row w3 gy (v * 4 + 2) _ _ h1.sd.bys; have f3 := frozen_of_row w3 gy (v * 4 + 3) _ _ h1.sd.bys; clear h1 h2 h3 x7))
            have HE3 : Hid (ClIn8 B w sb q gc gl gy n (.func (.func 18) #[.pointer (some ⟨b.l, 0, none⟩)] #[]) (.func (.func 66) #[] #[]) (.func (.func 67) #[] #[]) s sN true E D' p k (some ⟨gb, 0, none⟩) (c + 1) (upd A1 v (mkL true p v (xw, xm))) X2 S2 (putL w3 gy v (mkL true p v (xw, xm)))) :=
              ⟨putL_below (HB2.out.trans (H3.out.2.1.below HZ2.out HS2.out.ge)) HS2.out.sd.ge.2.2.2 _ _, by rw [putL_size]; exact Nat.le_trans HZ2.out H3.out.2.1.size, H3.out.1.lead hv _, (HR2.out.fr H3.out.2.1 H3.out.2.2).lead _ _, HM2.out⟩
            go_region
            all_goals
              go_wp2
              go_roundw
              case rel => exact ⟨c + 1, by go_num, by omega, _, X2, S2, Qu.below_drewN HE3.out.below 1, HE3.out.hB, HE3.out.sq.drewN 1, HE3.out.row.later (Qu.below_drewN (Below.refl _ _) 1), HE3.out.md⟩
              case measure => simp [intOf]; omega
    · have hce : c = (rowS true n E p).length := by omega
      subst hce
      go_wp2
      go_end0
      exact ⟨rfl, A1, X1, S1, hC.sq, hC.md, hC.below⟩

/-- What dnclose does. -/
theorem close_dn {B sb q gc gl gy n sN p : Nat} {w : World} {b : LfB} {rv : Nat → Int} {U V : Mx} {E : Mx} {φ : Nat → Int} {ρ : Nat → Nat} {s : Int} {D : Nat → Option Int} {A : Nat → Lnk} {X : List Qu.Pr} {S : Nat → Prop} {k : Int}
    (hEU : E = fun a c => V c a) (hn : n ≤ 32) (hE : EOk8 n E φ ρ) (hs : sN < n) (hp : p < n) (hB : B ≤ w.heap.size) (hl : LfA n w b rv U V) (hlB : ∀ k, b.S n k → k < B)
    (h : SqAt B w sb q gc gl gy n (.func (.func 19) #[.pointer (some ⟨b.l, 0, none⟩)] #[]) (.func (.func 67) #[] #[]) (.func (.func 66) #[] #[]) s D A X S) (hm : Md8 n false E sN (upd D p (some k)) X A p k 0) :
    Calls Tryz.prog 90 #[.pointer (some ⟨sb, 0, none⟩), .int .i64 p, .int .i64 k, .pointer (some ⟨q, 0, none⟩)] w fun e w' => e = .returned (.tuple #[]) ∧ ∃ A' X' S', SqAt B w' sb q gc gl gy n (.func (.func 19) #[.pointer (some ⟨b.l, 0, none⟩)] #[]) (.func (.func 67) #[] #[]) (.func (.func 66) #[] #[]) s (upd D p (some k)) A' X' S' ∧ Md8 n false E sN (upd D p (some k)) X' A' p k (rowS false n E p).length ∧ Below B w w' := by
  have HN := hide hn
  have HE := hide hE
  have HRL := hide (rowS_len false n E p)
  have hkb : 0 ≤ k ∧ k ≤ 4294967296000000 := hE.lid (hm.core.clo p k hm.hp).2 hs hp
  have HPL := hide hp
  obtain ⟨c0, c1, c2, c3, c4, c5, c6⟩ := h.sd.c
  have y1 := h.sd.cclo hp
  have y2 := frozen_of_row w gc p _ _ h.sd.clo
  have z1 := h.sd.clst hp
  have z2 := frozen_of_row w gl p _ _ h.sd.lst
  obtain ⟨m1, m2, m3, m4, m5, m6⟩ := h.sd.nes
  have i1 : (p : Int) < (n : Int) := by omega
  have HQ := hide (h.mark p k)
  have f0 : Below B w ((w.setCell ⟨gc, p, none⟩ (.bool true)).setCell ⟨gl, p, none⟩ (.int .i64 k)) := ((Below.refl _ _).setCell h.sd.ge.2.1 _).setCell h.sd.ge.2.2.1 _
  have HF0 := hide f0
  have HLK := hide (links_dn (hl.of_blocks fun k hk => f0.block k (hlB k hk)) hn hp)
  have hSB : B ≤ ((w.setCell ⟨gc, p, none⟩ (.bool true)).setCell ⟨gl, p, none⟩ (.int .i64 k)).heap.size := by simpa [World.setCell] using hB
  have HSB := hide hSB
  have HROW : Hid (dnL n V p = rowS false n E p) := by show _ = _; rw [hEU]; rfl
  have HM := hide hm
  generalize upd D p (some k) = D' at HQ HM ⊢
  clear h hm hl hE f0 hSB hEU
  go_enter Tryz.func90, Tryz.ntmps90
  go_wp2_with (go_at_call 19; refine HLK.out.mono ?_; rintro e w1 ⟨v, rfl, h1, h2⟩; rw [HROW.out] at h1; obtain ⟨va, rc, rfl⟩ := h1.shape; have H1 := hide (And.intro h1 h2); clear h1 h2)
  generalize (w.setCell ⟨gc, p, none⟩ (.bool true)).setCell ⟨gl, p, none⟩ (.int .i64 k) = W0 at HQ HF0 HSB H1
  have HS : Hid (ClIn8 B w sb q gc gl gy n (.func (.func 19) #[.pointer (some ⟨b.l, 0, none⟩)] #[]) (.func (.func 67) #[] #[]) (.func (.func 66) #[] #[]) s sN false E D' p k va 0 A X S w1) := by
    obtain ⟨l1, l2, l3, l4⟩ := HQ.out.sd.lts
    exact ⟨HF0.out.trans (H1.out.2.mono HSB.out), Nat.le_trans HSB.out H1.out.2.size, HQ.out.later H1.out.2, krow_of H1.out.1 (fun k hk => HQ.out.que.lt k hk) l2 l3 l4, HM.out⟩
  clear HQ HF0 HSB H1 HLK HM c0 c1 c2 c3 c4 c5 c6 y1 y2 z1 z2 HROW
  go_loopw [31] (fun vi wr => ∃ c : Nat, vi = .int .i64 c ∧ c ≤ (rowS false n E p).length ∧ Hid (∃ A' X' S', ClIn8 B w sb q gc gl gy n (.func (.func 19) #[.pointer (some ⟨b.l, 0, none⟩)] #[]) (.func (.func 67) #[] #[]) (.func (.func 66) #[] #[]) s sN false E D' p k va c A' X' S' wr)) (fun vi _ => (rowS false n E p).length - (intOf vi).toNat)
  case atStart => exact ⟨0, rfl, Nat.zero_le _, _, _, _, HS.out⟩
  case round =>
    clear HS
    obtain ⟨c, rfl, hc, HR⟩ := hrel
    obtain ⟨A1, X1, S1, hC⟩ := HR.out
    by_cases hlt : c < (rowS false n E p).length
    · obtain ⟨gb, hva, g1, g2, g3, g4, glt, d0, d1, d2, d3⟩ := hC.row c hlt
      subst hva
      have hRL := HRL.out
      obtain ⟨R, hR⟩ : ∃ R, (rowS false n E p).length = R := ⟨_, rfl⟩
      have HRR := hide hR
      have i2 : (c : Int) < (R : Int) := by omega
      obtain ⟨v, x, hv, hx, hrow⟩ := rowS_at hlt
      have hxb := HE.out.e p v x.1 x.2 hx
      have hxl := HE.out.f v hv
      have hpl := HE.out.f p HPL.out
      have i4 : Wt x.1 := ⟨by omega, by omega⟩
      have i5 : Wt k := ⟨hkb.1, by omega⟩
      have i6 : Qu.I64 (v : Int) := ⟨by omega, by omega⟩
      have i7 : Qu.I64 (k + x.1) := ⟨by unfold Wt at i4 i5; omega, by unfold Wt at i4 i5; omega⟩
      have HX := hide hx
      have HROW := hide hrow
      rw [hrow] at d0 d1 d2 d3
      obtain ⟨xw, xm⟩ := x
      simp only [mkL, if_false, Bool.false_eq_true] at d0 d1 d2 d3
      have i3 : (v : Int) < (n : Int) := by omega
      have HC := hide hC
      have HI := hide (And.intro i4 (And.intro i5 (And.intro i6 i7)))
      have HB1 : Hid (Below wr.heap.size wr (wr.alloc (.cells #[.int .i64 v, .int .i64 p, .int .i64 xw, .int .i64 xm] 46))) := (Below.refl _ _).alloc (Nat.le_refl _) _
      have hnew := heap_alloc_new wr (.cells #[.int .i64 v, .int .i64 p, .int .i64 xw, .int .i64 xm] 46)
      have HNEW := hide hnew
      obtain ⟨c0, c1, c2, c3, c4, c5, c6⟩ := (hC.sq.sd.later HB1.out).c
      clear hC HR hxb hxl hpl i4 i5 i6 i7 hx hrow
      rw [hR]
      go_wp2
      go_cut [10] from 35 to 40 (fun v10 wx => v10 = .int .i64 v ∧ Hid (Lk2 wr wx #[.int .i64 v, .int .i64 p, .int .i64 xw, .int .i64 xm]))
      case first =>
        have e0 := cell_of_row _ wr.heap.size 0 _ _ _ hnew
        have e1 := cell_of_row _ wr.heap.size 1 _ _ _ hnew
        have e2 := cell_of_row _ wr.heap.size 2 _ _ _ hnew
        have e3 := cell_of_row _ wr.heap.size 3 _ _ _ hnew
        simp only [List.getElem?_toArray, List.getElem?_cons_succ, List.getElem?_cons_zero] at e0 e1 e2 e3
        go_region_with (go_at_call 66; refine (tail_any _ _ _ _ _).mono ?_; rintro e w2 ⟨rfl, hw⟩; rw [hw]; clear hw)
        all_goals
          go_wp2_with fail
          go_meet
          case rel => exact ⟨rfl, lk2_mk HB1.out HNEW.out _⟩
      case rest =>
        obtain ⟨rfl, HW⟩ := hcut
        have HS2 := hide (HC.out.sq.later HW.out.below)
        have HR2 := hide (HC.out.row.later HW.out.below)
        have HB2 := hide (HC.out.below.trans (HW.out.below.mono HC.out.hB))
        have HZ2 := hide (Nat.le_trans HC.out.hB HW.out.below.size)
        have hE0l := lk2_lt HW.out
        have hE0S : ¬ S1 wr.heap.size := fun e => by have := HC.out.sq.que.lt _ e; omega
        clear c0 c1 c2 c3 c4 c5 c6 d0 d1 d2 d3
        obtain ⟨c0, c1, c2, c3, c4, c5, c6⟩ := HS2.out.sd.c
        have y1 := HS2.out.sd.cclo hv
        cases hD : D' v with
        | some d =>
          have HM : Hid (Md8 n false E sN D' X1 A1 p k (c + 1)) := md_skip HC.out.md HE.out hlt HX.out HROW.out hD
          rw [hD] at y1
          simp only [Option.isSome_some] at y1
          replace hD := hide hD
          go_wp2
          go_roundw
          case rel => exact ⟨c + 1, by go_num, by omega, A1, X1, S1, HB2.out, HZ2.out, HS2.out, HR2.out, HM.out⟩
          case measure => simp [intOf]; omega
        | none =>
          have HM := hide (md_put HC.out.md HN.out HE.out HPL.out hlt hv HX.out HROW.out hD)
          rw [hD] at y1
          simp only [Option.isSome_none] at y1
          have HPU := hide (sq_put HS2.out HZ2.out v (k + xw) HI.out.2.2.1 HI.out.2.2.2)
          simp only at HM
          generalize Qu.putM X1 v (k + xw) = pm at HM HPU
          obtain ⟨X2, bb⟩ := pm
          simp only at HM HPU
          replace hD := hide hD
          have e2 := lk2_c2 HW.out
          cases bb
          · have HM2 : Hid (Md8 n false E sN D' X2 A1 p k (c + 1)) := hide (by simpa using HM.out)
            go_wp2_with (first | (go_at_call 40; refine (plusC_any k xw HI.out.2.1 HI.out.1 _).mono ?_; rintro e w2 ⟨rfl, hw⟩; rw [hw]; clear hw) | (go_at_call 32; refine HPU.out.mono ?_; rintro e w3 ⟨rfl, S2, h1, h2, h3⟩; have H3 := hide (And.intro h1 (And.intro h2 h3)); clear h1 h2 h3))
            go_roundw
            case rel => exact ⟨c + 1, by go_num, by omega, A1, X2, S2, HB2.out.trans (H3.out.2.1.below HZ2.out HS2.out.ge), Nat.le_trans HZ2.out H3.out.2.1.size, H3.out.1, HR2.out.fr H3.out.2.1 H3.out.2.2, HM2.out⟩
            case measure => simp [intOf]; omega
          · have HM2 : Hid (Md8 n false E sN D' X2 (upd A1 v (mkL false p v (xw, xm))) p k (c + 1)) := hide (by simpa using HM.out)
            go_wp2_with (first | (go_at_call 40; refine (plusC_any k xw HI.out.2.1 HI.out.1 _).mono ?_; rintro e w2 ⟨rfl, hw⟩; rw [hw]; clear hw) | (go_at_call 32; refine HPU.out.mono ?_; rintro e w3 ⟨rfl, S2, h1, h2, h3⟩; have H3 := hide (And.intro h1 (And.intro h2 h3)); have x6 := h1.sd.c.2.2.2.2.2.2; obtain ⟨b0, b1, b2, b3⟩ := h1.sd.cbys hv; have x7 := h2.block _ hE0l hE0S; obtain ⟨k0, k1, k2, k3⟩ := lk2_cells HW.out x7; have f0 := frozen_of_row w3 gy (v * 4) _ _ h1.sd.bys; have f1 := frozen_of_row w3 gy (v * 4 + 1) _ _ h1.sd.bys; have f2 := frozen_of_row w3 gy (v * 4 + 2) _ _ h1.sd.bys; have f3 := frozen_of_row w3 gy (v * 4 + 3) _ _ h1.sd.bys; clear h1 h2 h3 x7))
            have HE3 : Hid (ClIn8 B w sb q gc gl gy n (.func (.func 19) #[.pointer (some ⟨b.l, 0, none⟩)] #[]) (.func (.func 67) #[] #[]) (.func (.func 66) #[] #[]) s sN false E D' p k (some ⟨gb, 0, none⟩) (c + 1) (upd A1 v (mkL false p v (xw, xm))) X2 S2 (putL w3 gy v (mkL false p v (xw, xm)))) :=
              ⟨putL_below (HB2.out.trans (H3.out.2.1.below HZ2.out HS2.out.ge)) HS2.out.sd.ge.2.2.2 _ _, by rw [putL_size]; exact Nat.le_trans HZ2.out H3.out.2.1.size, H3.out.1.lead hv _, (HR2.out.fr H3.out.2.1 H3.out.2.2).lead _ _, HM2.out⟩
            go_region
            all_goals
              go_wp2
              go_roundw
              case rel => exact ⟨c + 1, by go_num, by omega, _, X2, S2, Qu.below_drewN HE3.out.below 1, HE3.out.hB, HE3.out.sq.drewN 1, HE3.out.row.later (Qu.below_drewN (Below.refl _ _) 1), HE3.out.md⟩
              case measure => simp [intOf]; omega
    · have hce : c = (rowS false n E p).length := by omega
      subst hce
      go_wp2
      go_end0
      exact ⟨rfl, A1, X1, S1, hC.sq, hC.md, hC.below⟩
end Go.Proofs.YtojkdmkeankcgaaGreat

/-  What the calls of climb's climb, upwards and downwards do. -/
namespace Go.Proofs.YtojkdmkeankcgaaGreat
open Go.RowKit Go.Sort

theorem made_ints8 (n : Nat) (hn : n ≤ 32) (w : World) : (Instr.makeSlice 27 (.int .i64 n) (.int .i64 n)).run Tryz.prog w = .ok (.slice (some ⟨w.heap.size, 0, none⟩) n n) (w.alloc (.cells (List.replicate n (.int .i64 0)).toArray 3)) := by
  obtain ⟨i0, hi0, hz0, hz1, hz2⟩ := info_parts info3
  have := run_makeSlice (P := Tryz.prog) w 27 3 i0 _ Tryz.underlying27 hi0 hz0 .i64 .i64 n n (by omega) (by omega) (by rw [hz1]; omega) (by rw [hz2]; omega) (by omega)
  rw [hz1] at this
  simp only [Int.toNat_natCast, Nat.mul_one] at this
  have e : madeCells (Value.int .i64 0).cells n = (List.replicate n (Value.int .i64 0)).toArray := by
    apply Array.ext
    · simp [madeCells]
    · intro i h1 h2
      simp [madeCells, Value.cells, Nat.mod_one]
  rw [e] at this
  exact this
theorem made_links8 (n : Nat) (hn : n ≤ 32) (w : World) : (Instr.makeSlice 43 (.int .i64 n) (.int .i64 n)).run Tryz.prog w = .ok (.slice (some ⟨w.heap.size, 0, none⟩) n n) (w.alloc (.cells (bysV n fun _ => (0, 0, 0, 0)).toArray 46)) := by
  obtain ⟨i0, hi0, hz0, hz1, hz2⟩ := info_parts info59
  have := run_makeSlice (P := Tryz.prog) w 43 46 i0 _ Tryz.underlying43 hi0 hz0 .i64 .i64 n n (by omega) (by omega) (by rw [hz1]; omega) (by rw [hz2]; omega) (by omega)
  rw [hz1] at this
  simp only [Int.toNat_natCast] at this
  have e : madeCells (Value.agg #[.int .i64 0, .int .i64 0, .int .i64 0, .int .i64 0]).cells (n * 4) = (bysV n fun _ => (0, 0, 0, 0)).toArray := by
    apply Array.ext_getElem?
    intro i
    by_cases hi : i < n * 4
    · obtain ⟨u, j, hj, rfl⟩ : ∃ u j, j < 4 ∧ i = u * 4 + j := ⟨i / 4, i % 4, Nat.mod_lt _ (by omega), by omega⟩
      rw [show (bysV n fun _ => (0, 0, 0, 0)).toArray[u * 4 + j]? = (bysV n fun _ => (0, 0, 0, 0))[u * 4 + j]? from List.getElem?_toArray, bysV_get _ (by omega) hj]
      have hm : (u * 4 + j) % 4 = j := by omega
      have hg : (madeCells (Value.agg #[.int .i64 0, .int .i64 0, .int .i64 0, .int .i64 0]).cells (n * 4))[u * 4 + j]? = some (.int .i64 0) := by
        rw [Array.getElem?_eq_getElem (by simp [madeCells]; omega)]
        simp only [madeCells, Value.cells]
        rcases (show j = 0 ∨ j = 1 ∨ j = 2 ∨ j = 3 by omega) with rfl | rfl | rfl | rfl <;> simp [hm]
      rw [hg]
      rcases (show j = 0 ∨ j = 1 ∨ j = 2 ∨ j = 3 by omega) with rfl | rfl | rfl | rfl <;> rfl
    · rw [show (bysV n fun _ => (0, 0, 0, 0)).toArray[i]? = (bysV n fun _ => (0, 0, 0, 0))[i]? from List.getElem?_toArray, List.getElem?_eq_none (by rw [bysV_len]; omega)]
      simp [madeCells]
      omega
  rw [e] at this
  exact this
theorem arr_rep {n : Nat} (x : Value) : (List.replicate n x).toArray = Array.replicate n x := by simp
/-- A side that has just been begun: its rows are made, its queue is new. -/
theorem sd_begun {B sb n : Nat} {w : World} {lk lo hi : Value} {s : Int} (hbx : w.heap[sb]? = some (.cells #[lk, lo, hi, .int .i64 s, .slice none 0 0, .slice none 0 0, .slice none 0 0] 90 (0, 0))) (hsB : B ≤ sb) :
    (SqAt B (((((((w.setCell ⟨sb, 4, none⟩ (.slice (some ⟨w.heap.size, 0, none⟩) n n)).setCell ⟨sb, 5, none⟩ (.slice (some ⟨w.heap.size + 1, 0, none⟩) n n)).alloc (.cells (Array.replicate n (.bool false)) 4)).alloc (.cells (Array.replicate n (.int .i64 0)) 3)).alloc (.cells (bysV n fun _ => (0, 0, 0, 0)).toArray 46)).setCell ⟨sb, 6, none⟩ (.slice (some ⟨w.heap.size + 1 + 1, 0, none⟩) n n)).alloc (.cells #[.pointer none] 111)) sb (w.heap.size + 1 + 1 + 1) w.heap.size (w.heap.size + 1) (w.heap.size + 1 + 1) n lk lo hi s (fun _ => none) (fun _ => (0, 0, 0, 0)) [] (fun b => b = (w.heap.size + 1 + 1 + 1)) ∧ Below B w (((((((w.setCell ⟨sb, 4, none⟩ (.slice (some ⟨w.heap.size, 0, none⟩) n n)).setCell ⟨sb, 5, none⟩ (.slice (some ⟨w.heap.size + 1, 0, none⟩) n n)).alloc (.cells (Array.replicate n (.bool false)) 4)).alloc (.cells (Array.replicate n (.int .i64 0)) 3)).alloc (.cells (bysV n fun _ => (0, 0, 0, 0)).toArray 46)).setCell ⟨sb, 6, none⟩ (.slice (some ⟨w.heap.size + 1 + 1, 0, none⟩) n n)).alloc (.cells #[.pointer none] 111)))
    ∧ ((w.alloc (.cells (Array.replicate n (.bool false)) 4)).cell? ⟨sb, 4, none⟩ = some (.slice none 0 0) ∧ (w.alloc (.cells (Array.replicate n (.bool false)) 4)).frozen? ⟨sb, 4, none⟩ = false) ∧ ((((w.setCell ⟨sb, 4, none⟩ (.slice (some ⟨w.heap.size, 0, none⟩) n n)).alloc (.cells (Array.replicate n (.bool false)) 4)).alloc (.cells (Array.replicate n (.int .i64 0)) 3)).cell? ⟨sb, 5, none⟩ = some (.slice none 0 0) ∧ (((w.setCell ⟨sb, 4, none⟩ (.slice (some ⟨w.heap.size, 0, none⟩) n n)).alloc (.cells (Array.replicate n (.bool false)) 4)).alloc (.cells (Array.replicate n (.int .i64 0)) 3)).frozen? ⟨sb, 5, none⟩ = false) ∧ ((((((w.setCell ⟨sb, 4, none⟩ (.slice (some ⟨w.heap.size, 0, none⟩) n n)).setCell ⟨sb, 5, none⟩ (.slice (some ⟨w.heap.size + 1, 0, none⟩) n n)).alloc (.cells (Array.replicate n (.bool false)) 4)).alloc (.cells (Array.replicate n (.int .i64 0)) 3)).alloc (.cells (bysV n fun _ => (0, 0, 0, 0)).toArray 46)).cell? ⟨sb, 6, none⟩ = some (.slice none 0 0) ∧ (((((w.setCell ⟨sb, 4, none⟩ (.slice (some ⟨w.heap.size, 0, none⟩) n n)).setCell ⟨sb, 5, none⟩ (.slice (some ⟨w.heap.size + 1, 0, none⟩) n n)).alloc (.cells (Array.replicate n (.bool false)) 4)).alloc (.cells (Array.replicate n (.int .i64 0)) 3)).alloc (.cells (bysV n fun _ => (0, 0, 0, 0)).toArray 46)).frozen? ⟨sb, 6, none⟩ = false) := by
  have hlt : sb < w.heap.size := (Array.getElem?_eq_some_iff.1 hbx).1
  have e1 := heap_setCell_same w sb 4 _ _ (.slice (some ⟨w.heap.size, 0, none⟩) n n) hbx
  have e2 := heap_setCell_same _ sb 5 _ _ (.slice (some ⟨w.heap.size + 1, 0, none⟩) n n) e1
  have f3 : Below B w ((w.setCell ⟨sb, 4, none⟩ (.slice (some ⟨w.heap.size, 0, none⟩) n n)).setCell ⟨sb, 5, none⟩ (.slice (some ⟨w.heap.size + 1, 0, none⟩) n n)) := ((Below.refl _ _).setCell hsB _).setCell hsB _
  have z1 : (w.setCell ⟨sb, 4, none⟩ (.slice (some ⟨w.heap.size, 0, none⟩) n n)).heap.size = w.heap.size := by simp [World.setCell]
  have z2 : ((w.setCell ⟨sb, 4, none⟩ (.slice (some ⟨w.heap.size, 0, none⟩) n n)).setCell ⟨sb, 5, none⟩ (.slice (some ⟨w.heap.size + 1, 0, none⟩) n n)).heap.size = w.heap.size := by simp [World.setCell]
  have g1 : (w.alloc (.cells (Array.replicate n (.bool false)) 4)).heap[sb]? = _ := at_old (by omega) hbx
  have g2 : (((w.setCell ⟨sb, 4, none⟩ (.slice (some ⟨w.heap.size, 0, none⟩) n n)).alloc (.cells (Array.replicate n (.bool false)) 4)).alloc (.cells (Array.replicate n (.int .i64 0)) 3)).heap[sb]? = _ := at_old (by rw [size_alloc]; omega) (at_old (by omega) e1)
  have g3 : (((((w.setCell ⟨sb, 4, none⟩ (.slice (some ⟨w.heap.size, 0, none⟩) n n)).setCell ⟨sb, 5, none⟩ (.slice (some ⟨w.heap.size + 1, 0, none⟩) n n)).alloc (.cells (Array.replicate n (.bool false)) 4)).alloc (.cells (Array.replicate n (.int .i64 0)) 3)).alloc (.cells (bysV n fun _ => (0, 0, 0, 0)).toArray 46)).heap[sb]? = _ := at_old (by rw [size_alloc, size_alloc]; omega) (at_old (by rw [size_alloc]; omega) (at_old (by omega) e2))
  refine ⟨?_, ⟨by rw [cell_of_row _ sb 4 _ _ _ g1]; rfl, frozen_of_row _ sb 4 _ _ g1⟩, ⟨by rw [cell_of_row _ sb 5 _ _ _ g2]; rfl, frozen_of_row _ sb 5 _ _ g2⟩, ⟨by rw [cell_of_row _ sb 6 _ _ _ g3]; rfl, frozen_of_row _ sb 6 _ _ g3⟩⟩
  have e3 := heap_setCell_same _ sb 6 _ _ (.slice (some ⟨w.heap.size + 1 + 1, 0, none⟩) n n) g3
  clear g1 g2 g3 z1 e1 e2
  generalize ((w.setCell ⟨sb, 4, none⟩ (.slice (some ⟨w.heap.size, 0, none⟩) n n)).setCell ⟨sb, 5, none⟩ (.slice (some ⟨w.heap.size + 1, 0, none⟩) n n)) = W at e3 f3 z2 ⊢
  have r4 : Array.replicate n (Value.bool false) = ((List.range n).map fun _ => Value.bool false).toArray := range_rep n _
  have r3 : Array.replicate n (Value.int .i64 0) = ((List.range n).map fun _ => Value.int .i64 0).toArray := range_rep n _
  have zz : ((((W.alloc (.cells (Array.replicate n (.bool false)) 4)).alloc (.cells (Array.replicate n (.int .i64 0)) 3)).alloc (.cells (bysV n fun _ => (0, 0, 0, 0)).toArray 46)).setCell ⟨sb, 6, none⟩ (.slice (some ⟨w.heap.size + 1 + 1, 0, none⟩) n n)).heap.size = w.heap.size + 1 + 1 + 1 := by simp [World.setCell, z2]
  refine ⟨⟨⟨?_, ?_, ?_, ?_, ⟨hsB, by omega, by omega, by omega⟩⟩, ⟨rfl, fun k e => by subst e; rw [size_alloc, zz]; omega, .inl ⟨?_, rfl⟩⟩, ⟨by omega, by omega, by omega, by omega⟩, fun k e => by omega⟩, ?_⟩
  · refine at_old (by omega) ?_
    rw [e3]; simp
  · refine at_old (by omega) ?_
    rw [heap_setCell_other _ _ _ _ (by show _ ≠ sb; omega)]
    refine at_old (by simp only [size_alloc, z2]; omega) (at_old (by simp only [size_alloc, z2]; omega) ?_)
    rw [at_new z2, r4]; rfl
  · refine at_old (by omega) ?_
    rw [heap_setCell_other _ _ _ _ (by show _ ≠ sb; omega)]
    refine at_old (by simp only [size_alloc, z2]; omega) ?_
    rw [at_new (by simp only [size_alloc, z2]), r3]; rfl
  · refine at_old (by omega) ?_
    rw [heap_setCell_other _ _ _ _ (by show _ ≠ sb; omega)]
    rw [at_new (by simp only [size_alloc, z2])]
  · rw [at_new zz]
  · exact ((((f3.alloc (by omega) _).alloc (by simp only [size_alloc, z2]; omega) _).alloc (by simp only [size_alloc, z2]; omega) _).setCell hsB _).alloc (by rw [zz]; omega) _
/-- What climb knows between two rounds. -/
structure ClIn9 (B : Nat) (w : World) (sb q gc gl gy n : Nat) (lk lo hi : Value) (p : Nat) (up : Bool) (E : Mx) (D : Nat → Option Int) (A : Nat → Lnk) (X : List Qu.Pr) (S : Nat → Prop) (wr : World) : Prop where
  below : Below B w wr
  sq : SqAt B wr sb q gc gl gy n lk lo hi p D A X S
  sd : Sd n up E p D X A
set_option maxRecDepth 100000
set_option maxHeartbeats 12800000
theorem climb_out {B sb n : Nat} {w : World} {lk lo hi : Value} {s : Int} (hn : n ≤ 32) (hs : ¬ (0 ≤ s ∧ s < n)) (hbx : w.heap[sb]? = some (.cells #[lk, lo, hi, .int .i64 s, .slice none 0 0, .slice none 0 0, .slice none 0 0] 90 (0, 0))) (hsB : B ≤ sb) :
    Calls Tryz.prog 68 #[.pointer (some ⟨sb, 0, none⟩), .int .i64 n] w fun e w' => e = .returned (.tuple #[]) ∧ ∃ gc gl gy A, SdAt B w' sb gc gl gy n lk lo hi s (fun _ => none) A ∧ Below B w w' := by
  obtain ⟨hbg, ⟨k4, z4⟩, ⟨k5, z5⟩, ⟨k6, z6⟩⟩ := sd_begun (n := n) hbx hsB
  have HBG := hide hbg
  have c3 := hbg.1.sd.c.2.2.2.1
  have hmb := fun w => made_bools n hn w
  have hmi := fun w => made_ints8 n hn w
  have hml := fun w => made_links8 n hn w
  simp only [arr_rep] at hmb hmi
  have hlt : sb < w.heap.size := (Array.getElem?_eq_some_iff.1 hbx).1
  have HE := hide (sq_empty hbg.1)
  have HS := hide hs
  clear hbx hbg hs
  by_cases h0 : 0 ≤ s
  · have h1 : ¬ s < (n : Int) := fun e => HS.out ⟨h0, e⟩
    have h2 : decide (s < (n : Int)) = false := decide_eq_false h1
    go_enter Tryz.func68, Tryz.ntmps68
    go_wp2_with (first | (go_at_call 30; refine (new_exact _).mono ?_; rintro e w1 ⟨rfl, hw⟩; rw [hw]; clear hw))
    go_loopw [] (fun wr => wr = (((((((w.setCell ⟨sb, 4, none⟩ (.slice (some ⟨w.heap.size, 0, none⟩) n n)).setCell ⟨sb, 5, none⟩ (.slice (some ⟨w.heap.size + 1, 0, none⟩) n n)).alloc (.cells (Array.replicate n (.bool false)) 4)).alloc (.cells (Array.replicate n (.int .i64 0)) 3)).alloc (.cells (bysV n fun _ => (0, 0, 0, 0)).toArray 46)).setCell ⟨sb, 6, none⟩ (.slice (some ⟨w.heap.size + 1 + 1, 0, none⟩) n n)).alloc (.cells #[.pointer none] 111))) (fun _ => 0)
    case atStart => rfl
    case round =>
      subst hrel
      go_wp2_with (go_at_call 63; refine HE.out.mono ?_; rintro e w1 ⟨rfl, hw⟩; rw [hw]; clear hw)
      refine bodyPost_ret (results_none rfl _ _ _) rfl ?_
      exact ⟨rfl, _, _, _, _, HBG.out.1.sd, HBG.out.2⟩
  · have h2 : decide (0 ≤ s) = false := decide_eq_false h0
    go_enter Tryz.func68, Tryz.ntmps68
    go_wp2_with (first | (go_at_call 30; refine (new_exact _).mono ?_; rintro e w1 ⟨rfl, hw⟩; rw [hw]; clear hw))
    go_loopw [] (fun wr => wr = (((((((w.setCell ⟨sb, 4, none⟩ (.slice (some ⟨w.heap.size, 0, none⟩) n n)).setCell ⟨sb, 5, none⟩ (.slice (some ⟨w.heap.size + 1, 0, none⟩) n n)).alloc (.cells (Array.replicate n (.bool false)) 4)).alloc (.cells (Array.replicate n (.int .i64 0)) 3)).alloc (.cells (bysV n fun _ => (0, 0, 0, 0)).toArray 46)).setCell ⟨sb, 6, none⟩ (.slice (some ⟨w.heap.size + 1 + 1, 0, none⟩) n n)).alloc (.cells #[.pointer none] 111))) (fun _ => 0)
    case atStart => rfl
    case round =>
      subst hrel
      go_wp2_with (go_at_call 63; refine HE.out.mono ?_; rintro e w1 ⟨rfl, hw⟩; rw [hw]; clear hw)
      refine bodyPost_ret (results_none rfl _ _ _) rfl ?_
      exact ⟨rfl, _, _, _, _, HBG.out.1.sd, HBG.out.2⟩

theorem climb_up8 {B sb n p : Nat} {w : World} {b : LfB} {rv : Nat → Int} {U V : Mx} {E : Mx} {φ : Nat → Int} {ρ : Nat → Nat} (hEU : E = U) (hn : n ≤ 32) (hE : EOk8 n E φ ρ) (hp : p < n) (hB : B ≤ w.heap.size) (hl : LfA n w b rv U V) (hlB : ∀ k, b.S n k → k < B)
    (hbx : w.heap[sb]? = some (.cells #[.func (.func 18) #[.pointer (some ⟨b.l, 0, none⟩)] #[], .func (.func 66) #[] #[], .func (.func 67) #[] #[], .int .i64 p, .slice none 0 0, .slice none 0 0, .slice none 0 0] 90 (0, 0))) (hsB : B ≤ sb) :
    Calls Tryz.prog 68 #[.pointer (some ⟨sb, 0, none⟩), .int .i64 n] w fun e w' => e = .returned (.tuple #[]) ∧ ∃ gc gl gy D A, SdAt B w' sb gc gl gy n (.func (.func 18) #[.pointer (some ⟨b.l, 0, none⟩)] #[]) (.func (.func 66) #[] #[]) (.func (.func 67) #[] #[]) p D A ∧ Side n true E p D A ∧ Below B w w' := by
  obtain ⟨hbg, ⟨k4, z4⟩, ⟨k5, z5⟩, ⟨k6, z6⟩⟩ := sd_begun (n := n) hbx hsB
  have HBG := hide hbg
  have c3 := hbg.1.sd.c.2.2.2.1
  have hmb := fun w => made_bools n hn w
  have hmi := fun w => made_ints8 n hn w
  have hml := fun w => made_links8 n hn w
  simp only [arr_rep] at hmb hmi
  have hlt : sb < w.heap.size := (Array.getElem?_eq_some_iff.1 hbx).1
  have HPU := hide (sq_put hbg.1 (Nat.le_trans hB hbg.2.size) p 0 ⟨by omega, by omega⟩ ⟨by omega, by omega⟩)
  rw [show Qu.putM [] (p : Int) 0 = ([((p : Int), (0 : Int))], true) from rfl] at HPU
  have HEU := hide hEU
  have HN := hide hn
  have HE := hide hE
  have HP := hide hp
  have HL := hide (And.intro hl hlB)
  have HB := hide hB
  have h1 : (p : Int) < (n : Int) := by omega
  clear hbx hbg hEU hE hl hlB hB
  go_enter Tryz.func68, Tryz.ntmps68
  go_wp2_with (first | (go_at_call 30; refine (new_exact _).mono ?_; rintro e w1 ⟨rfl, hw⟩; rw [hw]; clear hw) | (go_at_call 32; refine HPU.out.mono ?_; rintro e w2 ⟨rfl, S2, h1, h2, h3⟩; have H2 := hide (And.intro h1 h2); clear h1 h2 h3))
  have HS : Hid (ClIn9 B w sb (w.heap.size + 1 + 1 + 1) w.heap.size (w.heap.size + 1) (w.heap.size + 1 + 1) n (.func (.func 18) #[.pointer (some ⟨b.l, 0, none⟩)] #[]) (.func (.func 66) #[] #[]) (.func (.func 67) #[] #[]) p true E (fun _ => none) (fun _ => (0, 0, 0, 0)) [((p : Int), (0 : Int))] S2 w2) := ⟨HBG.out.2.trans (H2.out.2.below (Nat.le_trans HB.out HBG.out.2.size) HBG.out.1.ge), H2.out.1, sd_zero _ _ HP.out⟩
  clear H2 HPU HBG k4 z4 k5 z5 k6 z6 c3 hmb hmi hml h1
  generalize w.heap.size + 1 + 1 + 1 = q at HS ⊢
  generalize w.heap.size + 1 + 1 = gy at HS ⊢
  generalize w.heap.size + 1 = gl at HS ⊢
  generalize hgc : w.heap.size = gc at HS ⊢
  have HGC := hide hgc
  clear hgc
  go_loopg [] n (fun k wr => ∃ D A X S, k + cnt D n = n ∧ Hid (ClIn9 B w sb q gc gl gy n (.func (.func 18) #[.pointer (some ⟨b.l, 0, none⟩)] #[]) (.func (.func 66) #[] #[]) (.func (.func 67) #[] #[]) p true E D A X S wr))
  case atStart => exact ⟨_, _, _, _, by
    have : ∀ m, cnt (fun _ => none) m = 0 := fun m => by induction m with | zero => rfl | succ m ih => rw [cnt, ih]; rfl
    rw [this]; rfl, HS.out⟩
  case round =>
    clear HS
    obtain ⟨D, A, X, S, hk, HR⟩ := hrel
    have HBw : Hid (B ≤ wr.heap.size) := Nat.le_trans HB.out HR.out.below.size
    by_cases hX : X = []
    · subst hX
      have HEM := hide (sq_empty HR.out.sq)
      go_wp2_with (go_at_call 63; refine HEM.out.mono ?_; rintro e w' ⟨rfl, hw⟩; rw [hw]; clear hw)
      refine bodyPost_ret (results_none rfl _ _ _) rfl ?_
      exact ⟨rfl, gc, gl, gy, D, A, HR.out.sq.sd, sd_end HR.out.sd HE.out HP.out, HR.out.below⟩
    · obtain ⟨y, hy⟩ := Qu.least_ex hX
      have HT := hide (sq_take HR.out.sq HBw.out y hy)
      obtain ⟨v, hv, hy1, hDv, hmid, hcnt⟩ := sd_take HR.out.sd hy
      obtain ⟨y1, y2⟩ := y
      simp only at hy1 hmid hcnt HT
      subst hy1
      have HM := hide hmid
      have HV := hide hv
      clear hmid hy
      go_wp2_with (first
        | (go_at_call 63; refine HT.out.mono ?_; rintro e w2 ⟨rfl, ⟨S2, h1⟩, h2⟩; have H2 := hide (And.intro h1 h2); have hl2 := HL.out.1.of_blocks fun k hk => (HR.out.below.trans h2).block k (HL.out.2 k hk); have HL2 := hide hl2; clear h1 h2 hl2)
        | (go_at_call 90; refine (close_up HEU.out HN.out HE.out HP.out HV.out (Nat.le_trans HBw.out H2.out.2.size) HL2.out HL.out.2 H2.out.1 HM.out).mono ?_; rintro e w4 ⟨rfl, A4, X4, S4, h1, h2, h3⟩; have H4 : Hid (ClIn9 B w sb q gc gl gy n (.func (.func 18) #[.pointer (some ⟨b.l, 0, none⟩)] #[]) (.func (.func 66) #[] #[]) (.func (.func 67) #[] #[]) p true E (upd D v (some y2)) A4 X4 S4 w4) := ⟨(HR.out.below.trans H2.out.2).trans h3, h1, md_end h2⟩; clear h1 h2 h3))
      go_roundg (gk - 1)
      case measure => have := cnt_le (upd D v (some y2)) n; omega
      case rel => exact ⟨_, _, _, _, by have := cnt_le (upd D v (some y2)) n; omega, H4.out⟩

theorem wards_up {n p : Nat} {w : World} {b : LfB} {rv : Nat → Int} {W : Nat → Nat → Option Int} {K : Mx} {rk : Nat → Nat} {Q : Nat → Option Int} (hl : LfA n w b rv (upM K rk) (dnM K rk)) (hn : n ≤ 32) (hBd : Bd n W n K rk Q rv) (hp : p < n) :
    Calls Tryz.prog 43 #[.pointer (some ⟨b.l, 0, none⟩), .int .i64 p] w fun e w' => ∃ sb gc gl gy D A, e = .returned (.pointer (some ⟨sb, 0, none⟩)) ∧ SdAt w.heap.size w' sb gc gl gy n (.func (.func 18) #[.pointer (some ⟨b.l, 0, none⟩)] #[]) (.func (.func 66) #[] #[]) (.func (.func 67) #[] #[]) p D A ∧ Side n true (upM K rk) p D A ∧ Below w.heap.size w w' := by
  have f : Below w.heap.size w (w.alloc (.cells #[.func (.func 18) #[.pointer (some ⟨b.l, 0, none⟩)] #[], .func (.func 66) #[] #[], .func (.func 67) #[] #[], .int .i64 p, .slice none 0 0, .slice none 0 0, .slice none 0 0] 90)) := (Below.refl _ _).alloc (Nat.le_refl _) _
  have HF := hide f
  have HPL := hide (lplaces_any (hl.later f) hn)
  have HCL := hide (climb_up8 (B := w.heap.size) (sb := w.heap.size) (E := (upM K rk)) rfl hn (eok_up hBd hn) hp f.size (hl.later f) (fun k hk => hl.lt hk) (heap_alloc_new _ _) (Nat.le_refl _))
  have hmf : ∀ (fn : Fn) (first cap : Array Value) (w : World), (Instr.makeFunc fn first cap).run Tryz.prog w = .ok (.func fn first cap) w := fun _ _ _ _ => rfl
  clear hl hBd f
  go_enter Tryz.func43, Tryz.ntmps43
  go_wp2_with (first | (go_at_call 31; refine HPL.out.mono ?_; rintro e w1 ⟨rfl, hw⟩; rw [hw]; clear hw) | (go_at_call 68; refine HCL.out.mono ?_; rintro e w2 ⟨rfl, gc, gl, gy, D, A, h1, h2, h3⟩; have H2 := hide (And.intro h1 (And.intro h2 h3)); clear h1 h2 h3))
  go_ret
  exact ⟨_, gc, gl, gy, D, A, rfl, H2.out.1, H2.out.2.1, HF.out.trans H2.out.2.2⟩
theorem wards_up_out {n : Nat} {p : Int} {w : World} {b : LfB} {rv : Nat → Int} {U V : Mx} (hl : LfA n w b rv U V) (hn : n ≤ 32) (hp : ¬ (0 ≤ p ∧ p < n)) :
    Calls Tryz.prog 43 #[.pointer (some ⟨b.l, 0, none⟩), .int .i64 p] w fun e w' => ∃ sb gc gl gy A, e = .returned (.pointer (some ⟨sb, 0, none⟩)) ∧ SdAt w.heap.size w' sb gc gl gy n (.func (.func 18) #[.pointer (some ⟨b.l, 0, none⟩)] #[]) (.func (.func 66) #[] #[]) (.func (.func 67) #[] #[]) p (fun _ => none) A ∧ Below w.heap.size w w' := by
  have f : Below w.heap.size w (w.alloc (.cells #[.func (.func 18) #[.pointer (some ⟨b.l, 0, none⟩)] #[], .func (.func 66) #[] #[], .func (.func 67) #[] #[], .int .i64 p, .slice none 0 0, .slice none 0 0, .slice none 0 0] 90)) := (Below.refl _ _).alloc (Nat.le_refl _) _
  have HF := hide f
  have HPL := hide (lplaces_any (hl.later f) hn)
  have HCL := hide (climb_out (B := w.heap.size) hn hp (heap_alloc_new w (.cells #[.func (.func 18) #[.pointer (some ⟨b.l, 0, none⟩)] #[], .func (.func 66) #[] #[], .func (.func 67) #[] #[], .int .i64 p, .slice none 0 0, .slice none 0 0, .slice none 0 0] 90)) (Nat.le_refl _))
  have hmf : ∀ (fn : Fn) (first cap : Array Value) (w : World), (Instr.makeFunc fn first cap).run Tryz.prog w = .ok (.func fn first cap) w := fun _ _ _ _ => rfl
  clear hl f hp
  go_enter Tryz.func43, Tryz.ntmps43
  go_wp2_with (first | (go_at_call 31; refine HPL.out.mono ?_; rintro e w1 ⟨rfl, hw⟩; rw [hw]; clear hw) | (go_at_call 68; refine HCL.out.mono ?_; rintro e w2 ⟨rfl, gc, gl, gy, A, h1, h2⟩; have H2 := hide (And.intro h1 h2); clear h1 h2))
  go_ret
  exact ⟨_, gc, gl, gy, A, rfl, H2.out.1, HF.out.trans H2.out.2⟩
theorem wards_up_nil (p : Int) (w : World) :
    Calls Tryz.prog 43 #[.pointer none, .int .i64 p] w fun e w' => ∃ sb gc gl gy A, e = .returned (.pointer (some ⟨sb, 0, none⟩)) ∧ SdAt w.heap.size w' sb gc gl gy 0 (.func (.func 18) #[.pointer none] #[]) (.func (.func 66) #[] #[]) (.func (.func 67) #[] #[]) p (fun _ => none) A ∧ Below w.heap.size w w' := by
  have f : Below w.heap.size w (w.alloc (.cells #[.func (.func 18) #[.pointer none] #[], .func (.func 66) #[] #[], .func (.func 67) #[] #[], .int .i64 p, .slice none 0 0, .slice none 0 0, .slice none 0 0] 90)) := (Below.refl _ _).alloc (Nat.le_refl _) _
  have HF := hide f
  have HPL := hide (lplaces_nil (w.alloc (.cells #[.func (.func 18) #[.pointer none] #[], .func (.func 66) #[] #[], .func (.func 67) #[] #[], .int .i64 p, .slice none 0 0, .slice none 0 0, .slice none 0 0] 90)))
  have HCL := hide (climb_out (B := w.heap.size) (n := 0) (by omega) (by omega) (heap_alloc_new w (.cells #[.func (.func 18) #[.pointer none] #[], .func (.func 66) #[] #[], .func (.func 67) #[] #[], .int .i64 p, .slice none 0 0, .slice none 0 0, .slice none 0 0] 90)) (Nat.le_refl _))
  have hmf : ∀ (fn : Fn) (first cap : Array Value) (w : World), (Instr.makeFunc fn first cap).run Tryz.prog w = .ok (.func fn first cap) w := fun _ _ _ _ => rfl
  clear f
  go_enter Tryz.func43, Tryz.ntmps43
  go_wp2_with (first | (go_at_call 31; refine HPL.out.mono ?_; rintro e w1 ⟨rfl, hw⟩; rw [hw]; clear hw) | (go_at_call 68; refine HCL.out.mono ?_; rintro e w2 ⟨rfl, gc, gl, gy, A, h1, h2⟩; have H2 := hide (And.intro h1 h2); clear h1 h2))
  go_ret
  exact ⟨_, gc, gl, gy, A, rfl, H2.out.1, HF.out.trans H2.out.2⟩

theorem climb_dn8 {B sb n p : Nat} {w : World} {b : LfB} {rv : Nat → Int} {U V : Mx} {E : Mx} {φ : Nat → Int} {ρ : Nat → Nat} (hEU : E = fun a c => V c a) (hn : n ≤ 32) (hE : EOk8 n E φ ρ) (hp : p < n) (hB : B ≤ w.heap.size) (hl : LfA n w b rv U V) (hlB : ∀ k, b.S n k → k < B)
    (hbx : w.heap[sb]? = some (.cells #[.func (.func 19) #[.pointer (some ⟨b.l, 0, none⟩)] #[], .func (.func 67) #[] #[], .func (.func 66) #[] #[], .int .i64 p, .slice none 0 0, .slice none 0 0, .slice none 0 0] 90 (0, 0))) (hsB : B ≤ sb) :
    Calls Tryz.prog 68 #[.pointer (some ⟨sb, 0, none⟩), .int .i64 n] w fun e w' => e = .returned (.tuple #[]) ∧ ∃ gc gl gy D A, SdAt B w' sb gc gl gy n (.func (.func 19) #[.pointer (some ⟨b.l, 0, none⟩)] #[]) (.func (.func 67) #[] #[]) (.func (.func 66) #[] #[]) p D A ∧ Side n false E p D A ∧ Below B w w' := by
  obtain ⟨hbg, ⟨k4, z4⟩, ⟨k5, z5⟩, ⟨k6, z6⟩⟩ := sd_begun (n := n) hbx hsB
  have HBG := hide hbg
  have c3 := hbg.1.sd.c.2.2.2.1
  have hmb := fun w => made_bools n hn w
  have hmi := fun w => made_ints8 n hn w
  have hml := fun w => made_links8 n hn w
  simp only [arr_rep] at hmb hmi
  have hlt : sb < w.heap.size := (Array.getElem?_eq_some_iff.1 hbx).1
  have HPU := hide (sq_put hbg.1 (Nat.le_trans hB hbg.2.size) p 0 ⟨by omega, by omega⟩ ⟨by omega, by omega⟩)
  rw [show Qu.putM [] (p : Int) 0 = ([((p : Int), (0 : Int))], true) from rfl] at HPU
  have HEU := hide hEU
  have HN := hide hn
  have HE := hide hE
  have HP := hide hp
  have HL := hide (And.intro hl hlB)
  have HB := hide hB
  have h1 : (p : Int) < (n : Int) := by omega
  clear hbx hbg hEU hE hl hlB hB
  go_enter Tryz.func68, Tryz.ntmps68
  go_wp2_with (first | (go_at_call 30; refine (new_exact _).mono ?_; rintro e w1 ⟨rfl, hw⟩; rw [hw]; clear hw) | (go_at_call 32; refine HPU.out.mono ?_; rintro e w2 ⟨rfl, S2, h1, h2, h3⟩; have H2 := hide (And.intro h1 h2); clear h1 h2 h3))
  have HS : Hid (ClIn9 B w sb (w.heap.size + 1 + 1 + 1) w.heap.size (w.heap.size + 1) (w.heap.size + 1 + 1) n (.func (.func 19) #[.pointer (some ⟨b.l, 0, none⟩)] #[]) (.func (.func 67) #[] #[]) (.func (.func 66) #[] #[]) p false E (fun _ => none) (fun _ => (0, 0, 0, 0)) [((p : Int), (0 : Int))] S2 w2) := ⟨HBG.out.2.trans (H2.out.2.below (Nat.le_trans HB.out HBG.out.2.size) HBG.out.1.ge), H2.out.1, sd_zero _ _ HP.out⟩
  clear H2 HPU HBG k4 z4 k5 z5 k6 z6 c3 hmb hmi hml h1
  generalize w.heap.size + 1 + 1 + 1 = q at HS ⊢
  generalize w.heap.size + 1 + 1 = gy at HS ⊢
  generalize w.heap.size + 1 = gl at HS ⊢
  generalize hgc : w.heap.size = gc at HS ⊢
  have HGC := hide hgc
  clear hgc
  go_loopg [] n (fun k wr => ∃ D A X S, k + cnt D n = n ∧ Hid (ClIn9 B w sb q gc gl gy n (.func (.func 19) #[.pointer (some ⟨b.l, 0, none⟩)] #[]) (.func (.func 67) #[] #[]) (.func (.func 66) #[] #[]) p false E D A X S wr))
  case atStart => exact ⟨_, _, _, _, by
    have : ∀ m, cnt (fun _ => none) m = 0 := fun m => by induction m with | zero => rfl | succ m ih => rw [cnt, ih]; rfl
    rw [this]; rfl, HS.out⟩
  case round =>
    clear HS
    obtain ⟨D, A, X, S, hk, HR⟩ := hrel
    have HBw : Hid (B ≤ wr.heap.size) := Nat.le_trans HB.out HR.out.below.size
    by_cases hX : X = []
    · subst hX
      have HEM := hide (sq_empty HR.out.sq)
      go_wp2_with (go_at_call 63; refine HEM.out.mono ?_; rintro e w' ⟨rfl, hw⟩; rw [hw]; clear hw)
      refine bodyPost_ret (results_none rfl _ _ _) rfl ?_
      exact ⟨rfl, gc, gl, gy, D, A, HR.out.sq.sd, sd_end HR.out.sd HE.out HP.out, HR.out.below⟩
    · obtain ⟨y, hy⟩ := Qu.least_ex hX
      have HT := hide (sq_take HR.out.sq HBw.out y hy)
      obtain ⟨v, hv, hy1, hDv, hmid, hcnt⟩ := sd_take HR.out.sd hy
      obtain ⟨y1, y2⟩ := y
      simp only at hy1 hmid hcnt HT
      subst hy1
      have HM := hide hmid
      have HV := hide hv
      clear hmid hy
      go_wp2_with (first
        | (go_at_call 63; refine HT.out.mono ?_; rintro e w2 ⟨rfl, ⟨S2, h1⟩, h2⟩; have H2 := hide (And.intro h1 h2); have hl2 := HL.out.1.of_blocks fun k hk => (HR.out.below.trans h2).block k (HL.out.2 k hk); have HL2 := hide hl2; clear h1 h2 hl2)
        | (go_at_call 90; refine (close_dn HEU.out HN.out HE.out HP.out HV.out (Nat.le_trans HBw.out H2.out.2.size) HL2.out HL.out.2 H2.out.1 HM.out).mono ?_; rintro e w4 ⟨rfl, A4, X4, S4, h1, h2, h3⟩; have H4 : Hid (ClIn9 B w sb q gc gl gy n (.func (.func 19) #[.pointer (some ⟨b.l, 0, none⟩)] #[]) (.func (.func 67) #[] #[]) (.func (.func 66) #[] #[]) p false E (upd D v (some y2)) A4 X4 S4 w4) := ⟨(HR.out.below.trans H2.out.2).trans h3, h1, md_end h2⟩; clear h1 h2 h3))
      go_roundg (gk - 1)
      case measure => have := cnt_le (upd D v (some y2)) n; omega
      case rel => exact ⟨_, _, _, _, by have := cnt_le (upd D v (some y2)) n; omega, H4.out⟩

theorem wards_dn {n p : Nat} {w : World} {b : LfB} {rv : Nat → Int} {W : Nat → Nat → Option Int} {K : Mx} {rk : Nat → Nat} {Q : Nat → Option Int} (hl : LfA n w b rv (upM K rk) (dnM K rk)) (hn : n ≤ 32) (hBd : Bd n W n K rk Q rv) (hp : p < n) :
    Calls Tryz.prog 44 #[.pointer (some ⟨b.l, 0, none⟩), .int .i64 p] w fun e w' => ∃ sb gc gl gy D A, e = .returned (.pointer (some ⟨sb, 0, none⟩)) ∧ SdAt w.heap.size w' sb gc gl gy n (.func (.func 19) #[.pointer (some ⟨b.l, 0, none⟩)] #[]) (.func (.func 67) #[] #[]) (.func (.func 66) #[] #[]) p D A ∧ Side n false (dnE K rk) p D A ∧ Below w.heap.size w w' := by
  have f : Below w.heap.size w (w.alloc (.cells #[.func (.func 19) #[.pointer (some ⟨b.l, 0, none⟩)] #[], .func (.func 67) #[] #[], .func (.func 66) #[] #[], .int .i64 p, .slice none 0 0, .slice none 0 0, .slice none 0 0] 90)) := (Below.refl _ _).alloc (Nat.le_refl _) _
  have HF := hide f
  have HPL := hide (lplaces_any (hl.later f) hn)
  have HCL := hide (climb_dn8 (B := w.heap.size) (sb := w.heap.size) (E := (dnE K rk)) rfl hn (eok_dn hBd hn) hp f.size (hl.later f) (fun k hk => hl.lt hk) (heap_alloc_new _ _) (Nat.le_refl _))
  have hmf : ∀ (fn : Fn) (first cap : Array Value) (w : World), (Instr.makeFunc fn first cap).run Tryz.prog w = .ok (.func fn first cap) w := fun _ _ _ _ => rfl
  clear hl hBd f
  go_enter Tryz.func44, Tryz.ntmps44
  go_wp2_with (first | (go_at_call 31; refine HPL.out.mono ?_; rintro e w1 ⟨rfl, hw⟩; rw [hw]; clear hw) | (go_at_call 68; refine HCL.out.mono ?_; rintro e w2 ⟨rfl, gc, gl, gy, D, A, h1, h2, h3⟩; have H2 := hide (And.intro h1 (And.intro h2 h3)); clear h1 h2 h3))
  go_ret
  exact ⟨_, gc, gl, gy, D, A, rfl, H2.out.1, H2.out.2.1, HF.out.trans H2.out.2.2⟩
theorem wards_dn_out {n : Nat} {p : Int} {w : World} {b : LfB} {rv : Nat → Int} {U V : Mx} (hl : LfA n w b rv U V) (hn : n ≤ 32) (hp : ¬ (0 ≤ p ∧ p < n)) :
    Calls Tryz.prog 44 #[.pointer (some ⟨b.l, 0, none⟩), .int .i64 p] w fun e w' => ∃ sb gc gl gy A, e = .returned (.pointer (some ⟨sb, 0, none⟩)) ∧ SdAt w.heap.size w' sb gc gl gy n (.func (.func 19) #[.pointer (some ⟨b.l, 0, none⟩)] #[]) (.func (.func 67) #[] #[]) (.func (.func 66) #[] #[]) p (fun _ => none) A ∧ Below w.heap.size w w' := by
  have f : Below w.heap.size w (w.alloc (.cells #[.func (.func 19) #[.pointer (some ⟨b.l, 0, none⟩)] #[], .func (.func 67) #[] #[], .func (.func 66) #[] #[], .int .i64 p, .slice none 0 0, .slice none 0 0, .slice none 0 0] 90)) := (Below.refl _ _).alloc (Nat.le_refl _) _
  have HF := hide f
  have HPL := hide (lplaces_any (hl.later f) hn)
  have HCL := hide (climb_out (B := w.heap.size) hn hp (heap_alloc_new w (.cells #[.func (.func 19) #[.pointer (some ⟨b.l, 0, none⟩)] #[], .func (.func 67) #[] #[], .func (.func 66) #[] #[], .int .i64 p, .slice none 0 0, .slice none 0 0, .slice none 0 0] 90)) (Nat.le_refl _))
  have hmf : ∀ (fn : Fn) (first cap : Array Value) (w : World), (Instr.makeFunc fn first cap).run Tryz.prog w = .ok (.func fn first cap) w := fun _ _ _ _ => rfl
  clear hl f hp
  go_enter Tryz.func44, Tryz.ntmps44
  go_wp2_with (first | (go_at_call 31; refine HPL.out.mono ?_; rintro e w1 ⟨rfl, hw⟩; rw [hw]; clear hw) | (go_at_call 68; refine HCL.out.mono ?_; rintro e w2 ⟨rfl, gc, gl, gy, A, h1, h2⟩; have H2 := hide (And.intro h1 h2); clear h1 h2))
  go_ret
  exact ⟨_, gc, gl, gy, A, rfl, H2.out.1, HF.out.trans H2.out.2⟩
theorem wards_dn_nil (p : Int) (w : World) :
    Calls Tryz.prog 44 #[.pointer none, .int .i64 p] w fun e w' => ∃ sb gc gl gy A, e = .returned (.pointer (some ⟨sb, 0, none⟩)) ∧ SdAt w.heap.size w' sb gc gl gy 0 (.func (.func 19) #[.pointer none] #[]) (.func (.func 67) #[] #[]) (.func (.func 66) #[] #[]) p (fun _ => none) A ∧ Below w.heap.size w w' := by
  have f : Below w.heap.size w (w.alloc (.cells #[.func (.func 19) #[.pointer none] #[], .func (.func 67) #[] #[], .func (.func 66) #[] #[], .int .i64 p, .slice none 0 0, .slice none 0 0, .slice none 0 0] 90)) := (Below.refl _ _).alloc (Nat.le_refl _) _
  have HF := hide f
  have HPL := hide (lplaces_nil (w.alloc (.cells #[.func (.func 19) #[.pointer none] #[], .func (.func 67) #[] #[], .func (.func 66) #[] #[], .int .i64 p, .slice none 0 0, .slice none 0 0, .slice none 0 0] 90)))
  have HCL := hide (climb_out (B := w.heap.size) (n := 0) (by omega) (by omega) (heap_alloc_new w (.cells #[.func (.func 19) #[.pointer none] #[], .func (.func 67) #[] #[], .func (.func 66) #[] #[], .int .i64 p, .slice none 0 0, .slice none 0 0, .slice none 0 0] 90)) (Nat.le_refl _))
  have hmf : ∀ (fn : Fn) (first cap : Array Value) (w : World), (Instr.makeFunc fn first cap).run Tryz.prog w = .ok (.func fn first cap) w := fun _ _ _ _ => rfl
  clear f
  go_enter Tryz.func44, Tryz.ntmps44
  go_wp2_with (first | (go_at_call 31; refine HPL.out.mono ?_; rintro e w1 ⟨rfl, hw⟩; rw [hw]; clear hw) | (go_at_call 68; refine HCL.out.mono ?_; rintro e w2 ⟨rfl, gc, gl, gy, A, h1, h2⟩; have H2 := hide (And.intro h1 h2); clear h1 h2))
  go_ret
  exact ⟨_, gc, gl, gy, A, rfl, H2.out.1, HF.out.trans H2.out.2⟩
end Go.Proofs.YtojkdmkeankcgaaGreat
