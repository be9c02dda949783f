/-
  What the call of climb's close does.
-/
import Derived.Test.YtojkdmkeankcgaaGreatZSd8
import Derived.Deep.CutRange
namespace Go.Proofs.YtojkdmkeankcgaaGreat
open Go.RowKit Go.Sort

theorem links_up {n : Nat} {w : World} {b : LfB} {rv : Nat → Int} {U V : Mx} (h : LfA n w b rv U V) (hn : n ≤ 32) {p : Nat} (hp : p < n) : Calls Tryz.prog 18 #[.pointer (some ⟨b.l, 0, none⟩), .int .i64 p] w fun e w' => ∃ v, e = .returned v ∧ LRow w' w.heap.size v (upL n U p) ∧ Below w.heap.size w w' := lup_any h hn hp
theorem links_dn {n : Nat} {w : World} {b : LfB} {rv : Nat → Int} {U V : Mx} (h : LfA n w b rv U V) (hn : n ≤ 32) {p : Nat} (hp : p < n) : Calls Tryz.prog 19 #[.pointer (some ⟨b.l, 0, none⟩), .int .i64 p] w fun e w' => ∃ v, e = .returned v ∧ LRow w' w.heap.size v (dnL n V p) ∧ Below w.heap.size w w' := ldown_any h hn hp
/-- While close runs. -/
structure ClIn8 (B : Nat) (w0 : World) (sb q gc gl gy n : Nat) (lk lo hi : Value) (s : Int) (sN : Nat) (up : Bool) (E : Mx) (D : Nat → Option Int) (p : Nat) (k : Int) (va : Option Addr) (c : Nat) (A : Nat → Lnk) (X : List Qu.Pr) (S : Nat → Prop) (wr : World) : Prop where
  below : Below B w0 wr
  hB : B ≤ wr.heap.size
  sq : SqAt B wr sb q gc gl gy n lk lo hi s D A X S
  row : KRow wr va (rowS up n E p) gc gl gy S
  md : Md8 n up E sN D X A p k c
/-- Behind the call of upper: the link's own block. -/
structure Lk2 (wr wx : World) (cs : Array Value) : Prop where
  below : Below wr.heap.size wr wx
  new : wx.heap[wr.heap.size]? = some (.cells cs 46 (0, 0))
theorem lk2_mk {wr : World} {cs : Array Value} (h : Below wr.heap.size wr (wr.alloc (.cells cs 46))) (hn : (wr.alloc (.cells cs 46)).heap[wr.heap.size]? = some (.cells cs 46 (0, 0))) (nq : Nat) : Lk2 wr (((wr.alloc (.cells cs 46)).drewN nq).alloc (.cells cs 46)) cs := by
  have f : Below (wr.alloc (.cells cs 46)).heap.size (wr.alloc (.cells cs 46)) (((wr.alloc (.cells cs 46)).drewN nq).alloc (.cells cs 46)) := (Qu.below_drewN (Below.refl (wr.alloc (.cells cs 46)).heap.size _) nq).alloc (by simp) _
  exact ⟨h.trans (f.mono h.size), (f.block _ (by simp)).trans hn⟩
theorem lk2_lt {wr wx : World} {cs : Array Value} (h : Lk2 wr wx cs) : wr.heap.size < wx.heap.size := (Array.getElem?_eq_some_iff.1 h.new).1
theorem lk2_c2 {wr wx : World} {a b c d : Value} (h : Lk2 wr wx #[a, b, c, d]) : wx.cell? ⟨wr.heap.size, 2, none⟩ = some c := by rw [cell_of_row _ wr.heap.size 2 _ _ _ h.new]; rfl
theorem lk2_cells {wr wx w3 : World} {a b c d : Value} (h : Lk2 wr wx #[a, b, c, d]) (h3 : w3.heap[wr.heap.size]? = wx.heap[wr.heap.size]?) : w3.cell? ⟨wr.heap.size, 0, none⟩ = some a ∧ w3.cell? ⟨wr.heap.size, 1, none⟩ = some b ∧ w3.cell? ⟨wr.heap.size, 2, none⟩ = some c ∧ w3.cell? ⟨wr.heap.size, 3, none⟩ = some d := by
  have e := h3.trans h.new
  exact ⟨by rw [cell_of_row _ wr.heap.size 0 _ _ _ e]; rfl, by rw [cell_of_row _ wr.heap.size 1 _ _ _ e]; rfl, by rw [cell_of_row _ wr.heap.size 2 _ _ _ e]; rfl, by rw [cell_of_row _ wr.heap.size 3 _ _ _ e]; rfl⟩
set_option maxRecDepth 100000
set_option maxHeartbeats 12800000

/-- What upclose does. -/
theorem close_up {B sb q gc gl gy n sN p : Nat} {w : World} {b : LfB} {rv : Nat → Int} {U V : Mx} {E : Mx} {φ : Nat → Int} {ρ : Nat → Nat} {s : Int} {D : Nat → Option Int} {A : Nat → Lnk} {X : List Qu.Pr} {S : Nat → Prop} {k : Int}
    (hEU : E = U) (hn : n ≤ 32) (hE : EOk8 n E φ ρ) (hs : sN < n) (hp : p < n) (hB : B ≤ w.heap.size) (hl : LfA n w b rv U V) (hlB : ∀ k, b.S n k → k < B)
    (h : SqAt B w sb q gc gl gy n (.func (.func 18) #[.pointer (some ⟨b.l, 0, none⟩)] #[]) (.func (.func 66) #[] #[]) (.func (.func 67) #[] #[]) s D A X S) (hm : Md8 n true E sN (upd D p (some k)) X A p k 0) :
    Calls Tryz.prog 90 #[.pointer (some ⟨sb, 0, none⟩), .int .i64 p, .int .i64 k, .pointer (some ⟨q, 0, none⟩)] w fun e w' => e = .returned (.tuple #[]) ∧ ∃ A' X' S', SqAt B w' sb q gc gl gy n (.func (.func 18) #[.pointer (some ⟨b.l, 0, none⟩)] #[]) (.func (.func 66) #[] #[]) (.func (.func 67) #[] #[]) s (upd D p (some k)) A' X' S' ∧ Md8 n true E sN (upd D p (some k)) X' A' p k (rowS true n E p).length ∧ Below B w w' := by
  have HN := hide hn
  have HE := hide hE
  have HRL := hide (rowS_len true n E p)
  have hkb : 0 ≤ k ∧ k ≤ 4294967296000000 := hE.lid (hm.core.clo p k hm.hp).2 hs hp
  have HPL := hide hp
  obtain ⟨c0, c1, c2, c3, c4, c5, c6⟩ := h.sd.c
  have y1 := h.sd.cclo hp
  have y2 := frozen_of_row w gc p _ _ h.sd.clo
  have z1 := h.sd.clst hp
  have z2 := frozen_of_row w gl p _ _ h.sd.lst
  obtain ⟨m1, m2, m3, m4, m5, m6⟩ := h.sd.nes
  have i1 : (p : Int) < (n : Int) := by omega
  have HQ := hide (h.mark p k)
  have f0 : Below B w ((w.setCell ⟨gc, p, none⟩ (.bool true)).setCell ⟨gl, p, none⟩ (.int .i64 k)) := ((Below.refl _ _).setCell h.sd.ge.2.1 _).setCell h.sd.ge.2.2.1 _
  have HF0 := hide f0
  have HLK := hide (links_up (hl.of_blocks fun k hk => f0.block k (hlB k hk)) hn hp)
  have hSB : B ≤ ((w.setCell ⟨gc, p, none⟩ (.bool true)).setCell ⟨gl, p, none⟩ (.int .i64 k)).heap.size := by simpa [World.setCell] using hB
  have HSB := hide hSB
  have HROW : Hid (upL n U p = rowS true n E p) := by show _ = _; rw [hEU]; rfl
  have HM := hide hm
  generalize upd D p (some k) = D' at HQ HM ⊢
  clear h hm hl hE f0 hSB hEU
  go_enter Tryz.func90, Tryz.ntmps90
  go_wp2_with (go_at_call 18; refine HLK.out.mono ?_; rintro e w1 ⟨v, rfl, h1, h2⟩; rw [HROW.out] at h1; obtain ⟨va, rc, rfl⟩ := h1.shape; have H1 := hide (And.intro h1 h2); clear h1 h2)
  generalize (w.setCell ⟨gc, p, none⟩ (.bool true)).setCell ⟨gl, p, none⟩ (.int .i64 k) = W0 at HQ HF0 HSB H1
  have HS : Hid (ClIn8 B w sb q gc gl gy n (.func (.func 18) #[.pointer (some ⟨b.l, 0, none⟩)] #[]) (.func (.func 66) #[] #[]) (.func (.func 67) #[] #[]) s sN true E D' p k va 0 A X S w1) := by
    obtain ⟨l1, l2, l3, l4⟩ := HQ.out.sd.lts
    exact ⟨HF0.out.trans (H1.out.2.mono HSB.out), Nat.le_trans HSB.out H1.out.2.size, HQ.out.later H1.out.2, krow_of H1.out.1 (fun k hk => HQ.out.que.lt k hk) l2 l3 l4, HM.out⟩
  clear HQ HF0 HSB H1 HLK HM c0 c1 c2 c3 c4 c5 c6 y1 y2 z1 z2 HROW
  go_loopw [31] (fun vi wr => ∃ c : Nat, vi = .int .i64 c ∧ c ≤ (rowS true n E p).length ∧ Hid (∃ A' X' S', ClIn8 B w sb q gc gl gy n (.func (.func 18) #[.pointer (some ⟨b.l, 0, none⟩)] #[]) (.func (.func 66) #[] #[]) (.func (.func 67) #[] #[]) s sN true E D' p k va c A' X' S' wr)) (fun vi _ => (rowS true n E p).length - (intOf vi).toNat)
  case atStart => exact ⟨0, rfl, Nat.zero_le _, _, _, _, HS.out⟩
  case round =>
    clear HS
    obtain ⟨c, rfl, hc, HR⟩ := hrel
    obtain ⟨A1, X1, S1, hC⟩ := HR.out
    by_cases hlt : c < (rowS true n E p).length
    · obtain ⟨gb, hva, g1, g2, g3, g4, glt, d0, d1, d2, d3⟩ := hC.row c hlt
      subst hva
      have hRL := HRL.out
      obtain ⟨R, hR⟩ : ∃ R, (rowS true n E p).length = R := ⟨_, rfl⟩
      have HRR := hide hR
      have i2 : (c : Int) < (R : Int) := by omega
      obtain ⟨v, x, hv, hx, hrow⟩ := rowS_at hlt
      have hxb := HE.out.e p v x.1 x.2 hx
      have hxl := HE.out.f v hv
      have hpl := HE.out.f p HPL.out
      have i4 : Wt x.1 := ⟨by omega, by omega⟩
      have i5 : Wt k := ⟨hkb.1, by omega⟩
      have i6 : Qu.I64 (v : Int) := ⟨by omega, by omega⟩
      have i7 : Qu.I64 (k + x.1) := ⟨by unfold Wt at i4 i5; omega, by unfold Wt at i4 i5; omega⟩
      have HX := hide hx
      have HROW := hide hrow
      rw [hrow] at d0 d1 d2 d3
      obtain ⟨xw, xm⟩ := x
      simp only [mkL, if_true] at d0 d1 d2 d3
      have i3 : (v : Int) < (n : Int) := by omega
      have HC := hide hC
      have HI := hide (And.intro i4 (And.intro i5 (And.intro i6 i7)))
      have HB1 : Hid (Below wr.heap.size wr (wr.alloc (.cells #[.int .i64 p, .int .i64 v, .int .i64 xw, .int .i64 xm] 46))) := (Below.refl _ _).alloc (Nat.le_refl _) _
      have hnew := heap_alloc_new wr (.cells #[.int .i64 p, .int .i64 v, .int .i64 xw, .int .i64 xm] 46)
      have HNEW := hide hnew
      obtain ⟨c0, c1, c2, c3, c4, c5, c6⟩ := (hC.sq.sd.later HB1.out).c
      clear hC HR hxb hxl hpl i4 i5 i6 i7 hx hrow
      rw [hR]
      go_wp2
      go_cut [10] from 35 to 40 (fun v10 wx => v10 = .int .i64 v ∧ Hid (Lk2 wr wx #[.int .i64 p, .int .i64 v, .int .i64 xw, .int .i64 xm]))
      case first =>
        have e0 := cell_of_row _ wr.heap.size 0 _ _ _ hnew
        have e1 := cell_of_row _ wr.heap.size 1 _ _ _ hnew
        have e2 := cell_of_row _ wr.heap.size 2 _ _ _ hnew
        have e3 := cell_of_row _ wr.heap.size 3 _ _ _ hnew
        simp only [List.getElem?_toArray, List.getElem?_cons_succ, List.getElem?_cons_zero] at e0 e1 e2 e3
        go_region_with (go_at_call 67; refine (head_any _ _ _ _ _).mono ?_; rintro e w2 ⟨rfl, hw⟩; rw [hw]; clear hw)
        all_goals
          go_wp2_with fail
          go_meet
          case rel => exact ⟨rfl, lk2_mk HB1.out HNEW.out _⟩
      case rest =>
        obtain ⟨rfl, HW⟩ := hcut
        have HS2 := hide (HC.out.sq.later HW.out.below)
        have HR2 := hide (HC.out.row.later HW.out.below)
        have HB2 := hide (HC.out.below.trans (HW.out.below.mono HC.out.hB))
        have HZ2 := hide (Nat.le_trans HC.out.hB HW.out.below.size)
        have hE0l := lk2_lt HW.out
        have hE0S : ¬ S1 wr.heap.size := fun e => by have := HC.out.sq.que.lt _ e; omega
        clear c0 c1 c2 c3 c4 c5 c6 d0 d1 d2 d3
        obtain ⟨c0, c1, c2, c3, c4, c5, c6⟩ := HS2.out.sd.c
        have y1 := HS2.out.sd.cclo hv
        cases hD : D' v with
        | some d =>
          have HM : Hid (Md8 n true E sN D' X1 A1 p k (c + 1)) := md_skip HC.out.md HE.out hlt HX.out HROW.out hD
          rw [hD] at y1
          simp only [Option.isSome_some] at y1
          replace hD := hide hD
          go_wp2
          go_roundw
          case rel => exact ⟨c + 1, by go_num, by omega, A1, X1, S1, HB2.out, HZ2.out, HS2.out, HR2.out, HM.out⟩
          case measure => simp [intOf]; omega
        | none =>
          have HM := hide (md_put HC.out.md HN.out HE.out HPL.out hlt hv HX.out HROW.out hD)
          rw [hD] at y1
          simp only [Option.isSome_none] at y1
          have HPU := hide (sq_put HS2.out HZ2.out v (k + xw) HI.out.2.2.1 HI.out.2.2.2)
          simp only at HM
          generalize Qu.putM X1 v (k + xw) = pm at HM HPU
          obtain ⟨X2, bb⟩ := pm
          simp only at HM HPU
          replace hD := hide hD
          have e2 := lk2_c2 HW.out
          cases bb
          · have HM2 : Hid (Md8 n true E sN D' X2 A1 p k (c + 1)) := hide (by simpa using HM.out)
            go_wp2_with (first | (go_at_call 40; refine (plusC_any k xw HI.out.2.1 HI.out.1 _).mono ?_; rintro e w2 ⟨rfl, hw⟩; rw [hw]; clear hw) | (go_at_call 32; refine HPU.out.mono ?_; rintro e w3 ⟨rfl, S2, h1, h2, h3⟩; have H3 := hide (And.intro h1 (And.intro h2 h3)); clear h1 h2 h3))
            go_roundw
            case rel => exact ⟨c + 1, by go_num, by omega, A1, X2, S2, HB2.out.trans (H3.out.2.1.below HZ2.out HS2.out.ge), Nat.le_trans HZ2.out H3.out.2.1.size, H3.out.1, HR2.out.fr H3.out.2.1 H3.out.2.2, HM2.out⟩
            case measure => simp [intOf]; omega
          · have HM2 : Hid (Md8 n true E sN D' X2 (upd A1 v (mkL true p v (xw, xm))) p k (c + 1)) := hide (by simpa using HM.out)
            go_wp2_with (first | (go_at_call 40; refine (plusC_any k xw HI.out.2.1 HI.out.1 _).mono ?_; rintro e w2 ⟨rfl, hw⟩; rw [hw]; clear hw) | (go_at_call 32; refine HPU.out.mono ?_; rintro e w3 ⟨rfl, S2, h1, h2, h3⟩; have H3 := hide (And.intro h1 (And.intro h2 h3)); have x6 := h1.sd.c.2.2.2.2.2.2; obtain ⟨b0, b1, b2, b3⟩ := h1.sd.cbys hv; have x7 := h2.block _ hE0l hE0S; obtain ⟨k0, k1, k2, k3⟩ := lk2_cells HW.out x7; have f0 := frozen_of_row w3 gy (v * 4) _ _ h1.sd.bys; have f1 := frozen_of_row w3 gy (v * 4 + 1) _ _ h1.sd.bys; have f2 := frozen_of_row w3 gy (v * 4 + 2) _ _ h1.sd.bys; have f3 := frozen_of_row w3 gy (v * 4 + 3) _ _ h1.sd.bys; clear h1 h2 h3 x7))
            have HE3 : Hid (ClIn8 B w sb q gc gl gy n (.func (.func 18) #[.pointer (some ⟨b.l, 0, none⟩)] #[]) (.func (.func 66) #[] #[]) (.func (.func 67) #[] #[]) s sN true E D' p k (some ⟨gb, 0, none⟩) (c + 1) (upd A1 v (mkL true p v (xw, xm))) X2 S2 (putL w3 gy v (mkL true p v (xw, xm)))) :=
              ⟨putL_below (HB2.out.trans (H3.out.2.1.below HZ2.out HS2.out.ge)) HS2.out.sd.ge.2.2.2 _ _, by rw [putL_size]; exact Nat.le_trans HZ2.out H3.out.2.1.size, H3.out.1.lead hv _, (HR2.out.fr H3.out.2.1 H3.out.2.2).lead _ _, HM2.out⟩
            go_region
            all_goals
              go_wp2
              go_roundw
              case rel => exact ⟨c + 1, by go_num, by omega, _, X2, S2, Qu.below_drewN HE3.out.below 1, HE3.out.hB, HE3.out.sq.drewN 1, HE3.out.row.later (Qu.below_drewN (Below.refl _ _) 1), HE3.out.md⟩
              case measure => simp [intOf]; omega
    · have hce : c = (rowS true n E p).length := by omega
      subst hce
      go_wp2
      go_end0
      exact ⟨rfl, A1, X1, S1, hC.sq, hC.md, hC.below⟩

/-- What dnclose does. -/
theorem close_dn {B sb q gc gl gy n sN p : Nat} {w : World} {b : LfB} {rv : Nat → Int} {U V : Mx} {E : Mx} {φ : Nat → Int} {ρ : Nat → Nat} {s : Int} {D : Nat → Option Int} {A : Nat → Lnk} {X : List Qu.Pr} {S : Nat → Prop} {k : Int}
    (hEU : E = fun a c => V c a) (hn : n ≤ 32) (hE : EOk8 n E φ ρ) (hs : sN < n) (hp : p < n) (hB : B ≤ w.heap.size) (hl : LfA n w b rv U V) (hlB : ∀ k, b.S n k → k < B)
    (h : SqAt B w sb q gc gl gy n (.func (.func 19) #[.pointer (some ⟨b.l, 0, none⟩)] #[]) (.func (.func 67) #[] #[]) (.func (.func 66) #[] #[]) s D A X S) (hm : Md8 n false E sN (upd D p (some k)) X A p k 0) :
    Calls Tryz.prog 90 #[.pointer (some ⟨sb, 0, none⟩), .int .i64 p, .int .i64 k, .pointer (some ⟨q, 0, none⟩)] w fun e w' => e = .returned (.tuple #[]) ∧ ∃ A' X' S', SqAt B w' sb q gc gl gy n (.func (.func 19) #[.pointer (some ⟨b.l, 0, none⟩)] #[]) (.func (.func 67) #[] #[]) (.func (.func 66) #[] #[]) s (upd D p (some k)) A' X' S' ∧ Md8 n false E sN (upd D p (some k)) X' A' p k (rowS false n E p).length ∧ Below B w w' := by
  have HN := hide hn
  have HE := hide hE
  have HRL := hide (rowS_len false n E p)
  have hkb : 0 ≤ k ∧ k ≤ 4294967296000000 := hE.lid (hm.core.clo p k hm.hp).2 hs hp
  have HPL := hide hp
  obtain ⟨c0, c1, c2, c3, c4, c5, c6⟩ := h.sd.c
  have y1 := h.sd.cclo hp
  have y2 := frozen_of_row w gc p _ _ h.sd.clo
  have z1 := h.sd.clst hp
  have z2 := frozen_of_row w gl p _ _ h.sd.lst
  obtain ⟨m1, m2, m3, m4, m5, m6⟩ := h.sd.nes
  have i1 : (p : Int) < (n : Int) := by omega
  have HQ := hide (h.mark p k)
  have f0 : Below B w ((w.setCell ⟨gc, p, none⟩ (.bool true)).setCell ⟨gl, p, none⟩ (.int .i64 k)) := ((Below.refl _ _).setCell h.sd.ge.2.1 _).setCell h.sd.ge.2.2.1 _
  have HF0 := hide f0
  have HLK := hide (links_dn (hl.of_blocks fun k hk => f0.block k (hlB k hk)) hn hp)
  have hSB : B ≤ ((w.setCell ⟨gc, p, none⟩ (.bool true)).setCell ⟨gl, p, none⟩ (.int .i64 k)).heap.size := by simpa [World.setCell] using hB
  have HSB := hide hSB
  have HROW : Hid (dnL n V p = rowS false n E p) := by show _ = _; rw [hEU]; rfl
  have HM := hide hm
  generalize upd D p (some k) = D' at HQ HM ⊢
  clear h hm hl hE f0 hSB hEU
  go_enter Tryz.func90, Tryz.ntmps90
  go_wp2_with (go_at_call 19; refine HLK.out.mono ?_; rintro e w1 ⟨v, rfl, h1, h2⟩; rw [HROW.out] at h1; obtain ⟨va, rc, rfl⟩ := h1.shape; have H1 := hide (And.intro h1 h2); clear h1 h2)
  generalize (w.setCell ⟨gc, p, none⟩ (.bool true)).setCell ⟨gl, p, none⟩ (.int .i64 k) = W0 at HQ HF0 HSB H1
  have HS : Hid (ClIn8 B w sb q gc gl gy n (.func (.func 19) #[.pointer (some ⟨b.l, 0, none⟩)] #[]) (.func (.func 67) #[] #[]) (.func (.func 66) #[] #[]) s sN false E D' p k va 0 A X S w1) := by
    obtain ⟨l1, l2, l3, l4⟩ := HQ.out.sd.lts
    exact ⟨HF0.out.trans (H1.out.2.mono HSB.out), Nat.le_trans HSB.out H1.out.2.size, HQ.out.later H1.out.2, krow_of H1.out.1 (fun k hk => HQ.out.que.lt k hk) l2 l3 l4, HM.out⟩
  clear HQ HF0 HSB H1 HLK HM c0 c1 c2 c3 c4 c5 c6 y1 y2 z1 z2 HROW
  go_loopw [31] (fun vi wr => ∃ c : Nat, vi = .int .i64 c ∧ c ≤ (rowS false n E p).length ∧ Hid (∃ A' X' S', ClIn8 B w sb q gc gl gy n (.func (.func 19) #[.pointer (some ⟨b.l, 0, none⟩)] #[]) (.func (.func 67) #[] #[]) (.func (.func 66) #[] #[]) s sN false E D' p k va c A' X' S' wr)) (fun vi _ => (rowS false n E p).length - (intOf vi).toNat)
  case atStart => exact ⟨0, rfl, Nat.zero_le _, _, _, _, HS.out⟩
  case round =>
    clear HS
    obtain ⟨c, rfl, hc, HR⟩ := hrel
    obtain ⟨A1, X1, S1, hC⟩ := HR.out
    by_cases hlt : c < (rowS false n E p).length
    · obtain ⟨gb, hva, g1, g2, g3, g4, glt, d0, d1, d2, d3⟩ := hC.row c hlt
      subst hva
      have hRL := HRL.out
      obtain ⟨R, hR⟩ : ∃ R, (rowS false n E p).length = R := ⟨_, rfl⟩
      have HRR := hide hR
      have i2 : (c : Int) < (R : Int) := by omega
      obtain ⟨v, x, hv, hx, hrow⟩ := rowS_at hlt
      have hxb := HE.out.e p v x.1 x.2 hx
      have hxl := HE.out.f v hv
      have hpl := HE.out.f p HPL.out
      have i4 : Wt x.1 := ⟨by omega, by omega⟩
      have i5 : Wt k := ⟨hkb.1, by omega⟩
      have i6 : Qu.I64 (v : Int) := ⟨by omega, by omega⟩
      have i7 : Qu.I64 (k + x.1) := ⟨by unfold Wt at i4 i5; omega, by unfold Wt at i4 i5; omega⟩
      have HX := hide hx
      have HROW := hide hrow
      rw [hrow] at d0 d1 d2 d3
      obtain ⟨xw, xm⟩ := x
      simp only [mkL, if_false, Bool.false_eq_true] at d0 d1 d2 d3
      have i3 : (v : Int) < (n : Int) := by omega
      have HC := hide hC
      have HI := hide (And.intro i4 (And.intro i5 (And.intro i6 i7)))
      have HB1 : Hid (Below wr.heap.size wr (wr.alloc (.cells #[.int .i64 v, .int .i64 p, .int .i64 xw, .int .i64 xm] 46))) := (Below.refl _ _).alloc (Nat.le_refl _) _
      have hnew := heap_alloc_new wr (.cells #[.int .i64 v, .int .i64 p, .int .i64 xw, .int .i64 xm] 46)
      have HNEW := hide hnew
      obtain ⟨c0, c1, c2, c3, c4, c5, c6⟩ := (hC.sq.sd.later HB1.out).c
      clear hC HR hxb hxl hpl i4 i5 i6 i7 hx hrow
      rw [hR]
      go_wp2
      go_cut [10] from 35 to 40 (fun v10 wx => v10 = .int .i64 v ∧ Hid (Lk2 wr wx #[.int .i64 v, .int .i64 p, .int .i64 xw, .int .i64 xm]))
      case first =>
        have e0 := cell_of_row _ wr.heap.size 0 _ _ _ hnew
        have e1 := cell_of_row _ wr.heap.size 1 _ _ _ hnew
        have e2 := cell_of_row _ wr.heap.size 2 _ _ _ hnew
        have e3 := cell_of_row _ wr.heap.size 3 _ _ _ hnew
        simp only [List.getElem?_toArray, List.getElem?_cons_succ, List.getElem?_cons_zero] at e0 e1 e2 e3
        go_region_with (go_at_call 66; refine (tail_any _ _ _ _ _).mono ?_; rintro e w2 ⟨rfl, hw⟩; rw [hw]; clear hw)
        all_goals
          go_wp2_with fail
          go_meet
          case rel => exact ⟨rfl, lk2_mk HB1.out HNEW.out _⟩
      case rest =>
        obtain ⟨rfl, HW⟩ := hcut
        have HS2 := hide (HC.out.sq.later HW.out.below)
        have HR2 := hide (HC.out.row.later HW.out.below)
        have HB2 := hide (HC.out.below.trans (HW.out.below.mono HC.out.hB))
        have HZ2 := hide (Nat.le_trans HC.out.hB HW.out.below.size)
        have hE0l := lk2_lt HW.out
        have hE0S : ¬ S1 wr.heap.size := fun e => by have := HC.out.sq.que.lt _ e; omega
        clear c0 c1 c2 c3 c4 c5 c6 d0 d1 d2 d3
        obtain ⟨c0, c1, c2, c3, c4, c5, c6⟩ := HS2.out.sd.c
        have y1 := HS2.out.sd.cclo hv
        cases hD : D' v with
        | some d =>
          have HM : Hid (Md8 n false E sN D' X1 A1 p k (c + 1)) := md_skip HC.out.md HE.out hlt HX.out HROW.out hD
          rw [hD] at y1
          simp only [Option.isSome_some] at y1
          replace hD := hide hD
          go_wp2
          go_roundw
          case rel => exact ⟨c + 1, by go_num, by omega, A1, X1, S1, HB2.out, HZ2.out, HS2.out, HR2.out, HM.out⟩
          case measure => simp [intOf]; omega
        | none =>
          have HM := hide (md_put HC.out.md HN.out HE.out HPL.out hlt hv HX.out HROW.out hD)
          rw [hD] at y1
          simp only [Option.isSome_none] at y1
          have HPU := hide (sq_put HS2.out HZ2.out v (k + xw) HI.out.2.2.1 HI.out.2.2.2)
          simp only at HM
          generalize Qu.putM X1 v (k + xw) = pm at HM HPU
          obtain ⟨X2, bb⟩ := pm
          simp only at HM HPU
          replace hD := hide hD
          have e2 := lk2_c2 HW.out
          cases bb
          · have HM2 : Hid (Md8 n false E sN D' X2 A1 p k (c + 1)) := hide (by simpa using HM.out)
            go_wp2_with (first | (go_at_call 40; refine (plusC_any k xw HI.out.2.1 HI.out.1 _).mono ?_; rintro e w2 ⟨rfl, hw⟩; rw [hw]; clear hw) | (go_at_call 32; refine HPU.out.mono ?_; rintro e w3 ⟨rfl, S2, h1, h2, h3⟩; have H3 := hide (And.intro h1 (And.intro h2 h3)); clear h1 h2 h3))
            go_roundw
            case rel => exact ⟨c + 1, by go_num, by omega, A1, X2, S2, HB2.out.trans (H3.out.2.1.below HZ2.out HS2.out.ge), Nat.le_trans HZ2.out H3.out.2.1.size, H3.out.1, HR2.out.fr H3.out.2.1 H3.out.2.2, HM2.out⟩
            case measure => simp [intOf]; omega
          · have HM2 : Hid (Md8 n false E sN D' X2 (upd A1 v (mkL false p v (xw, xm))) p k (c + 1)) := hide (by simpa using HM.out)
            go_wp2_with (first | (go_at_call 40; refine (plusC_any k xw HI.out.2.1 HI.out.1 _).mono ?_; rintro e w2 ⟨rfl, hw⟩; rw [hw]; clear hw) | (go_at_call 32; refine HPU.out.mono ?_; rintro e w3 ⟨rfl, S2, h1, h2, h3⟩; have H3 := hide (And.intro h1 (And.intro h2 h3)); have x6 := h1.sd.c.2.2.2.2.2.2; obtain ⟨b0, b1, b2, b3⟩ := h1.sd.cbys hv; have x7 := h2.block _ hE0l hE0S; obtain ⟨k0, k1, k2, k3⟩ := lk2_cells HW.out x7; have f0 := frozen_of_row w3 gy (v * 4) _ _ h1.sd.bys; have f1 := frozen_of_row w3 gy (v * 4 + 1) _ _ h1.sd.bys; have f2 := frozen_of_row w3 gy (v * 4 + 2) _ _ h1.sd.bys; have f3 := frozen_of_row w3 gy (v * 4 + 3) _ _ h1.sd.bys; clear h1 h2 h3 x7))
            have HE3 : Hid (ClIn8 B w sb q gc gl gy n (.func (.func 19) #[.pointer (some ⟨b.l, 0, none⟩)] #[]) (.func (.func 67) #[] #[]) (.func (.func 66) #[] #[]) s sN false E D' p k (some ⟨gb, 0, none⟩) (c + 1) (upd A1 v (mkL false p v (xw, xm))) X2 S2 (putL w3 gy v (mkL false p v (xw, xm)))) :=
              ⟨putL_below (HB2.out.trans (H3.out.2.1.below HZ2.out HS2.out.ge)) HS2.out.sd.ge.2.2.2 _ _, by rw [putL_size]; exact Nat.le_trans HZ2.out H3.out.2.1.size, H3.out.1.lead hv _, (HR2.out.fr H3.out.2.1 H3.out.2.2).lead _ _, HM2.out⟩
            go_region
            all_goals
              go_wp2
              go_roundw
              case rel => exact ⟨c + 1, by go_num, by omega, _, X2, S2, Qu.below_drewN HE3.out.below 1, HE3.out.hB, HE3.out.sq.drewN 1, HE3.out.row.later (Qu.below_drewN (Below.refl _ _) 1), HE3.out.md⟩
              case measure => simp [intOf]; omega
    · have hce : c = (rowS false n E p).length := by omega
      subst hce
      go_wp2
      go_end0
      exact ⟨rfl, A1, X1, S1, hC.sq, hC.md, hC.below⟩
end Go.Proofs.YtojkdmkeankcgaaGreat

