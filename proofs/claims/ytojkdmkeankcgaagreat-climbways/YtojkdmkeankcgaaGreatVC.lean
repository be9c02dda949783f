/-
  Several texts in one.
-/
import Derived.Test.YtojkdmkeankcgaaGreatZSd8
import Derived.Deep.RegionHeld3
import Derived.BigRegion
import Derived.Test.YtojkdmkeankcgaaGreatVB
import Derived.Test.YtojkdmkeankcgaaGreatZAwake8
/-  What the call of a side's back does: the links of a lightest climb, the last one first. -/
namespace Go.Proofs.YtojkdmkeankcgaaGreat
open Go.RowKit Go.Sort

/-- The links by which one climbs to the top, the last one first; their weight. -/
inductive Chn (up : Bool) (E : Mx) (top : Nat) : Nat → Int → List Lnk → Prop
  | here : Chn up E top top 0 []
  | on {u v : Nat} {d : Int} {x : Lk} {L : List Lnk} : Chn up E top v d L → E u v = some x → Chn up E top u (d + x.1) (L ++ [mkL up u v x])
set_option maxRecDepth 100000 in
set_option maxHeartbeats 6400000 in
theorem back_tail {w : World} {B sb gc gl gy n s top : Nat} {lk hi : Value} {E : Mx} {D : Nat → Option Int} {A : Nat → Lnk} {φ : Nat → Int} {ρ : Nat → Nat} {dt : Int} (h : SdAt B w sb gc gl gy n lk (.func (.func 66) #[] #[]) hi s D A) (hS : Side n true E s D A) (hE : EOk8 n E φ ρ) (hr : ρ top ≤ 64) (hd : D top = some dt) :
    Calls Tryz.prog 45 #[.pointer (some ⟨sb, 0, none⟩), .int .i64 top] w fun e w' => ∃ v L d0, e = .returned v ∧ D s = some d0 ∧ Chn true E top s (dt - d0) L ∧ L.length ≤ 64 ∧ LRow w' w.heap.size v L ∧ Below w.heap.size w w' := by
  obtain ⟨i0, hi0, hy0, hy1, hy2⟩ := info_parts info59
  have HI := hide (And.intro hi0 (And.intro hy0 (And.intro hy1 hy2)))
  have HD := hide h
  have HS := hide hS
  have HE := hide hE
  have HT : Hid (∃ L dp, Chn true E top top (dt - dp) L ∧ D top = some dp ∧ top < n ∧ L.length + ρ top ≤ ρ top ∧ LRow w w.heap.size (.slice none 0 0) L ∧ Below w.heap.size w w) := ⟨[], dt, by rw [Int.sub_self]; exact .here, hd, (hS.lt _ _ hd).1, by simp, lrow_nil _ _, Below.refl _ _⟩
  clear h hS hE hi0 hy0 hy1 hy2 hd
  go_enter Tryz.func45, Tryz.ntmps45
  go_wp2
  go_loopw [5, 6] (fun v vp wr => ∃ (p : Nat) (u : Value), u = v ∧ vp = .int .i64 p ∧ Hid (∃ L dp, Chn true E top p (dt - dp) L ∧ D p = some dp ∧ p < n ∧ L.length + ρ p ≤ ρ top ∧ LRow wr w.heap.size u L ∧ Below w.heap.size w wr)) (fun _ vp _ => ρ (intOf vp).toNat)
  case atStart => exact ⟨top, _, rfl, rfl, HT.out⟩
  case round =>
    clear HT
    obtain ⟨p, u, rfl, rfl, HR⟩ := hrel
    obtain ⟨L, dp, h1, h2, h3, h4, h5, h6⟩ := HR.out
    have H := hide (And.intro h1 (And.intro h2 (And.intro h5 h6)))
    have hL : L.length ≤ 64 := by omega
    clear h1 h2 h5 h6 HR
    obtain ⟨c0, c1, c2, c3, c4, c5, c6⟩ := (HD.out.later H.out.2.2.2).c
    by_cases hps : p = s
    · have e1 : ((p : Int) != (s : Int)) = false := by simp [hps]
      have HF : Hid (D s = some dp ∧ Chn true E top s (dt - dp) L ∧ L.length ≤ 64 ∧ LRow wr w.heap.size u L ∧ Below w.heap.size w wr) := ⟨by rw [← hps]; exact H.out.2.1, by rw [← hps]; exact H.out.1, hL, H.out.2.2.1, H.out.2.2.2⟩
      replace hps := hide hps
      clear H
      go_wp2
      go_ret
      exact ⟨u, L, dp, rfl, HF.out⟩
    · have e1 : ((p : Int) != (s : Int)) = true := by simp; omega
      obtain ⟨q, d', x, hq, hdq, hx, hsum, hA⟩ := HS.out.ahead p dp H.out.2.1 hps
      have hrk := (HE.out.e q p x.1 x.2 hx).2.2.2.2
      obtain ⟨g0, g1, g2, g3⟩ := (HD.out.later H.out.2.2.2).cbys h3
      obtain ⟨z1, z2, k3, k4, hk⟩ : ∃ (z1 z2 : Nat) (k3 k4 : Int), A p = (z1, z2, (k3, k4)) := ⟨_, _, _, _, rfl⟩
      have HKK : Hid (mkL true q p x = (z1, z2, (k3, k4))) := hA.symm.trans hk
      have HLO : Hid (z1 = q) := by have h1 := HKK.out; obtain ⟨x1, x2⟩ := x; cases h1; rfl
      rw [hk] at g0 g1 g2 g3
      obtain ⟨k1, hk1⟩ : ∃ k1 : Int, (z1 : Int) = k1 := ⟨_, rfl⟩
      obtain ⟨k2, hk2⟩ : ∃ k2 : Int, (z2 : Int) = k2 := ⟨_, rfl⟩
      simp only [hk1, hk2] at g0 g1 g2 g3
      obtain ⟨va, vc, rfl⟩ := H.out.2.2.1.shape
      have HOW : Hid ((wr.alloc (.cells #[.int .i64 k1, .int .i64 k2, .int .i64 k3, .int .i64 k4] 46)).ownsRow w.heap.size 46 4 (.slice va L.length vc) L.length (flatK L)) := World.ownsRow.alloc H.out.2.2.1 _
      have HNW : Hid (∀ j u, [Value.int .i64 k1, .int .i64 k2, .int .i64 k3, .int .i64 k4][j]? = some u → (wr.alloc (.cells #[.int .i64 k1, .int .i64 k2, .int .i64 k3, .int .i64 k4] 46)).cell? ((⟨wr.heap.size, 0, none⟩ : Addr).add j) = some u) := World.news_of_block (cs := #[.int .i64 k1, .int .i64 k2, .int .i64 k3, .int .i64 k4]) (t := 46) (fr := (0, 0)) (heap_alloc_new _ _)
      have HBB : Hid (w.heap.size ≤ (wr.alloc (.cells #[.int .i64 k1, .int .i64 k2, .int .i64 k3, .int .i64 k4] 46)).heap.size) := by have := H.out.2.2.2.size; show _ ≤ _; simp; omega
      have HEND : Hid (∀ gg cap w3, w3.ownsRow w.heap.size 46 4 (.slice (some ⟨gg, 0, none⟩) (L.length + 1) cap) (L.length + 1) (flatK L ++ [.int .i64 k1, .int .i64 k2, .int .i64 k3, .int .i64 k4]) → (wr.alloc (.cells #[.int .i64 k1, .int .i64 k2, .int .i64 k3, .int .i64 k4] 46)).grownBy w3 (Value.slice va L.length vc).ownBlock → Below w.heap.size w w3 ∧ LRow w3 w.heap.size (.slice (some ⟨gg, 0, none⟩) (L.length + 1) cap) (L ++ [mkL true q p x])) := fun gg cap w3 ho hgr => by
        have hf := H.out.2.2.2.alloc H.out.2.2.2.size (.cells #[.int .i64 k1, .int .i64 k2, .int .i64 k3, .int .i64 k4] 46)
        refine ⟨hf.grown hgr hf.size fun k hk => (H.out.2.2.1.lt k hk).1, ?_⟩
        unfold LRow
        rw [HKK.out, flatK_app, show (L ++ [(z1, z2, k3, k4)]).length = L.length + 1 by simp]
        rw [← hk1, ← hk2] at ho
        exact ho
      have HCH : Hid (Chn true E top q (dt - d') (L ++ [mkL true q p x])) := by
        have h1 := Chn.on H.out.1 hx
        rw [show dt - dp + x.1 = dt - d' by omega] at h1
        exact h1
      have HQ : Hid (D q = some d' ∧ q < n ∧ L.length + 1 + ρ q ≤ ρ top) := ⟨hdq, hq, by omega⟩
      have p1 : (p : Int) < (n : Int) := by omega
      replace hps := hide hps
      replace hA := hide hA
      replace hk := hide hk
      clear hdq hx hsum
      go_wp2_with (at_builtin; refine wpList_append_lies _ rfl (.tmp 26) (.tmp 34) 43 rfl w.heap.size 46 i0 (.agg #[.int .i64 0, .int .i64 0, .int .i64 0, .int .i64 0]) 4 32 Tryz.underlying43 HI.out.1 HI.out.2.1 HI.out.2.2.1 HI.out.2.2.2 rfl (by decide) (.slice va L.length vc) L.length (flatK L) rfl HOW.out ⟨wr.heap.size, 0, none⟩ 1 1 [.int .i64 k1, .int .i64 k2, .int .i64 k3, .int .i64 k4] rfl rfl HNW.out (by simp [Value.oneCell']) (by decide) (by unfold maxLen; omega) (by omega) HBB.out (wr.heap.size + 1) (by simp) ?_)
      intro gg cap w3 hown1 hgrow hat hlt3
      have H3 := hide (HEND.out gg cap w3 hown1 hgrow)
      clear hown1 hgrow hat hlt3 HOW HNW HEND HBB c0 c1 c2 c3 c4 c5 c6 g0 g1 g2 g3
      obtain ⟨c0, c1, c2, c3, c4, c5, c6⟩ := (HD.out.later H3.out.1).c
      obtain ⟨g0, g1, g2, g3⟩ := (HD.out.later H3.out.1).cbys h3
      rw [hk.out] at g0 g1 g2 g3
      simp only [hk1, hk2] at g0 g1 g2 g3
      go_wp2
      first | (go_region_held3 (fun w' => w'.cell? ⟨sb, 1, none⟩ = some (.func (.func 66) #[] #[]) ∧ w'.cell? ⟨sb, 6, none⟩ = some (.slice (some ⟨gy, 0, none⟩) n n) ∧ w'.cell? ⟨gy, p * 4, none⟩ = some (.int .i64 k1) ∧ w'.cell? ⟨gy, p * 4 + 1, none⟩ = some (.int .i64 k2) ∧ w'.cell? ⟨gy, p * 4 + 2, none⟩ = some (.int .i64 k3) ∧ w'.cell? ⟨gy, p * 4 + 3, none⟩ = some (.int .i64 k4)) (go_keep) (first | (go_at_call 66; refine (tail_any _ _ _ _ _).mono ?_; rintro e w4 ⟨rfl, hw⟩; rw [hw]; clear hw))) | fail
      have HST : Hid (∃ L' dp, Chn true E top q (dt - dp) L' ∧ D q = some dp ∧ q < n ∧ L'.length + ρ q ≤ ρ top ∧ LRow (w3.alloc (.cells #[.int .i64 k1, .int .i64 k2, .int .i64 k3, .int .i64 k4] 46)).drew w.heap.size (.slice (some ⟨gg, 0, none⟩) (L.length + 1) cap) L' ∧ Below w.heap.size w (w3.alloc (.cells #[.int .i64 k1, .int .i64 k2, .int .i64 k3, .int .i64 k4] 46)).drew) := by
        have hf : Below w3.heap.size w3 (w3.alloc (.cells #[.int .i64 k1, .int .i64 k2, .int .i64 k3, .int .i64 k4] 46)).drew := ((Below.refl _ _).alloc (Nat.le_refl _) _).drew
        exact ⟨_, d', HCH.out, HQ.out.1, HQ.out.2.1, by have := HQ.out.2.2; simp; omega, H3.out.2.later (Nat.le_refl _) hf, H3.out.1.trans (hf.mono H3.out.1.size)⟩
      have hkq : k1 = (q : Int) := by have := HLO.out; omega
      replace hk1 := hide hk1
      replace hk2 := hide hk2
      rename_i hHeld
      clear hHeld
      go_wp2
      go_roundw
      case rel => exact ⟨q, _, rfl, by rw [hkq], HST.out⟩
      case measure => simp [intOf]; rw [hkq]; simp; exact hrk
set_option maxRecDepth 100000 in
set_option maxHeartbeats 6400000 in
theorem back_head {w : World} {B sb gc gl gy n s top : Nat} {lk hi : Value} {E : Mx} {D : Nat → Option Int} {A : Nat → Lnk} {φ : Nat → Int} {ρ : Nat → Nat} {dt : Int} (h : SdAt B w sb gc gl gy n lk (.func (.func 67) #[] #[]) hi s D A) (hS : Side n false E s D A) (hE : EOk8 n E φ ρ) (hr : ρ top ≤ 64) (hd : D top = some dt) :
    Calls Tryz.prog 45 #[.pointer (some ⟨sb, 0, none⟩), .int .i64 top] w fun e w' => ∃ v L d0, e = .returned v ∧ D s = some d0 ∧ Chn false E top s (dt - d0) L ∧ L.length ≤ 64 ∧ LRow w' w.heap.size v L ∧ Below w.heap.size w w' := by
  obtain ⟨i0, hi0, hy0, hy1, hy2⟩ := info_parts info59
  have HI := hide (And.intro hi0 (And.intro hy0 (And.intro hy1 hy2)))
  have HD := hide h
  have HS := hide hS
  have HE := hide hE
  have HT : Hid (∃ L dp, Chn false E top top (dt - dp) L ∧ D top = some dp ∧ top < n ∧ L.length + ρ top ≤ ρ top ∧ LRow w w.heap.size (.slice none 0 0) L ∧ Below w.heap.size w w) := ⟨[], dt, by rw [Int.sub_self]; exact .here, hd, (hS.lt _ _ hd).1, by simp, lrow_nil _ _, Below.refl _ _⟩
  clear h hS hE hi0 hy0 hy1 hy2 hd
  go_enter Tryz.func45, Tryz.ntmps45
  go_wp2
  go_loopw [5, 6] (fun v vp wr => ∃ (p : Nat) (u : Value), u = v ∧ vp = .int .i64 p ∧ Hid (∃ L dp, Chn false E top p (dt - dp) L ∧ D p = some dp ∧ p < n ∧ L.length + ρ p ≤ ρ top ∧ LRow wr w.heap.size u L ∧ Below w.heap.size w wr)) (fun _ vp _ => ρ (intOf vp).toNat)
  case atStart => exact ⟨top, _, rfl, rfl, HT.out⟩
  case round =>
    clear HT
    obtain ⟨p, u, rfl, rfl, HR⟩ := hrel
    obtain ⟨L, dp, h1, h2, h3, h4, h5, h6⟩ := HR.out
    have H := hide (And.intro h1 (And.intro h2 (And.intro h5 h6)))
    have hL : L.length ≤ 64 := by omega
    clear h1 h2 h5 h6 HR
    obtain ⟨c0, c1, c2, c3, c4, c5, c6⟩ := (HD.out.later H.out.2.2.2).c
    by_cases hps : p = s
    · have e1 : ((p : Int) != (s : Int)) = false := by simp [hps]
      have HF : Hid (D s = some dp ∧ Chn false E top s (dt - dp) L ∧ L.length ≤ 64 ∧ LRow wr w.heap.size u L ∧ Below w.heap.size w wr) := ⟨by rw [← hps]; exact H.out.2.1, by rw [← hps]; exact H.out.1, hL, H.out.2.2.1, H.out.2.2.2⟩
      replace hps := hide hps
      clear H
      go_wp2
      go_ret
      exact ⟨u, L, dp, rfl, HF.out⟩
    · have e1 : ((p : Int) != (s : Int)) = true := by simp; omega
      obtain ⟨q, d', x, hq, hdq, hx, hsum, hA⟩ := HS.out.ahead p dp H.out.2.1 hps
      have hrk := (HE.out.e q p x.1 x.2 hx).2.2.2.2
      obtain ⟨g0, g1, g2, g3⟩ := (HD.out.later H.out.2.2.2).cbys h3
      obtain ⟨z1, z2, k3, k4, hk⟩ : ∃ (z1 z2 : Nat) (k3 k4 : Int), A p = (z1, z2, (k3, k4)) := ⟨_, _, _, _, rfl⟩
      have HKK : Hid (mkL false q p x = (z1, z2, (k3, k4))) := hA.symm.trans hk
      have HLO : Hid (z2 = q) := by have h1 := HKK.out; obtain ⟨x1, x2⟩ := x; cases h1; rfl
      rw [hk] at g0 g1 g2 g3
      obtain ⟨k1, hk1⟩ : ∃ k1 : Int, (z1 : Int) = k1 := ⟨_, rfl⟩
      obtain ⟨k2, hk2⟩ : ∃ k2 : Int, (z2 : Int) = k2 := ⟨_, rfl⟩
      simp only [hk1, hk2] at g0 g1 g2 g3
      obtain ⟨va, vc, rfl⟩ := H.out.2.2.1.shape
      have HOW : Hid ((wr.alloc (.cells #[.int .i64 k1, .int .i64 k2, .int .i64 k3, .int .i64 k4] 46)).ownsRow w.heap.size 46 4 (.slice va L.length vc) L.length (flatK L)) := World.ownsRow.alloc H.out.2.2.1 _
      have HNW : Hid (∀ j u, [Value.int .i64 k1, .int .i64 k2, .int .i64 k3, .int .i64 k4][j]? = some u → (wr.alloc (.cells #[.int .i64 k1, .int .i64 k2, .int .i64 k3, .int .i64 k4] 46)).cell? ((⟨wr.heap.size, 0, none⟩ : Addr).add j) = some u) := World.news_of_block (cs := #[.int .i64 k1, .int .i64 k2, .int .i64 k3, .int .i64 k4]) (t := 46) (fr := (0, 0)) (heap_alloc_new _ _)
      have HBB : Hid (w.heap.size ≤ (wr.alloc (.cells #[.int .i64 k1, .int .i64 k2, .int .i64 k3, .int .i64 k4] 46)).heap.size) := by have := H.out.2.2.2.size; show _ ≤ _; simp; omega
      have HEND : Hid (∀ gg cap w3, w3.ownsRow w.heap.size 46 4 (.slice (some ⟨gg, 0, none⟩) (L.length + 1) cap) (L.length + 1) (flatK L ++ [.int .i64 k1, .int .i64 k2, .int .i64 k3, .int .i64 k4]) → (wr.alloc (.cells #[.int .i64 k1, .int .i64 k2, .int .i64 k3, .int .i64 k4] 46)).grownBy w3 (Value.slice va L.length vc).ownBlock → Below w.heap.size w w3 ∧ LRow w3 w.heap.size (.slice (some ⟨gg, 0, none⟩) (L.length + 1) cap) (L ++ [mkL false q p x])) := fun gg cap w3 ho hgr => by
        have hf := H.out.2.2.2.alloc H.out.2.2.2.size (.cells #[.int .i64 k1, .int .i64 k2, .int .i64 k3, .int .i64 k4] 46)
        refine ⟨hf.grown hgr hf.size fun k hk => (H.out.2.2.1.lt k hk).1, ?_⟩
        unfold LRow
        rw [HKK.out, flatK_app, show (L ++ [(z1, z2, k3, k4)]).length = L.length + 1 by simp]
        rw [← hk1, ← hk2] at ho
        exact ho
      have HCH : Hid (Chn false E top q (dt - d') (L ++ [mkL false q p x])) := by
        have h1 := Chn.on H.out.1 hx
        rw [show dt - dp + x.1 = dt - d' by omega] at h1
        exact h1
      have HQ : Hid (D q = some d' ∧ q < n ∧ L.length + 1 + ρ q ≤ ρ top) := ⟨hdq, hq, by omega⟩
      have p1 : (p : Int) < (n : Int) := by omega
      replace hps := hide hps
      replace hA := hide hA
      replace hk := hide hk
      clear hdq hx hsum
      go_wp2_with (at_builtin; refine wpList_append_lies _ rfl (.tmp 26) (.tmp 34) 43 rfl w.heap.size 46 i0 (.agg #[.int .i64 0, .int .i64 0, .int .i64 0, .int .i64 0]) 4 32 Tryz.underlying43 HI.out.1 HI.out.2.1 HI.out.2.2.1 HI.out.2.2.2 rfl (by decide) (.slice va L.length vc) L.length (flatK L) rfl HOW.out ⟨wr.heap.size, 0, none⟩ 1 1 [.int .i64 k1, .int .i64 k2, .int .i64 k3, .int .i64 k4] rfl rfl HNW.out (by simp [Value.oneCell']) (by decide) (by unfold maxLen; omega) (by omega) HBB.out (wr.heap.size + 1) (by simp) ?_)
      intro gg cap w3 hown1 hgrow hat hlt3
      have H3 := hide (HEND.out gg cap w3 hown1 hgrow)
      clear hown1 hgrow hat hlt3 HOW HNW HEND HBB c0 c1 c2 c3 c4 c5 c6 g0 g1 g2 g3
      obtain ⟨c0, c1, c2, c3, c4, c5, c6⟩ := (HD.out.later H3.out.1).c
      obtain ⟨g0, g1, g2, g3⟩ := (HD.out.later H3.out.1).cbys h3
      rw [hk.out] at g0 g1 g2 g3
      simp only [hk1, hk2] at g0 g1 g2 g3
      go_wp2
      first | (go_region_held3 (fun w' => w'.cell? ⟨sb, 1, none⟩ = some (.func (.func 67) #[] #[]) ∧ w'.cell? ⟨sb, 6, none⟩ = some (.slice (some ⟨gy, 0, none⟩) n n) ∧ w'.cell? ⟨gy, p * 4, none⟩ = some (.int .i64 k1) ∧ w'.cell? ⟨gy, p * 4 + 1, none⟩ = some (.int .i64 k2) ∧ w'.cell? ⟨gy, p * 4 + 2, none⟩ = some (.int .i64 k3) ∧ w'.cell? ⟨gy, p * 4 + 3, none⟩ = some (.int .i64 k4)) (go_keep) (first | (go_at_call 67; refine (head_any _ _ _ _ _).mono ?_; rintro e w4 ⟨rfl, hw⟩; rw [hw]; clear hw))) | fail
      have HST : Hid (∃ L' dp, Chn false E top q (dt - dp) L' ∧ D q = some dp ∧ q < n ∧ L'.length + ρ q ≤ ρ top ∧ LRow (w3.alloc (.cells #[.int .i64 k1, .int .i64 k2, .int .i64 k3, .int .i64 k4] 46)).drew w.heap.size (.slice (some ⟨gg, 0, none⟩) (L.length + 1) cap) L' ∧ Below w.heap.size w (w3.alloc (.cells #[.int .i64 k1, .int .i64 k2, .int .i64 k3, .int .i64 k4] 46)).drew) := by
        have hf : Below w3.heap.size w3 (w3.alloc (.cells #[.int .i64 k1, .int .i64 k2, .int .i64 k3, .int .i64 k4] 46)).drew := ((Below.refl _ _).alloc (Nat.le_refl _) _).drew
        exact ⟨_, d', HCH.out, HQ.out.1, HQ.out.2.1, by have := HQ.out.2.2; simp; omega, H3.out.2.later (Nat.le_refl _) hf, H3.out.1.trans (hf.mono H3.out.1.size)⟩
      have hkq : k2 = (q : Int) := by have := HLO.out; omega
      replace hk1 := hide hk1
      replace hk2 := hide hk2
      rename_i hHeld
      clear hHeld
      go_wp2
      go_roundw
      case rel => exact ⟨q, _, rfl, by rw [hkq], HST.out⟩
      case measure => simp [intOf]; rw [hkq]; simp; exact hrk
end Go.Proofs.YtojkdmkeankcgaaGreat
/-  What the call of slices.Reverse of links does. -/
namespace Go.Proofs.YtojkdmkeankcgaaGreat
open Go.RowKit Go.Sort

def revA (n : Nat) (A : Nat → Lnk) (k i : Nat) : Lnk := if i < k ∨ n - k ≤ i then A (n - 1 - i) else A i
theorem bysV_same {n : Nat} {A A' : Nat → Lnk} (h : ∀ v, v < n → A v = A' v) : bysV n A = bysV n A' := by
  unfold bysV
  congr 1
  exact List.map_congr_left fun v hv => h v (List.mem_range.1 hv)
/-- A row of links that the call owns. -/
def LF (w : World) (base g cap n : Nat) (A : Nat → Lnk) : Prop := w.ownsRow base 46 4 (.slice (some ⟨g, 0, none⟩) n cap) n (bysV n A)
section
variable {w : World} {base g cap n : Nat} {A : Nat → Lnk}
theorem LF.cells (h : LF w base g cap n A) {v : Nat} (hv : v < n) : w.cell? ⟨g, v * 4, none⟩ = some (.int .i64 (A v).1) ∧ w.cell? ⟨g, v * 4 + 1, none⟩ = some (.int .i64 (A v).2.1) ∧ w.cell? ⟨g, v * 4 + 2, none⟩ = some (.int .i64 (A v).2.2.1) ∧ w.cell? ⟨g, v * 4 + 3, none⟩ = some (.int .i64 (A v).2.2.2) := by
  have f : ∀ j, j < 4 → ∀ u, (lnkC (A v))[j]? = some u → w.cell? ⟨g, v * 4 + j, none⟩ = some u := fun j hj u hu => by
    rw [World.ownsRow.cellAt h (v * 4 + j) (by omega), bysV_get A hv hj]
    exact hu
  exact ⟨f 0 (by omega) _ rfl, f 1 (by omega) _ rfl, f 2 (by omega) _ rfl, f 3 (by omega) _ rfl⟩
theorem LF.frozen (h : LF w base g cap n A) (j : Nat) : w.frozen? ⟨g, j, none⟩ = false := World.ownsRow.frozenAt h j
theorem LF.put (h : LF w base g cap n A) {v : Nat} (hv : v < n) (k : Lnk) : LF (putL w g v k) base g cap n (upd A v k) := by
  unfold LF putL
  rw [← bysV_set A hv k]
  exact (World.ownsRow.stored (World.ownsRow.stored (World.ownsRow.stored (World.ownsRow.stored h _ _).1 _ _).1 _ _).1 _ _).1
theorem LF.swap {k : Nat} (hk : k + k + 1 < n) (h : LF w base g cap n (revA n A k)) : LF (putL (putL w g k (A (n - 1 - k))) g (n - 1 - k) (A k)) base g cap n (revA n A (k + 1)) := by
  have h1 := (h.put (v := k) (by omega) (A (n - 1 - k))).put (v := n - 1 - k) (by omega) (A k)
  unfold LF at h1 ⊢
  rw [bysV_same (A' := revA n A (k + 1)) fun v hv => ?_] at h1
  · exact h1
  · unfold upd revA
    by_cases e1 : v = n - 1 - k
    · subst e1
      rw [if_pos rfl, if_pos (by omega), show n - 1 - (n - 1 - k) = k by omega]
    · rw [if_neg e1]
      by_cases e2 : v = k
      · subst e2
        rw [if_pos rfl, if_pos (by omega)]
      · rw [if_neg e2]
        by_cases e3 : v < k ∨ n - k ≤ v
        · rw [if_pos e3, if_pos (by omega)]
        · rw [if_neg e3, if_neg (by omega)]
end
set_option maxRecDepth 100000 in
set_option maxHeartbeats 6400000 in
theorem revK_any {w : World} {base g cap n : Nat} {A : Nat → Lnk} (h : LF w base g cap n A) (hb : base ≤ g) (hn : n ≤ 64) :
    Calls Tryz.prog 46 #[.slice (some ⟨g, 0, none⟩) n cap] w fun e w' => e = .returned (.tuple #[]) ∧ LF w' base g cap n (fun i => A (n - 1 - i)) ∧ Below base w w' := by
  have H0 : Hid (LF w base g cap n (revA n A 0) ∧ Below base w w) := ⟨by
    unfold LF at h ⊢
    rw [bysV_same (A' := A) fun v hv => by unfold revA; rw [if_neg (by omega)]]
    exact h, Below.refl _ _⟩
  have w0 : IntKind.i64.wrap ((n : Int) - 1) = (n : Int) - 1 := by rw [IntKind.wrap_i64]; omega
  clear h
  go_enter Tryz.func46, Tryz.ntmps46
  go_wp2
  go_loopw [2, 3] (fun vi vj wr => ∃ k : Nat, vi = .int .i64 k ∧ vj = .int .i64 ((n : Int) - 1 - (k : Int)) ∧ k + k ≤ n + 1 ∧ Hid (LF wr base g cap n (revA n A k) ∧ Below base w wr)) (fun vi _ _ => n + 1 - (intOf vi).toNat)
  case atStart => exact ⟨0, rfl, by go_num, by omega, H0.out⟩
  case round =>
    clear H0
    obtain ⟨k, rfl, rfl, hk, HR⟩ := hrel
    by_cases hij : k + k + 1 < n
    · obtain ⟨j, hj⟩ : ∃ j, n - 1 - k = j := ⟨_, rfl⟩
      have i1 : (k : Int) < (n : Int) - 1 - (k : Int) := by omega
      have ej : (n : Int) - 1 - (k : Int) = (j : Int) := by omega
      rw [ej] at i1 ⊢
      have i2 : (k : Int) < (n : Int) := by omega
      have i3 : (j : Int) < (n : Int) := by omega
      obtain ⟨a0, a1, a2, a3⟩ := HR.out.1.cells (v := k) (by omega)
      obtain ⟨b0, b1, b2, b3⟩ := HR.out.1.cells (v := j) (by omega)
      rw [show revA n A k k = A k by unfold revA; rw [if_neg (by omega)]] at a0 a1 a2 a3
      rw [show revA n A k j = A j by unfold revA; rw [if_neg (by omega)]] at b0 b1 b2 b3
      have HST : Hid (LF (putL (putL wr g k (A j)) g j (A k)).drew base g cap n (revA n A (k + 1)) ∧ Below base w (putL (putL wr g k (A j)) g j (A k)).drew) := by
        have h1 := LF.swap hij HR.out.1
        rw [hj] at h1
        exact ⟨World.ownsRow.drew h1, (putL_below (putL_below HR.out.2 hb _ _) hb _ _).drew⟩
      unfold putL at HST
      obtain ⟨p0, p1, p2, p3, hp⟩ : ∃ (p0 p1 : Nat) (p2 p3 : Int), A k = (p0, p1, (p2, p3)) := ⟨_, _, _, _, rfl⟩
      obtain ⟨q0, q1, q2, q3, hq⟩ : ∃ (q0 q1 : Nat) (q2 q3 : Int), A j = (q0, q1, (q2, q3)) := ⟨_, _, _, _, rfl⟩
      rw [hp] at a0 a1 a2 a3 HST
      rw [hq] at b0 b1 b2 b3 HST
      simp only at a0 a1 a2 a3 b0 b1 b2 b3
      have fz : ∀ t, wr.frozen? ⟨g, t, none⟩ = false := HR.out.1.frozen
      have w1 : IntKind.i64.wrap ((k : Int) + 1) = (k : Int) + 1 := by rw [IntKind.wrap_i64]; omega
      have w2 : IntKind.i64.wrap ((j : Int) - 1) = (j : Int) - 1 := by rw [IntKind.wrap_i64]; omega
      have nkj : ¬ k = j := by omega
      clear HR
      replace hp := hide hp
      replace hq := hide hq
      go_wp2
      go_region
      clear a0 a1 a2 a3 b0 b1 b2 b3 fz
      generalize ((((((((wr.setCell ⟨g, k * 4, none⟩ (.int .i64 q0)).setCell ⟨g, k * 4 + 1, none⟩ (.int .i64 q1)).setCell ⟨g, k * 4 + 2, none⟩ (.int .i64 q2)).setCell ⟨g, k * 4 + 3, none⟩ (.int .i64 q3)).setCell ⟨g, j * 4, none⟩ (.int .i64 p0)).setCell ⟨g, j * 4 + 1, none⟩ (.int .i64 p1)).setCell ⟨g, j * 4 + 2, none⟩ (.int .i64 p2)).setCell ⟨g, j * 4 + 3, none⟩ (.int .i64 p3)).drew = W9 at HST ⊢
      go_wp2
      go_roundw
      case rel => exact ⟨k + 1, by go_num, by first | (congr 1; omega) | go_num, by omega, HST.out⟩
      case measure => simp [intOf]; omega
    · have i1 : ¬ (k : Int) < (n : Int) - 1 - (k : Int) := by omega
      have HF : Hid (LF wr base g cap n (fun i => A (n - 1 - i)) ∧ Below base w wr) := by
        have h1 := HR.out.1
        unfold LF at h1 ⊢
        rw [bysV_same (A' := fun i => A (n - 1 - i)) fun v hv => by
          unfold revA
          by_cases e : v < k ∨ n - k ≤ v
          · rw [if_pos e]
          · rw [if_neg e, show n - 1 - v = v by omega]] at h1
        exact ⟨h1, HR.out.2⟩
      clear HR
      go_wp2
      go_end0
      exact ⟨rfl, HF.out⟩
end Go.Proofs.YtojkdmkeankcgaaGreat
/-  Chains of links, plain; and what a row of links that is turned round holds. -/
namespace Go.Proofs.YtojkdmkeankcgaaGreat
open Go.RowKit Go.Sort

/-- A chain of links from a place to a place, with its weight. -/
inductive Pth (K : Mx) : Nat → Nat → Int → List Lnk → Prop
  | nil (a : Nat) : Pth K a a 0 []
  | cons {a c b : Nat} {x m d : Int} {r : List Lnk} : K a c = some (x, m) → Pth K c b d r → Pth K a b (x + d) ((a, c, (x, m)) :: r)
theorem pth_app {K : Mx} {a b c : Nat} {d e : Int} {L M : List Lnk} (h : Pth K a b d L) (k : Pth K b c e M) : Pth K a c (d + e) (L ++ M) := by
  induction h with
  | nil a => rw [Int.zero_add]; exact k
  | cons hK _ ih => rw [Int.add_assoc]; exact .cons hK (ih k)
theorem pth_one {K : Mx} {a c : Nat} {k : Lk} (h : K a c = some k) : Pth K a c k.1 [(a, c, k)] := by
  obtain ⟨x, m⟩ := k
  have := Pth.cons h (Pth.nil c)
  rw [Int.add_zero] at this
  exact this
theorem chn_up {K : Mx} {rk : Nat → Nat} {top s : Nat} {d : Int} {L : List Lnk} (h : Chn true (upM K rk) top s d L) : Pth K s top d L.reverse := by
  induction h with
  | here => exact .nil _
  | @on u v d x L h hE ih =>
    have hK : K u v = some x := by
      unfold upM at hE
      split at hE
      · exact hE
      · cases hE
    have := pth_app (pth_one hK) ih
    rw [Int.add_comm] at this
    rw [List.reverse_append]
    exact this
theorem chn_dn {K : Mx} {rk : Nat → Nat} {top s : Nat} {d : Int} {L : List Lnk} (h : Chn false (dnE K rk) top s d L) : Pth K top s d L := by
  induction h with
  | here => exact .nil _
  | @on u v d x L h hE ih =>
    have hK : K v u = some x := by
      unfold dnE dnM at hE
      split at hE
      · exact hE
      · cases hE
    exact pth_app ih (pth_one hK)
theorem pth_drop {K : Mx} {a b : Nat} {d : Int} {Ls : List Lnk} {i : Nat} (hi : i < Ls.length) (h : Pth K a b d (Ls.drop i)) : ∃ c x m d', Ls[i]! = (a, c, (x, m)) ∧ K a c = some (x, m) ∧ Pth K c b d' (Ls.drop (i + 1)) ∧ d = x + d' := by
  rw [List.drop_eq_getElem_cons hi] at h
  generalize hr : Ls.drop (i + 1) = r at h ⊢
  rw [getElem!_pos Ls i hi]
  generalize Ls[i] = k at h ⊢
  cases h with
  | cons hK hp => exact ⟨_, _, _, _, rfl, hK, hp, rfl⟩
theorem pth_end {K : Mx} {a b : Nat} {d : Int} {Ls : List Lnk} {i : Nat} (hi : Ls.length ≤ i) (h : Pth K a b d (Ls.drop i)) : a = b ∧ d = 0 := by
  rw [List.drop_eq_nil_of_le hi] at h
  cases h
  exact ⟨rfl, rfl⟩
theorem weigh_res {n : Nat} {W : Nat → Nat → Option Int} : ∀ L : List Nat, (∀ x ∈ L, x < n) → weighL (resW n W) L = weighL W L
  | [], _ => rfl
  | [_], _ => rfl
  | a :: b :: r, h => by
    show oadd (resW n W a b) (weighL (resW n W) (b :: r)) = oadd (W a b) (weighL W (b :: r))
    rw [weigh_res (b :: r) fun x hx => h x (List.mem_cons_of_mem _ hx)]
    unfold resW
    rw [if_pos ⟨h a (List.mem_cons_self ..), h b (List.mem_cons_of_mem _ (List.mem_cons_self ..))⟩]
theorem way_fin {n : Nat} {W : Nat → Nat → Option Int} {s t : Nat} {d : Int} {L : List Nat} (hW : WOk n W) (hn : n ≤ 32) (hs : s < n) (hl : least n W s t = some d) (h : WayLe n (resW n W) s t d L) : WayOk n W s t d L := by
  have h1 := h.ok hn fun x hx => by
    obtain ⟨d', e1, e2⟩ := (least_is hW s hs).le (res_way.1 hx)
    rw [hl] at e1
    cases e1
    exact e2
  exact ⟨by rw [← weigh_res L h1.all]; exact h1.sum, h1.first, h1.last, h1.all, h1.len⟩
theorem join_known {n : Nat} {W : Nat → Nat → Option Int} {K : Mx} {s a c : Nat} {d x m : Int} {L M : List Nat} (hpos : ∀ a b x, W a b = some x → 0 ≤ x) (h : WayLe n W s a d L) (hK : K a c = some (x, m)) (hk : Known n W K a c M) : WayLe n W s c (d + x) (joinM L M) := by
  obtain ⟨y, h1, h2⟩ := hk
  rw [wtM_some.2 ⟨m, hK⟩] at h1
  cases h1
  exact joinM_way hpos h h2
theorem one_way {n : Nat} {W : Nat → Nat → Option Int} {s : Nat} (hs : s < n) : WayLe n W s s 0 [s] := ⟨⟨0, rfl, Int.le_refl _⟩, rfl, rfl, fun x hx => by simp at hx; omega, by simp⟩
theorem way_pos {n : Nat} {W : Nat → Nat → Option Int} {s t : Nat} {d : Int} {L : List Nat} (h : WayLe n W s t d L) : 0 < L.length := by
  cases L with
  | nil => have := h.first; cases this
  | cons a r => simp
/-! Reverse of a row of links. -/
theorem range_list (L : List Lnk) : (List.range L.length).map (fun i => L[i]!) = L := by
  apply List.ext_getElem
  · simp
  · intro i h1 h2
    rw [List.getElem_map, List.getElem_range, getElem!_pos L i h2]
theorem range_rev (L : List Lnk) : (List.range L.length).map (fun i => L[L.length - 1 - i]!) = L.reverse := by
  apply List.ext_getElem
  · simp
  · intro i h1 h2
    have hi : i < L.length := by simpa using h1
    rw [List.getElem_reverse]
    rw [List.getElem_map, List.getElem_range, getElem!_pos L (L.length - 1 - i) (by omega)]
set_option maxHeartbeats 400000 in
theorem rev_nil (w : World) : Calls Tryz.prog 46 #[.slice none 0 0] w fun e w' => e = .returned (.tuple #[]) ∧ w' = w := by
  go_enter Tryz.func46, Tryz.ntmps46
  go_wp2
  refine wp_loop_rounds 1 ?_
  rw [rounds_succ]
  go_wp2
  go_end0
  exact ⟨rfl, rfl⟩
theorem rev_row {w : World} {base : Nat} {v : Value} {L : List Lnk} (h : LRow w base v L) (hn : L.length ≤ 64) :
    Calls Tryz.prog 46 #[v] w fun e w' => e = .returned (.tuple #[]) ∧ LRow w' base v L.reverse ∧ Below base w w' := by
  rcases h.2 with ⟨e1, e2⟩ | ⟨g, cap, cur, e1, hb, _⟩
  · subst e1
    have hL : L = [] := List.eq_nil_of_length_eq_zero e2
    subst hL
    refine (rev_nil w).mono ?_
    rintro e w' ⟨rfl, rfl⟩
    exact ⟨rfl, h, Below.refl _ _⟩
  · subst e1
    have hf : LF w base g cap L.length (fun i => L[i]!) := by
      unfold LF bysV
      rw [range_list]
      exact h
    refine (revK_any hf hb hn).mono ?_
    rintro e w' ⟨rfl, h1, h2⟩
    refine ⟨rfl, ?_, h2⟩
    unfold LF bysV at h1
    rw [range_rev] at h1
    unfold LRow
    rw [List.length_reverse]
    exact h1
end Go.Proofs.YtojkdmkeankcgaaGreat
/-  What the call of climb's Way does. -/
namespace Go.Proofs.YtojkdmkeankcgaaGreat
open Go.RowKit Go.Sort

theorem lrow_tag {w : World} {base g : Nat} {v : Value} {L : List Lnk} (h : LRow w base v L) (hg : v.ownBlock = some g) : ∃ cur, w.heap[g]? = some (.cells cur 46 (0, 0)) := by
  rcases h.2 with ⟨e, _⟩ | ⟨g', cap, cur, e, _, hb, _⟩
  · rw [e] at hg; cases hg
  · rw [e] at hg; cases hg; exact ⟨cur, hb⟩
/-- Behind the opener's box, with the links. -/
structure WyA (n : Nat) (W : Nat → Nat → Option Int) (K : Mx) (rk : Nat → Nat) (rv : Nat → Int) (b : LfB) (mb g13 : Nat) (lv : Value) (Ls : List Lnk) (wo wr : World) : Prop where
  op : OpA n W K rk rv b mb wr
  fr : Fr mb wo wr
  b13 : wr.heap[g13]? = some (.cells #[.func (.func 18) #[.pointer (some ⟨b.l, 0, none⟩)] #[], .func (.func 19) #[.pointer (some ⟨b.l, 0, none⟩)] #[], .map (some mb)] 84 (0, 0))
  lk : LRow wr 0 lv Ls
section
variable {n mb g13 : Nat} {W : Nat → Nat → Option Int} {K : Mx} {rk : Nat → Nat} {rv : Nat → Int} {b : LfB} {lv : Value} {Ls : List Lnk} {wo wr w' : World}
theorem WyA.turn (h : WyA n W K rk rv b mb g13 lv Ls wo wr) (ho : OpA n W K rk rv b mb w') (f : Fr mb wr w') : WyA n W K rk rv b mb g13 lv Ls wo w' :=
  ⟨ho, h.fr.trans f, (f.block g13 (Array.getElem?_eq_some_iff.1 h.b13).1 (h.op.ne h.b13)).trans h.b13, own_of_block h.lk fun g hg => by
    obtain ⟨cur, hc⟩ := lrow_tag h.lk hg
    exact f.block g (h.lk.lt g hg).2 (h.op.ne hc)⟩
theorem WyA.later (h : WyA n W K rk rv b mb g13 lv Ls wo wr) (f : Below wr.heap.size wr w') : WyA n W K rk rv b mb g13 lv Ls wo w' := h.turn (h.op.later f) (fr_below f)
theorem WyA.c (h : WyA n W K rk rv b mb g13 lv Ls wo wr) : wr.cell? ⟨g13, 0, none⟩ = some (.func (.func 18) #[.pointer (some ⟨b.l, 0, none⟩)] #[]) ∧ wr.cell? ⟨g13, 1, none⟩ = some (.func (.func 19) #[.pointer (some ⟨b.l, 0, none⟩)] #[]) ∧ wr.cell? ⟨g13, 2, none⟩ = some (.map (some mb)) := by
  refine ⟨?_, ?_, ?_⟩
  · rw [cell_of_row _ g13 0 _ _ _ h.b13]; rfl
  · rw [cell_of_row _ g13 1 _ _ _ h.b13]; rfl
  · rw [cell_of_row _ g13 2 _ _ _ h.b13]; rfl
end
theorem lrow_cells {w : World} {base g m cap i : Nat} {Ls : List Lnk} (h : LRow w base (.slice (some ⟨g, 0, none⟩) m cap) Ls) (hi : i < Ls.length) : w.cell? ⟨g, i * 4, none⟩ = some (.int .i64 Ls[i]!.1) ∧ w.cell? ⟨g, i * 4 + 1, none⟩ = some (.int .i64 Ls[i]!.2.1) ∧ w.cell? ⟨g, i * 4 + 2, none⟩ = some (.int .i64 Ls[i]!.2.2.1) ∧ w.cell? ⟨g, i * 4 + 3, none⟩ = some (.int .i64 Ls[i]!.2.2.2) := by
  have hm : m = Ls.length := by
    rcases h.2 with ⟨e, _⟩ | ⟨g', cap', cur, e, _⟩
    · cases e
    · cases e; rfl
  subst hm
  have f : ∀ j, j < 4 → ∀ u, (lnkC Ls[i]!)[j]? = some u → w.cell? ⟨g, i * 4 + j, none⟩ = some u := fun j hj u hu => by
    rw [World.ownsRow.cellAt h (i * 4 + j) (by omega), flatK_get Ls i j hi hj]
    exact hu
  exact ⟨f 0 (by omega) _ rfl, f 1 (by omega) _ rfl, f 2 (by omega) _ rfl, f 3 (by omega) _ rfl⟩
theorem mk_box (w : World) : ((w.alloc (.map #[] 0)).alloc (.cells #[.nilFunc, .nilFunc, .map none] 84)).cell? ⟨w.heap.size + 1, 0, none⟩ = some .nilFunc ∧ ((w.alloc (.map #[] 0)).alloc (.cells #[.nilFunc, .nilFunc, .map none] 84)).cell? ⟨w.heap.size + 1, 1, none⟩ = some .nilFunc ∧ ((w.alloc (.map #[] 0)).alloc (.cells #[.nilFunc, .nilFunc, .map none] 84)).cell? ⟨w.heap.size + 1, 2, none⟩ = some (.map none) ∧
    ((w.alloc (.map #[] 0)).alloc (.cells #[.nilFunc, .nilFunc, .map none] 84)).frozen? ⟨w.heap.size + 1, 0, none⟩ = false ∧ ((w.alloc (.map #[] 0)).alloc (.cells #[.nilFunc, .nilFunc, .map none] 84)).frozen? ⟨w.heap.size + 1, 1, none⟩ = false ∧ ((w.alloc (.map #[] 0)).alloc (.cells #[.nilFunc, .nilFunc, .map none] 84)).frozen? ⟨w.heap.size + 1, 2, none⟩ = false := by
  have h := heap_alloc_new (w.alloc (.map #[] 0)) (.cells #[.nilFunc, .nilFunc, .map none] 84)
  rw [show (w.alloc (.map #[] 0)).heap.size = w.heap.size + 1 by simp] at h
  exact ⟨by rw [cell_of_row _ _ 0 _ _ _ h]; rfl, by rw [cell_of_row _ _ 1 _ _ _ h]; rfl, by rw [cell_of_row _ _ 2 _ _ _ h]; rfl, frozen_of_row _ _ 0 _ _ h, frozen_of_row _ _ 1 _ _ h, frozen_of_row _ _ 2 _ _ h⟩
/-- The opener, just made. -/
theorem wy_start {n : Nat} {W : Nat → Nat → Option Int} {K : Mx} {rk : Nat → Nat} {rv : Nat → Int} {b : LfB} {lv : Value} {Ls : List Lnk} {w w7 : World} {base s : Nat} (hl : LfA n w b rv (upM K rk) (dnM K rk)) (f : Below w.heap.size w w7) (hr : LRow w7 base lv Ls) :
    WyA n W K rk rv b w7.heap.size (w7.heap.size + 1) lv Ls w7 (((w7.alloc (.map #[] 0)).alloc (.cells #[.func (.func 18) #[.pointer (some ⟨b.l, 0, none⟩)] #[], .func (.func 19) #[.pointer (some ⟨b.l, 0, none⟩)] #[], .map (some w7.heap.size)] 84)).alloc (.cells #[.int .i64 s] 3)) ∧ IRow (((w7.alloc (.map #[] 0)).alloc (.cells #[.func (.func 18) #[.pointer (some ⟨b.l, 0, none⟩)] #[], .func (.func 19) #[.pointer (some ⟨b.l, 0, none⟩)] #[], .map (some w7.heap.size)] 84)).alloc (.cells #[.int .i64 s] 3)) 0 (.slice (some ⟨w7.heap.size + 2, 0, none⟩) 1 1) (natsI [s]) := by
  have f1 : Below w7.heap.size w7 (w7.alloc (.map #[] 0)) := (Below.refl _ _).alloc (Nat.le_refl _) _
  have f2 := bl_alloc (o := .cells #[.func (.func 18) #[.pointer (some ⟨b.l, 0, none⟩)] #[], .func (.func 19) #[.pointer (some ⟨b.l, 0, none⟩)] #[], .map (some w7.heap.size)] 84) f1
  have f3 := bl_alloc (o := .cells #[.int .i64 s] 3) f2
  have hm := MapAt2.made n w7
  have h2 := heap_alloc_new (w7.alloc (.map #[] 0)) (.cells #[.func (.func 18) #[.pointer (some ⟨b.l, 0, none⟩)] #[], .func (.func 19) #[.pointer (some ⟨b.l, 0, none⟩)] #[], .map (some w7.heap.size)] 84)
  have h3 := heap_alloc_new ((w7.alloc (.map #[] 0)).alloc (.cells #[.func (.func 18) #[.pointer (some ⟨b.l, 0, none⟩)] #[], .func (.func 19) #[.pointer (some ⟨b.l, 0, none⟩)] #[], .map (some w7.heap.size)] 84)) (.cells #[.int .i64 s] 3)
  rw [show (w7.alloc (.map #[] 0)).heap.size = w7.heap.size + 1 by simp] at h2
  rw [show ((w7.alloc (.map #[] 0)).alloc (.cells #[.func (.func 18) #[.pointer (some ⟨b.l, 0, none⟩)] #[], .func (.func 19) #[.pointer (some ⟨b.l, 0, none⟩)] #[], .map (some w7.heap.size)] 84)).heap.size = w7.heap.size + 2 by simp] at h3
  refine ⟨⟨⟨hl.later (bl_on f f3), fun hS => ?_, fun _ => none, ?_, fun c v _ h => by cases h⟩, fr_below f3, ?_, (hr.later (Nat.le_refl _) f3).mono (Nat.zero_le _)⟩, ⟨rfl, .inr ⟨w7.heap.size + 2, 1, #[.int .i64 s], rfl, Nat.zero_le _, h3, Nat.le_refl _, by decide, rfl, rfl⟩⟩⟩
  · have h1 := hl.lt hS
    have h2 := f.size
    omega
  · exact hm.of_block (by rw [Below.heap_alloc _ _ _ (by simp; omega), Below.heap_alloc _ _ _ (by simp)])
  · rw [Below.heap_alloc _ _ _ (by simp)]; exact h2
theorem meet_some {n : Nat} {W : Nat → Nat → Option Int} {K : Mx} {rk : Nat → Nat} {Q : Nat → Option Int} {rv : Nat → Int} (h : Bd n W n K rk Q rv) (hW : WOk n W) {a b : Nat} {D F : Nat → Option Int} (ha : a < n) (hb : b < n) (hD : IsLeast n (wtM (upM K rk)) a D) (hF : IsLeast n (wtM (dnE K rk)) b F) {d : Int} (hd : least n W a b = some d) :
    ∃ top du df, meetP D F n = some (top, d) ∧ top < n ∧ D top = some du ∧ F top = some df ∧ d = du + df := by
  have h0 := meet_least h hW ha hb hD hF
  rw [hd] at h0
  rcases meetP_is D F n with ⟨h1, _⟩ | ⟨t, l, h1, h2, ⟨x, y, h3, h4, h5⟩, _⟩
  · rw [h1] at h0; cases h0
  · rw [h1] at h0
    cases h0
    exact ⟨t, x, y, h1, h2, h3, h4, h5⟩
section
variable {n : Nat} {w : World} {b : LfB} {rv : Nat → Int} {W : Nat → Nat → Option Int} {K : Mx} {rk : Nat → Nat} {Q : Nat → Option Int}
set_option maxRecDepth 100000 in
set_option maxHeartbeats 6400000 in
theorem way8_some (hl : LfA n w b rv (upM K rk) (dnM K rk)) (hn : n ≤ 32) (hBd : Bd n W n K rk Q rv) (hW : WOk n W) {p q : Nat} (hp : p < n) (hq : q < n) {d : Int} (hd : least n W p q = some d) :
    Calls Tryz.prog 15 #[.pointer (some ⟨b.l, 0, none⟩), .int .i64 p, .int .i64 q] w fun e w' => ∃ g k L, e = .returned (.tuple #[.slice (some ⟨g, 0, none⟩) L.length k, .int .i64 d]) ∧ IRow w' 0 (.slice (some ⟨g, 0, none⟩) L.length k) (natsI L) ∧ WayOk n W p q d L ∧ Below w.heap.size w w' := by
  have HU := hide (wards_up hl hn hBd hp)
  have HL := hide hl
  have HN := hide hn
  have HBD := hide hBd
  have HW := hide hW
  have HP := hide hp
  have HQ := hide hq
  have HD := hide hd
  have HPO : Hid (∀ a b x, resW n W a b = some x → 0 ≤ x) := fun a b x h => by
    unfold resW at h
    split at h
    · rename_i h'
      exact (hW a b x h'.1 h'.2 h).1
    · cases h
  obtain ⟨i0, hi0, hy0, hy1, hy2⟩ := info_parts info59
  have HI := hide (And.intro hi0 (And.intro hy0 (And.intro hy1 hy2)))
  have hmf : ∀ (fn : Fn) (first cap : Array Value) (w : World), (Instr.makeFunc fn first cap).run Tryz.prog w = .ok (.func fn first cap) w := fun _ _ _ _ => rfl
  have hmm : ∀ w : World, (Instr.makeMap 82 none).run Tryz.prog w = .ok (.map (some w.heap.size)) (w.alloc (.map #[] 0)) := fun w => rfl
  have hsu := fun (w : World) (a : Addr) => run_store Tryz.prog w a (.func (.func 18) #[.pointer (some ⟨b.l, 0, none⟩)] #[]) .plain rfl
  have hsd := fun (w : World) (a : Addr) => run_store Tryz.prog w a (.func (.func 19) #[.pointer (some ⟨b.l, 0, none⟩)] #[]) .plain rfl
  clear hl hBd hW hd hi0 hy0 hy1 hy2
  go_enter Tryz.func15, Tryz.ntmps15
  go_wp2_with (first
    | (go_at_call 43; refine HU.out.mono ?_; rintro e w1 ⟨su, cu, lu, yu, D, A, rfl, h1, h2, h3⟩; have H1 := hide (And.intro h1 (And.intro h2 h3)); clear h1 h2 h3)
    | (go_at_call 44; refine (wards_dn (HL.out.later H1.out.2.2) HN.out HBD.out HQ.out).mono ?_; rintro e w2 ⟨sd, cd, ld, yd, F, A2, rfl, h1, h2, h3⟩; have H2 := hide (And.intro h1 (And.intro h2 h3)); clear h1 h2 h3)
    | (go_at_call 42; refine (meet_any HN.out (H1.out.1.later H2.out.2.2) H2.out.1 H1.out.2.1.dok H2.out.2.1.dok).mono ?_; rintro e w3 ⟨rfl, k, hw⟩; have H3 := hide hw; clear hw; obtain ⟨top, du, df, hm, htn, hdu, hdf, hsum⟩ := meet_some HBD.out HW.out HP.out HQ.out H1.out.2.1.least H2.out.2.1.least HD.out; rw [hm]; have HM := hide (And.intro hdu (And.intro hdf (And.intro hsum htn))); clear hm hdu hdf hsum htn; simp only [mtI, mlI]; have f3 : Below w2.heap.size w2 w3 := (by rw [H3.out]; exact Qu.below_drewN (Below.refl _ _) k); have HS3 := hide (And.intro ((H1.out.1.later H2.out.2.2).later f3) (And.intro (H2.out.1.later f3) (bl_on (bl_on H1.out.2.2 H2.out.2.2) f3))); clear f3)
    | (go_at_call 45; have HV := H5; clear HV; refine (back_head (HS3.out.2.1.later H5.out.2.2.2) H2.out.2.1 (eok_dn HBD.out HN.out) (by have := bd_all HBD.out top HM.out.2.2.2; have := HN.out; omega) HM.out.2.1).mono ?_; rintro e w6 ⟨v2, L2, e2, rfl, h1, h2, h3, h4, h5⟩; have H6 := hide (And.intro h1 (And.intro h2 (And.intro h3 (And.intro h4 h5)))); clear h1 h2 h3 h4 h5)
    | (go_at_call 45; refine (back_tail HS3.out.1 H1.out.2.1 (eok_up HBD.out HN.out) (by have := bd_all HBD.out top HM.out.2.2.2; have := HN.out; omega) HM.out.1).mono ?_; rintro e w4 ⟨v1, L1, e1, rfl, h1, h2, h3, h4, h5⟩; have H4 := hide (And.intro h1 (And.intro h2 (And.intro h3 (And.intro h4 h5)))); clear h1 h2 h3 h4 h5)
    | (go_at_call 46; refine (rev_row H4.out.2.2.2.1 H4.out.2.2.1).mono ?_; rintro e w5 ⟨rfl, h1, h2⟩; have H5 := hide (And.intro h1 (And.intro True.intro (And.intro True.intro (H4.out.2.2.2.2.trans h2)))); clear h1 h2)
    | (at_builtin; refine app_links (.tmp 36) (.tmp 39) i0 HI.out.1 HI.out.2.1 HI.out.2.2.1 HI.out.2.2.2 rfl rfl w3.heap.size w5.heap.size v1 v2 L1.reverse L2 rfl (H5.out.1.later (Nat.le_refl _) H6.out.2.2.2.2) rfl H6.out.2.2.2.1 (by have h1 := H4.out.2.2.1; have h2 := H6.out.2.2.1; rw [List.length_reverse]; omega) (by have h1 := H5.out.2.2.2.size; have h2 := H6.out.2.2.2.2.size; omega) ?_; intro v7 w7 h1 h2; obtain ⟨a7, c7, rfl⟩ := h1.shape; obtain ⟨m0, m1, m2, m3, m4, m5⟩ := mk_box w7; have H7 := hide (And.intro h1 ((H5.out.2.2.2.trans (H6.out.2.2.2.2.mono H5.out.2.2.2.size)).grown h2 (by have h1 := H5.out.2.2.2.size; have h2 := H6.out.2.2.2.2.size; omega) fun k hk => ((H5.out.1.later (Nat.le_refl _) H6.out.2.2.2.2).lt k hk).1)); clear h1 h2))
  have HF7 := hide (bl_on HS3.out.2.2 H7.out.2)
  have HPT : Hid (Pth K p q d (L1.reverse ++ L2)) := by
    have e1' := H4.out.1
    have e2' := H6.out.1
    rw [H1.out.2.1.least.here] at e1'
    rw [H2.out.2.1.least.here] at e2'
    cases e1'
    cases e2'
    have h1 := chn_up H4.out.2.1
    have h2 := chn_dn H6.out.2.1
    have h3 := pth_app h1 h2
    show Pth K p q d _
    have h4 := HM.out.2.2.1
    rw [show d = du - 0 + (df - 0) by omega]
    exact h3
  have HLN : Hid ((L1.reverse ++ L2).length = L1.length + L2.length) := by show _ = _; simp
  have hmb : L1.length + L2.length ≤ 128 := by have h1 := H4.out.2.2.1; have h2 := H6.out.2.2.1; omega
  rw [HLN.out] at H7
  have ec : (L1.length : Int) + (L2.length : Int) = ((L1.length + L2.length : Nat) : Int) := by omega
  rw [ec]
  clear ec
  generalize hls : L1.reverse ++ L2 = Ls at H7 HPT HLN
  generalize L1.length + L2.length = m at H7 HLN hmb ⊢
  clear hls H1 H2 H3 H4 H5 H6 HM HS3 HU m0 m1 m2 m3 m4 m5 hmm hmf hsu hsd HI
  have HWY := hide (wy_start (W := resW n W) (s := p) HL.out HF7.out H7.out.1)
  clear H7
  generalize ((w7.alloc (.map #[] 0)).alloc (.cells #[.func (.func 18) #[.pointer (some ⟨b.l, 0, none⟩)] #[], .func (.func 19) #[.pointer (some ⟨b.l, 0, none⟩)] #[], .map (some w7.heap.size)] 84)).alloc (.cells #[.int .i64 p] 3) = W0 at HWY ⊢
  go_loopw [14, 51] (fun vw vi wr => ∃ (i cur : Nat) (d1 d2 : Int) (L : List Nat) (g k : Nat), vi = .int .i64 i ∧ i ≤ m ∧ vw = .slice (some ⟨g, 0, none⟩) L.length k ∧ Hid (WyA n (resW n W) K rk rv b w7.heap.size (w7.heap.size + 1) (.slice a7 m c7) Ls w7 wr ∧ IRow wr 0 (.slice (some ⟨g, 0, none⟩) L.length k) (natsI L) ∧ WayLe n (resW n W) p cur d1 L ∧ Pth K cur q d2 (Ls.drop i) ∧ d1 + d2 = d)) (fun _ vi _ => m - (intOf vi).toNat)
  case atStart => exact ⟨0, p, 0, d, [p], _, _, rfl, Nat.zero_le _, rfl, HWY.out.1, HWY.out.2, one_way HP.out, HPT.out, Int.zero_add _⟩
  case round =>
    clear HWY HPT
    obtain ⟨i, cur, d1, d2, L, g, k, rfl, hi, rfl, HR⟩ := hrel
    by_cases hil : i < m
    · have i1 : (i : Int) < (m : Int) := by omega
      rcases HR.out.1.lk.2 with ⟨e1, e2⟩ | ⟨g7, cap7, cur7, e1, _⟩
      · exact absurd e2 (by rw [HLN.out]; omega)
      · cases e1
        obtain ⟨c, x, mm, d2', hk1, hk2, hk3, hk4⟩ := pth_drop (by rw [HLN.out]; exact hil) HR.out.2.2.2.1
        obtain ⟨c0, c1, c2, c3⟩ := lrow_cells HR.out.1.lk (by rw [HLN.out]; exact hil)
        rw [hk1] at c0 c1 c2 c3
        simp only at c0 c1 c2 c3
        have HKK := hide (And.intro hk2 (And.intro hk3 hk4))
        have HLat := hide (HR.out.1.later (bl_alloc (o := .cells #[.int .i64 cur, .int .i64 c, .int .i64 x, .int .i64 mm] 46) (Below.refl _ _)))
        have HRat := hide (HR.out.2.1.later (Nat.le_refl _) (bl_alloc (o := .cells #[.int .i64 cur, .int .i64 c, .int .i64 x, .int .i64 mm] 46) (Below.refl _ _)))
        obtain ⟨b0, b1, b2⟩ := HLat.out.c
        clear hk1 hk2 hk3 hk4
        go_wp2_with (first
          | (go_at_call 48; refine (open_any HN.out HBD.out.lft HPO.out HKK.out.1 HLat.out.op).mono ?_; rintro e w8 ⟨g8, k8, L8, rfl, h1, h2, h3, h4⟩; have H8 := hide (And.intro (HLat.out.turn h3 h4) (And.intro h1 (And.intro h2 (HLat.out.op.row HRat.out h4)))); clear h1 h2 h3 h4)
          | (go_at_call 47; refine (joined_any H8.out.2.2.2 H8.out.2.1 (by have h := way_pos HR.out.2.2.1; have h' := HR.out.2.2.1.len; have h'' := HN.out; exact ⟨h, by omega⟩) (by have h := known_pos H8.out.2.2.1; have h' := HN.out; omega)).mono ?_; rintro e w9 ⟨v9, rfl, h1, h2⟩; have H9 := hide (And.intro (H8.out.1.later h2) (And.intro h1 (join_known HPO.out HR.out.2.2.1 HKK.out.1 H8.out.2.2.1))); obtain ⟨ga, ka, ea, _⟩ := h1.form (by rw [natsI_len]; exact way_pos H9.out.2.2); rw [natsI_len] at ea; subst ea; clear h1 h2))
        go_roundw
        case rel => exact ⟨i + 1, c, d1 + x, d2', joinM L L8, ga, ka, by go_num, by omega, rfl, H9.out.1, H9.out.2.1.mono (Nat.zero_le _), H9.out.2.2, HKK.out.2.1, by have h1 := HKK.out.2.2; have h2 := HR.out.2.2.2.2; omega⟩
        case measure => simp [intOf]; omega
    · have i1 : ¬ (i : Int) < (m : Int) := by omega
      have HE : Hid (WayOk n W p q d L ∧ Below w.heap.size w wr) := by
        obtain ⟨e1, e2⟩ := pth_end (by rw [HLN.out]; omega) HR.out.2.2.2.1
        have h5 := HR.out.2.2.2.2
        have h6 := HR.out.2.2.1
        rw [e1, show d1 = d by omega] at h6
        exact ⟨way_fin HW.out HN.out HP.out HD.out h6, HF7.out.trans (HR.out.1.fr.below HF7.out.size HF7.out.size)⟩
      go_wp2
      go_ret2
      exact ⟨g, k, L, rfl, HR.out.2.1, HE.out.1, HE.out.2⟩
set_option maxRecDepth 100000 in
set_option maxHeartbeats 3200000 in
theorem way8_none (hl : LfA n w b rv (upM K rk) (dnM K rk)) (hn : n ≤ 32) (hBd : Bd n W n K rk Q rv) (hW : WOk n W) {p q : Nat} (hp : p < n) (hq : q < n) (hd : least n W p q = none) :
    Calls Tryz.prog 15 #[.pointer (some ⟨b.l, 0, none⟩), .int .i64 p, .int .i64 q] w fun e w' => e = .returned (.tuple #[.slice none 0 0, .int .i64 (-1)]) ∧ Below w.heap.size w w' := by
  have HU := hide (wards_up hl hn hBd hp)
  have HL := hide hl
  have HN := hide hn
  have HBD := hide hBd
  have HW := hide hW
  have HP := hide hp
  have HQ := hide hq
  have HD := hide hd
  clear hl hBd hW hd
  go_enter Tryz.func15, Tryz.ntmps15
  go_wp2_with (first
    | (go_at_call 43; refine HU.out.mono ?_; rintro e w1 ⟨su, cu, lu, yu, D, A, rfl, h1, h2, h3⟩; have H1 := hide (And.intro h1 (And.intro h2 h3)); clear h1 h2 h3)
    | (go_at_call 44; refine (wards_dn (HL.out.later H1.out.2.2) HN.out HBD.out HQ.out).mono ?_; rintro e w2 ⟨sd, cd, ld, yd, F, A2, rfl, h1, h2, h3⟩; have H2 := hide (And.intro h1 (And.intro h2 h3)); clear h1 h2 h3)
    | (go_at_call 42; refine (meet_any HN.out (H1.out.1.later H2.out.2.2) H2.out.1 H1.out.2.1.dok H2.out.2.1.dok).mono ?_; rintro e w3 ⟨rfl, k, hw⟩; have H3 := hide hw; clear hw; have hm : meetP D F n = none := (by have h0 := meet_least HBD.out HW.out HP.out HQ.out H1.out.2.1.least H2.out.2.1.least; rw [HD.out] at h0; cases hmm : meetP D F n with | none => rfl | some v => rw [hmm] at h0; cases h0); rw [hm]; clear hm; simp only [mtI, mlI]))
  go_ret2
  exact ⟨rfl, by rw [H3.out]; exact Qu.below_drewN (bl_on H1.out.2.2 H2.out.2.2) k⟩
theorem way8_out (hl : LfA n w b rv (upM K rk) (dnM K rk)) (hn : n ≤ 32) (hBd : Bd n W n K rk Q rv) {p : Nat} {q : Int} (hp : p < n) (hq : ¬ (0 ≤ q ∧ q < n)) :
    Calls Tryz.prog 15 #[.pointer (some ⟨b.l, 0, none⟩), .int .i64 p, .int .i64 q] w fun e w' => e = .returned (.tuple #[.slice none 0 0, .int .i64 (-1)]) ∧ Below w.heap.size w w' := by
  refine wayC_none hn (fun w' => LfA n w' b rv (upM K rk) (dnM K rk)) (fun w' f => hl.later f) ((wards_up hl hn hBd hp).mono ?_) fun w' h' => (wards_dn_out h' hn hq).mono ?_
  · rintro e w1 ⟨sb, gc, gl, gy, D, A, rfl, h1, h2, h3⟩
    exact ⟨sb, gc, gl, gy, _, _, _, D, A, rfl, h1, h2.dok, h3⟩
  · rintro e w1 ⟨sb, gc, gl, gy, A, rfl, h1, h3⟩
    exact ⟨sb, gc, gl, gy, _, _, _, A, rfl, h1, h3⟩
end
end Go.Proofs.YtojkdmkeankcgaaGreat
