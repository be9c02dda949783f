/-
  What the call of climb's Reached does.
-/
import Derived.Test.YtojkdmkeankcgaaGreatZMeet8
import Derived.Deep.AppendLies
namespace Go.Proofs.YtojkdmkeankcgaaGreat
open Go.RowKit Go.Sort

/-- The closed ones among the first k places, and their weights. -/
def rcL (D : Nat → Option Int) (k : Nat) : List Nat := (List.range k).filter fun v => (D v).isSome
def rcP (D : Nat → Option Int) (k : Nat) : List Int := (rcL D k).map fun (v : Nat) => (v : Int)
def rcW (D : Nat → Option Int) (k : Nat) : List Int := (rcL D k).map fun v => (D v).getD 0
theorem rcL_none {D : Nat → Option Int} {k : Nat} (h : D k = none) : rcL D (k + 1) = rcL D k := by
  unfold rcL
  rw [List.range_succ, List.filter_append]
  simp [h]
theorem rcL_some {D : Nat → Option Int} {k : Nat} {d : Int} (h : D k = some d) : rcL D (k + 1) = rcL D k ++ [k] := by
  unfold rcL
  rw [List.range_succ, List.filter_append]
  simp [h]
theorem rcP_none {D : Nat → Option Int} {k : Nat} (h : D k = none) : rcP D (k + 1) = rcP D k ∧ rcW D (k + 1) = rcW D k := by unfold rcP rcW; rw [rcL_none h]; exact ⟨rfl, rfl⟩
theorem rcP_some {D : Nat → Option Int} {k : Nat} {d : Int} (h : D k = some d) : rcP D (k + 1) = rcP D k ++ [(k : Int)] ∧ rcW D (k + 1) = rcW D k ++ [d] := by
  unfold rcP rcW; rw [rcL_some h]; simp [h]
theorem rcL_len (D : Nat → Option Int) (k : Nat) : (rcL D k).length ≤ k := by
  unfold rcL
  exact Nat.le_trans (List.length_filter_le _ _) (by simp)
theorem rcP_len (D : Nat → Option Int) (k : Nat) : (rcP D k).length ≤ k ∧ (rcW D k).length ≤ k := by have := rcL_len D k; simp [rcP, rcW]; exact this
theorem mem_rcL {D : Nat → Option Int} {k v : Nat} : v ∈ rcL D k ↔ v < k ∧ (D v).isSome = true := by unfold rcL; rw [List.mem_filter, List.mem_range]
/-- A number behind a row of numbers; another row stays. -/
theorem irow_push {B : Nat} {wr w3 : World} {va : Option Addr} {vc gg cap : Nat} {xs ys : List Int} {x : Int} {vm : Value} {o : Obj} (ho : IRow wr B vm ys) (hne : ∀ k, (Value.slice va xs.length vc).ownBlock = some k → vm.ownBlock ≠ some k)
    (h1 : w3.ownsRow B 3 1 (.slice (some ⟨gg, 0, none⟩) (xs.length + 1) cap) (xs.length + 1) (intsV xs ++ [.int .i64 x])) (hg : (wr.alloc o).grownBy w3 (Value.slice va xs.length vc).ownBlock) (hat : (Value.slice va xs.length vc).ownBlock = some gg ∨ gg = wr.heap.size + 1) :
    IRow w3 B (.slice (some ⟨gg, 0, none⟩) (xs ++ [x]).length cap) (xs ++ [x]) ∧ IRow w3 B vm ys ∧ ∀ k, (Value.slice (some ⟨gg, 0, none⟩) (xs ++ [x]).length cap).ownBlock = some k → vm.ownBlock ≠ some k := by
  refine ⟨?_, own_of_block ho fun k hk => ?_, fun k hk e => ?_⟩
  · unfold IRow
    rw [intsV_app, show (xs ++ [x]).length = xs.length + 1 by simp]
    exact h1
  · have hl := (ho.lt k hk).2
    rw [hg.block k (by simp; omega) (fun e => hne k e.symm hk), Below.heap_alloc _ _ _ hl]
  · have hl := (ho.lt k e).2
    have : gg = k := by simpa [Value.ownBlock] using hk
    subst this
    rcases hat with e2 | e2
    · exact hne gg e2 e
    · omega
/-- While Reached runs. -/
structure RcIn (w1 : World) (B : Nat) (D : Nat → Option Int) (i : Nat) (vp vm : Value) (wr : World) : Prop where
  below : Below B w1 wr
  hB : B ≤ wr.heap.size
  rp : IRow wr B vp (rcP D i)
  rm : IRow wr B vm (rcW D i)
  ne : ∀ k, vp.ownBlock = some k → vm.ownBlock ≠ some k
set_option maxRecDepth 100000
set_option maxHeartbeats 12800000

theorem reach_up {n : Nat} {lp : Option Addr} {p : Int} {w : World} {lk lo hi : Value} {P : (Nat → Option Int) → (Nat → Lnk) → Prop} (hn : n ≤ 32) (hc : Calls Tryz.prog 43 #[.pointer lp, .int .i64 p] w fun e w' => ∃ sb gc gl gy D A, e = .returned (.pointer (some ⟨sb, 0, none⟩)) ∧ SdAt w.heap.size w' sb gc gl gy n lk lo hi p D A ∧ P D A ∧ Below w.heap.size w w') :
    Calls Tryz.prog 17 #[.pointer lp, .int .i64 p, .bool true] w fun e w' => ∃ vp vm D A, e = .returned (.tuple #[vp, vm]) ∧ P D A ∧ IRow w' w.heap.size vp (rcP D n) ∧ IRow w' w.heap.size vm (rcW D n) ∧ Below w.heap.size w w' := by
  have HC := hide hc
  have HN := hide hn
  obtain ⟨i0, hi0, hy0, hy1, hy2⟩ := info_parts info3
  have HI := hide (And.intro hi0 (And.intro hy0 (And.intro hy1 hy2)))
  clear hc hi0 hy0 hy1 hy2
  go_enter Tryz.func17, Tryz.ntmps17
  go_wp2_with (go_at_call 43; refine HC.out.mono ?_; rintro e w1 ⟨sb, gc, gl, gy, D, A, rfl, h1, h2, h3⟩; have H1 := hide (And.intro h1 (And.intro h2 h3)); have a4 := h1.c.2.2.2.2.1; clear h1 h2 h3)
  obtain ⟨B, hB⟩ : ∃ B, w1.heap.size = B := ⟨_, rfl⟩
  have HB := hide hB
  have HS : Hid (RcIn w1 B D 0 (.slice none 0 0) (.slice none 0 0) w1) := ⟨Below.refl _ _, by omega, irow_nil _ _, irow_nil _ _, fun k h => by cases h⟩
  clear a4 hB
  go_loopw [10, 11, 24] (fun vp vm vi wr => ∃ (i : Nat) (pa : Option Addr) (pc : Nat) (ma : Option Addr) (mc : Nat), vp = .slice pa (rcP D i).length pc ∧ vm = .slice ma (rcW D i).length mc ∧ vi = .int .i64 i ∧ i ≤ n ∧ Hid (RcIn w1 B D i (.slice pa (rcP D i).length pc) (.slice ma (rcW D i).length mc) wr)) (fun _ _ vi _ => n - (intOf vi).toNat)
  case atStart => exact ⟨0, none, 0, none, 0, rfl, rfl, rfl, Nat.zero_le _, HS.out⟩
  case round =>
    clear HS
    obtain ⟨i, pa, pc, ma, mc, rfl, rfl, rfl, hi, HR⟩ := hrel
    obtain ⟨hl1, hl2⟩ := rcP_len D i
    have HRR : Hid (Below B w1 wr ∧ B ≤ wr.heap.size ∧ IRow wr B (.slice pa (rcP D i).length pc) (rcP D i) ∧ IRow wr B (.slice ma (rcW D i).length mc) (rcW D i) ∧ ∀ k, (Value.slice pa (rcP D i).length pc).ownBlock = some k → (Value.slice ma (rcW D i).length mc).ownBlock ≠ some k) := ⟨HR.out.below, HR.out.hB, HR.out.rp, HR.out.rm, HR.out.ne⟩
    clear HR
    generalize hxs : rcP D i = xs at HRR hl1 ⊢
    generalize hys : rcW D i = ys at HRR hl2 ⊢
    have HXS := hide hxs
    have HYS := hide hys
    clear hxs hys
    by_cases hin : i < n
    · have j1 : (i : Int) < (n : Int) := by omega
      have HSD := hide (H1.out.1.later (by rw [HB.out]; exact HRR.out.1))
      have a5 := HSD.out.c.2.2.2.2.2.1
      have y1 := HSD.out.cclo hin
      have y3 := HSD.out.clst hin
      cases hD : D i with
      | none =>
        have HP := hide (rcP_none hD)
        rw [hD] at y1
        simp only [Option.isSome_none] at y1
        replace hD := hide hD
        clear y3 a5
        go_wp2
        go_roundw
        case rel => exact ⟨i + 1, pa, pc, ma, mc, by rw [HP.out.1, HXS.out], by rw [HP.out.2, HYS.out], by go_num, by omega, HRR.out.1, HRR.out.2.1, by rw [HP.out.1, HXS.out]; exact HRR.out.2.2.1, by rw [HP.out.2, HYS.out]; exact HRR.out.2.2.2.1, by rw [HP.out.1, HP.out.2, HXS.out, HYS.out]; exact HRR.out.2.2.2.2⟩
        case measure => simp [intOf]; omega
      | some d =>
        have HP := hide (rcP_some hD)
        rw [hD] at y1 y3
        simp only [Option.isSome_some, Option.getD_some] at y1 y3
        have HD := hide hD
        have hgl : gl < B := by rw [← HB.out]; exact H1.out.1.lts.2.2.1
        have hsb : sb < B := by rw [← HB.out]; exact H1.out.1.lts.1
        have hBr := HRR.out.2.1
        have HLT := hide (And.intro hgl hsb)
        have HOW : Hid ((wr.alloc (.cells #[.int .i64 i] 3)).ownsRow B 3 1 (.slice pa xs.length pc) xs.length (intsV xs)) := HRR.out.2.2.1.alloc _
        have HNW : Hid (∀ j u, [Value.int .i64 i][j]? = some u → (wr.alloc (.cells #[.int .i64 i] 3)).cell? ((⟨wr.heap.size, 0, none⟩ : Addr).add j) = some u) := World.news_of_block (cs := #[.int .i64 i]) (t := 3) (fr := (0, 0)) (heap_alloc_new _ _)
        clear hD hgl hsb
        go_wp2_with (at_builtin; refine wpList_append_lies _ rfl (.tmp 30) (.tmp 32) 27 rfl B 3 i0 (.int .i64 0) 1 8 Tryz.underlying27 HI.out.1 HI.out.2.1 HI.out.2.2.1 HI.out.2.2.2 rfl (by decide) (.slice pa xs.length pc) xs.length (intsV xs) rfl HOW.out ⟨wr.heap.size, 0, none⟩ 1 1 [.int .i64 i] rfl rfl HNW.out (by simp [Value.oneCell']) (by decide) (by unfold maxLen; omega) (by omega) (by simp; omega) (wr.heap.size + 1) (by simp) ?_)
        intro g3 cap3 w3 hown3 hgrow3 hat3 hlt3
        have HB3 := hide ((HRR.out.1.alloc hBr (.cells #[.int .i64 i] 3)).grown hgrow3 (by simp; omega) fun k hk => (HOW.out.lt k hk).1)
        have HZ3 : Hid (B ≤ w3.heap.size) := by have := hgrow3.size; simp at this; show B ≤ _; omega
        have HR3 := hide (irow_push (x := (i : Int)) HRR.out.2.2.2.1 HRR.out.2.2.2.2 hown3 hgrow3 hat3)
        have HS3 := hide (H1.out.1.later (by rw [HB.out]; exact HB3.out))
        clear hown3 hgrow3 hat3 HOW HNW a5 y1 y3 HSD
        have hl3 : xs.length + 1 = (xs ++ [(i : Int)]).length := by simp
        rw [hl3]
        have HXS2 : Hid (rcP D (i + 1) = xs ++ [(i : Int)]) := by show _ = _; rw [HP.out.1, HXS.out]
        clear hl3
        generalize xs ++ [(i : Int)] = xs2 at HR3 HXS2 ⊢
        have a5 := HS3.out.c.2.2.2.2.2.1
        have y3 := HS3.out.clst hin
        rw [HD.out] at y3
        simp only [Option.getD_some] at y3
        have HOW : Hid ((w3.alloc (.cells #[.int .i64 d] 3)).ownsRow B 3 1 (.slice ma ys.length mc) ys.length (intsV ys)) := HR3.out.2.1.alloc _
        have HNW : Hid (∀ j u, [Value.int .i64 d][j]? = some u → (w3.alloc (.cells #[.int .i64 d] 3)).cell? ((⟨w3.heap.size, 0, none⟩ : Addr).add j) = some u) := World.news_of_block (cs := #[.int .i64 d]) (t := 3) (fr := (0, 0)) (heap_alloc_new _ _)
        have hB3 := HZ3.out
        go_wp2_with (at_builtin; refine wpList_append_lies _ rfl (.tmp 34) (.tmp 42) 27 rfl B 3 i0 (.int .i64 0) 1 8 Tryz.underlying27 HI.out.1 HI.out.2.1 HI.out.2.2.1 HI.out.2.2.2 rfl (by decide) (.slice ma ys.length mc) ys.length (intsV ys) rfl HOW.out ⟨w3.heap.size, 0, none⟩ 1 1 [.int .i64 d] rfl rfl HNW.out (by simp [Value.oneCell']) (by decide) (by unfold maxLen; omega) (by omega) (by simp; omega) (w3.heap.size + 1) (by simp) ?_)
        intro g4 cap4 w4 hown4 hgrow4 hat4 hlt4
        have HB4 := hide ((HB3.out.alloc hB3 (.cells #[.int .i64 d] 3)).grown hgrow4 (by simp; omega) fun k hk => (HOW.out.lt k hk).1)
        have HZ4 : Hid (B ≤ w4.heap.size) := by have := hgrow4.size; simp at this; show B ≤ _; omega
        have HR4 := hide (irow_push (x := d) HR3.out.1 (fun k hk e => HR3.out.2.2 k e hk) hown4 hgrow4 hat4)
        clear hown4 hgrow4 hat4 HOW HNW a5 y3
        have hl4 : ys.length + 1 = (ys ++ [d]).length := by simp
        rw [hl4]
        have HYS2 : Hid (rcW D (i + 1) = ys ++ [d]) := by show _ = _; rw [HP.out.2, HYS.out]
        clear hl4
        generalize ys ++ [d] = ys2 at HR4 HYS2 ⊢
        go_wp2
        go_roundw
        case rel => exact ⟨i + 1, some ⟨g3, 0, none⟩, cap3, some ⟨g4, 0, none⟩, cap4, by rw [HXS2.out], by rw [HYS2.out], by go_num, by omega, HB4.out, HZ4.out, by rw [HXS2.out]; exact HR4.out.2.1, by rw [HYS2.out]; exact HR4.out.1, by rw [HXS2.out, HYS2.out]; exact fun k hk e => HR4.out.2.2 k e hk⟩
        case measure => simp [intOf]; omega
    · have hie : i = n := by omega
      have HIE := hide hie
      clear hie
      go_wp2
      go_ret2
      have e := HIE.out
      subst e
      have h1 := HRR.out
      have f := H1.out.2.2.trans ((HB.out ▸ h1.1 : Below w1.heap.size w1 wr).mono H1.out.2.2.size)
      have hb : w.heap.size ≤ B := by rw [← HB.out]; exact H1.out.2.2.size
      exact ⟨_, _, D, A, rfl, H1.out.2.1, by rw [HXS.out]; exact h1.2.2.1.mono hb, by rw [HYS.out]; exact h1.2.2.2.1.mono hb, f⟩

theorem reach_dn {n : Nat} {lp : Option Addr} {p : Int} {w : World} {lk lo hi : Value} {P : (Nat → Option Int) → (Nat → Lnk) → Prop} (hn : n ≤ 32) (hc : Calls Tryz.prog 44 #[.pointer lp, .int .i64 p] w fun e w' => ∃ sb gc gl gy D A, e = .returned (.pointer (some ⟨sb, 0, none⟩)) ∧ SdAt w.heap.size w' sb gc gl gy n lk lo hi p D A ∧ P D A ∧ Below w.heap.size w w') :
    Calls Tryz.prog 17 #[.pointer lp, .int .i64 p, .bool false] w fun e w' => ∃ vp vm D A, e = .returned (.tuple #[vp, vm]) ∧ P D A ∧ IRow w' w.heap.size vp (rcP D n) ∧ IRow w' w.heap.size vm (rcW D n) ∧ Below w.heap.size w w' := by
  have HC := hide hc
  have HN := hide hn
  obtain ⟨i0, hi0, hy0, hy1, hy2⟩ := info_parts info3
  have HI := hide (And.intro hi0 (And.intro hy0 (And.intro hy1 hy2)))
  clear hc hi0 hy0 hy1 hy2
  go_enter Tryz.func17, Tryz.ntmps17
  go_wp2_with (go_at_call 44; refine HC.out.mono ?_; rintro e w1 ⟨sb, gc, gl, gy, D, A, rfl, h1, h2, h3⟩; have H1 := hide (And.intro h1 (And.intro h2 h3)); have a4 := h1.c.2.2.2.2.1; clear h1 h2 h3)
  obtain ⟨B, hB⟩ : ∃ B, w1.heap.size = B := ⟨_, rfl⟩
  have HB := hide hB
  have HS : Hid (RcIn w1 B D 0 (.slice none 0 0) (.slice none 0 0) w1) := ⟨Below.refl _ _, by omega, irow_nil _ _, irow_nil _ _, fun k h => by cases h⟩
  clear a4 hB
  go_loopw [10, 11, 24] (fun vp vm vi wr => ∃ (i : Nat) (pa : Option Addr) (pc : Nat) (ma : Option Addr) (mc : Nat), vp = .slice pa (rcP D i).length pc ∧ vm = .slice ma (rcW D i).length mc ∧ vi = .int .i64 i ∧ i ≤ n ∧ Hid (RcIn w1 B D i (.slice pa (rcP D i).length pc) (.slice ma (rcW D i).length mc) wr)) (fun _ _ vi _ => n - (intOf vi).toNat)
  case atStart => exact ⟨0, none, 0, none, 0, rfl, rfl, rfl, Nat.zero_le _, HS.out⟩
  case round =>
    clear HS
    obtain ⟨i, pa, pc, ma, mc, rfl, rfl, rfl, hi, HR⟩ := hrel
    obtain ⟨hl1, hl2⟩ := rcP_len D i
    have HRR : Hid (Below B w1 wr ∧ B ≤ wr.heap.size ∧ IRow wr B (.slice pa (rcP D i).length pc) (rcP D i) ∧ IRow wr B (.slice ma (rcW D i).length mc) (rcW D i) ∧ ∀ k, (Value.slice pa (rcP D i).length pc).ownBlock = some k → (Value.slice ma (rcW D i).length mc).ownBlock ≠ some k) := ⟨HR.out.below, HR.out.hB, HR.out.rp, HR.out.rm, HR.out.ne⟩
    clear HR
    generalize hxs : rcP D i = xs at HRR hl1 ⊢
    generalize hys : rcW D i = ys at HRR hl2 ⊢
    have HXS := hide hxs
    have HYS := hide hys
    clear hxs hys
    by_cases hin : i < n
    · have j1 : (i : Int) < (n : Int) := by omega
      have HSD := hide (H1.out.1.later (by rw [HB.out]; exact HRR.out.1))
      have a5 := HSD.out.c.2.2.2.2.2.1
      have y1 := HSD.out.cclo hin
      have y3 := HSD.out.clst hin
      cases hD : D i with
      | none =>
        have HP := hide (rcP_none hD)
        rw [hD] at y1
        simp only [Option.isSome_none] at y1
        replace hD := hide hD
        clear y3 a5
        go_wp2
        go_roundw
        case rel => exact ⟨i + 1, pa, pc, ma, mc, by rw [HP.out.1, HXS.out], by rw [HP.out.2, HYS.out], by go_num, by omega, HRR.out.1, HRR.out.2.1, by rw [HP.out.1, HXS.out]; exact HRR.out.2.2.1, by rw [HP.out.2, HYS.out]; exact HRR.out.2.2.2.1, by rw [HP.out.1, HP.out.2, HXS.out, HYS.out]; exact HRR.out.2.2.2.2⟩
        case measure => simp [intOf]; omega
      | some d =>
        have HP := hide (rcP_some hD)
        rw [hD] at y1 y3
        simp only [Option.isSome_some, Option.getD_some] at y1 y3
        have HD := hide hD
        have hgl : gl < B := by rw [← HB.out]; exact H1.out.1.lts.2.2.1
        have hsb : sb < B := by rw [← HB.out]; exact H1.out.1.lts.1
        have hBr := HRR.out.2.1
        have HLT := hide (And.intro hgl hsb)
        have HOW : Hid ((wr.alloc (.cells #[.int .i64 i] 3)).ownsRow B 3 1 (.slice pa xs.length pc) xs.length (intsV xs)) := HRR.out.2.2.1.alloc _
        have HNW : Hid (∀ j u, [Value.int .i64 i][j]? = some u → (wr.alloc (.cells #[.int .i64 i] 3)).cell? ((⟨wr.heap.size, 0, none⟩ : Addr).add j) = some u) := World.news_of_block (cs := #[.int .i64 i]) (t := 3) (fr := (0, 0)) (heap_alloc_new _ _)
        clear hD hgl hsb
        go_wp2_with (at_builtin; refine wpList_append_lies _ rfl (.tmp 30) (.tmp 32) 27 rfl B 3 i0 (.int .i64 0) 1 8 Tryz.underlying27 HI.out.1 HI.out.2.1 HI.out.2.2.1 HI.out.2.2.2 rfl (by decide) (.slice pa xs.length pc) xs.length (intsV xs) rfl HOW.out ⟨wr.heap.size, 0, none⟩ 1 1 [.int .i64 i] rfl rfl HNW.out (by simp [Value.oneCell']) (by decide) (by unfold maxLen; omega) (by omega) (by simp; omega) (wr.heap.size + 1) (by simp) ?_)
        intro g3 cap3 w3 hown3 hgrow3 hat3 hlt3
        have HB3 := hide ((HRR.out.1.alloc hBr (.cells #[.int .i64 i] 3)).grown hgrow3 (by simp; omega) fun k hk => (HOW.out.lt k hk).1)
        have HZ3 : Hid (B ≤ w3.heap.size) := by have := hgrow3.size; simp at this; show B ≤ _; omega
        have HR3 := hide (irow_push (x := (i : Int)) HRR.out.2.2.2.1 HRR.out.2.2.2.2 hown3 hgrow3 hat3)
        have HS3 := hide (H1.out.1.later (by rw [HB.out]; exact HB3.out))
        clear hown3 hgrow3 hat3 HOW HNW a5 y1 y3 HSD
        have hl3 : xs.length + 1 = (xs ++ [(i : Int)]).length := by simp
        rw [hl3]
        have HXS2 : Hid (rcP D (i + 1) = xs ++ [(i : Int)]) := by show _ = _; rw [HP.out.1, HXS.out]
        clear hl3
        generalize xs ++ [(i : Int)] = xs2 at HR3 HXS2 ⊢
        have a5 := HS3.out.c.2.2.2.2.2.1
        have y3 := HS3.out.clst hin
        rw [HD.out] at y3
        simp only [Option.getD_some] at y3
        have HOW : Hid ((w3.alloc (.cells #[.int .i64 d] 3)).ownsRow B 3 1 (.slice ma ys.length mc) ys.length (intsV ys)) := HR3.out.2.1.alloc _
        have HNW : Hid (∀ j u, [Value.int .i64 d][j]? = some u → (w3.alloc (.cells #[.int .i64 d] 3)).cell? ((⟨w3.heap.size, 0, none⟩ : Addr).add j) = some u) := World.news_of_block (cs := #[.int .i64 d]) (t := 3) (fr := (0, 0)) (heap_alloc_new _ _)
        have hB3 := HZ3.out
        go_wp2_with (at_builtin; refine wpList_append_lies _ rfl (.tmp 34) (.tmp 42) 27 rfl B 3 i0 (.int .i64 0) 1 8 Tryz.underlying27 HI.out.1 HI.out.2.1 HI.out.2.2.1 HI.out.2.2.2 rfl (by decide) (.slice ma ys.length mc) ys.length (intsV ys) rfl HOW.out ⟨w3.heap.size, 0, none⟩ 1 1 [.int .i64 d] rfl rfl HNW.out (by simp [Value.oneCell']) (by decide) (by unfold maxLen; omega) (by omega) (by simp; omega) (w3.heap.size + 1) (by simp) ?_)
        intro g4 cap4 w4 hown4 hgrow4 hat4 hlt4
        have HB4 := hide ((HB3.out.alloc hB3 (.cells #[.int .i64 d] 3)).grown hgrow4 (by simp; omega) fun k hk => (HOW.out.lt k hk).1)
        have HZ4 : Hid (B ≤ w4.heap.size) := by have := hgrow4.size; simp at this; show B ≤ _; omega
        have HR4 := hide (irow_push (x := d) HR3.out.1 (fun k hk e => HR3.out.2.2 k e hk) hown4 hgrow4 hat4)
        clear hown4 hgrow4 hat4 HOW HNW a5 y3
        have hl4 : ys.length + 1 = (ys ++ [d]).length := by simp
        rw [hl4]
        have HYS2 : Hid (rcW D (i + 1) = ys ++ [d]) := by show _ = _; rw [HP.out.2, HYS.out]
        clear hl4
        generalize ys ++ [d] = ys2 at HR4 HYS2 ⊢
        go_wp2
        go_roundw
        case rel => exact ⟨i + 1, some ⟨g3, 0, none⟩, cap3, some ⟨g4, 0, none⟩, cap4, by rw [HXS2.out], by rw [HYS2.out], by go_num, by omega, HB4.out, HZ4.out, by rw [HXS2.out]; exact HR4.out.2.1, by rw [HYS2.out]; exact HR4.out.1, by rw [HXS2.out, HYS2.out]; exact fun k hk e => HR4.out.2.2 k e hk⟩
        case measure => simp [intOf]; omega
    · have hie : i = n := by omega
      have HIE := hide hie
      clear hie
      go_wp2
      go_ret2
      have e := HIE.out
      subst e
      have h1 := HRR.out
      have f := H1.out.2.2.trans ((HB.out ▸ h1.1 : Below w1.heap.size w1 wr).mono H1.out.2.2.size)
      have hb : w.heap.size ≤ B := by rw [← HB.out]; exact H1.out.2.2.size
      exact ⟨_, _, D, A, rfl, H1.out.2.1, by rw [HXS.out]; exact h1.2.2.1.mono hb, by rw [HYS.out]; exact h1.2.2.2.1.mono hb, f⟩
end Go.Proofs.YtojkdmkeankcgaaGreat
