/-
  What the call of short's Weigh does.
-/
import Derived.Test.YtkgpjhechopfhaaRefW
import Derived.Deep.CutRange
namespace Go.Proofs.Ytkgpjhechopfhaa
open Go.RowKit Go.Sort

/-- While short's Weigh runs. -/
structure WsIn (w : World) (n g : Nat) (W : Nat → Nat → Option Int) (a : Option Addr) (zs : List Int) (wr : World) : Prop where
  below : Below w.heap.size w wr
  gr : GAt wr g n W
  ints : IntsAt wr a zs
theorem WsIn.later {n g : Nat} {w wr w' : World} {W : Nat → Nat → Option Int} {a : Option Addr} {zs : List Int} (h : WsIn w n g W a zs wr) (f : Below wr.heap.size wr w') : WsIn w n g W a zs w' := ⟨h.below.trans (f.mono h.below.size), h.gr.later f, h.ints.later f⟩
set_option maxRecDepth 100000 in
set_option maxHeartbeats 6400000 in
theorem weighS_any {w : World} {n g vc : Nat} {W : Nat → Nat → Option Int} {a : Option Addr} {zs : List Int} (hg : GAt w g n W) (hn : 1 ≤ n ∧ n ≤ 32) (hW : WOk n W) (hz : IntsAt w a zs) (hl : zs.length ≤ 200) (hv : zs.length ≤ vc) :
    Calls Try.prog 38 #[.pointer (some ⟨g, 0, none⟩), .slice a zs.length vc] w fun e w' => e = .returned (.int .i64 (weighZ n W zs)) ∧ Below w.heap.size w w' := by
  have HN := hide hn
  have HW := hide hW
  have HS : Hid (WsIn w n g W a zs w) := ⟨Below.refl _ _, hg, hz⟩
  clear hg hW
  by_cases hz0 : zs = []
  · subst hz0
    have i0 : ((0 : Nat) : Int) = 0 := rfl
    have hz1 : ((0 : Int) == 0) = true := by decide
    go_enter Try.func38, Try.ntmps38
    go_wp2
    go_ret
    exact ⟨rfl, HS.out.below⟩
  · have hl1 : 1 ≤ zs.length := by rcases zs with _ | ⟨z, r⟩; exact absurd rfl hz0; simp
    obtain ⟨z, r, hzr⟩ : ∃ z r, zs = z :: r := by rcases zs with _ | ⟨z, r⟩; exact absurd rfl hz0; exact ⟨z, r, rfl⟩
    obtain ⟨b, off, rfl, c0⟩ := HS.out.ints 0 (by omega)
    have ez : zs[0]! = z := by rw [hzr]; rfl
    rw [ez] at c0
    have HZ0 := hide (And.intro hzr ez)
    have hlz : ((zs.length : Int) == 0) = false := by simp; omega
    simp only [Nat.add_zero] at c0
    have i1 : (0 : Int) < (zs.length : Int) := by omega
    have HP := hide (isplace_any HS.out.gr z)
    clear hzr ez hz0 hz
    cases hi : inN n z
    · rw [hi] at HP
      have HE : Hid (weighZ n W zs = -1) := by show _ = _; rw [HZ0.out.1]; show (if inN n z = true then weighF n W 0 z r else -1) = _; rw [if_neg (by rw [hi]; decide)]
      clear hi
      go_enter Try.func38, Try.ntmps38
      go_wp2_with (go_at_call 46; refine HP.out.mono ?_; rintro e w' ⟨rfl, hw⟩; rw [hw]; clear hw)
      go_ret
      rw [HE.out]
      exact ⟨rfl, HS.out.below⟩
    · rw [hi] at HP
      have HE : Hid (weighZ n W zs = weighF n W 0 zs[0]! (zs.drop 1)) := by show _ = _; rw [HZ0.out.2]; rw [HZ0.out.1]; show (if inN n z = true then weighF n W 0 z r else -1) = _; rw [if_pos hi]; rfl
      have HI := hide hi
      clear hi
      go_enter Try.func38, Try.ntmps38
      go_wp2_with (go_at_call 46; refine HP.out.mono ?_; rintro e w' ⟨rfl, hw⟩; rw [hw]; clear hw)
      · go_loopw [5, 23] (fun vs vi wr => vi = .int .i64 0 ∧ vs = .int .i64 0 ∧ wr = w) (fun _ _ _ => 0)
        case atStart => exact ⟨rfl, rfl, rfl⟩
        case round =>
          obtain ⟨rfl, rfl, rfl⟩ := hrel
          have hle : zs.length = 1 := by omega
          have k1 : ¬ (0 : Int) < ((zs.length - 1 : Nat) : Int) := by omega
          have HE2 : Hid (weighZ n W zs = 0) := by show _ = _; rw [HE.out, List.drop_eq_nil_of_le (by omega)]; rfl
          go_wp2
          go_ret
          rw [HE2.out]
          exact ⟨rfl, HS.out.below⟩
      · rename_i hv1
        have HZ1 : Hid (0 ≤ zs[0]! ∧ zs[0]! < n) := by show _ ∧ _; rw [HZ0.out.2]; have := of_decide_eq_true HI.out; omega
        clear HP c0
        go_loopw [5, 23] (fun vs vi wr => ∃ (i : Nat) (s : Int), vi = .int .i64 i ∧ vs = .int .i64 s ∧ i + 1 ≤ zs.length ∧ 0 ≤ s ∧ s ≤ 1000000 * i ∧ Hid (WsIn w n g W (some ⟨b, off, none⟩) zs wr ∧ weighZ n W zs = weighF n W s zs[i]! (zs.drop (i + 1)))) (fun _ vi _ => zs.length - (intOf vi).toNat)
        case atStart => exact ⟨0, 0, rfl, rfl, hl1, by omega, by omega, HS.out, HE.out⟩
        case round =>
          clear HS
          obtain ⟨i, s, rfl, rfl, hi1, hs0, hs1, HR⟩ := hrel
          by_cases hil : i + 1 < zs.length
          · have ii : (i : Int) < ((zs.length - 1 : Nat) : Int) := by omega
            have ij : (i : Int) < (zs.length : Int) := by omega
            obtain ⟨b2, off2, e2, c1⟩ := HR.out.1.ints (i + 1) hil
            cases e2
            obtain ⟨b2, off2, e2, c2⟩ := HR.out.1.ints i (by omega)
            cases e2
            rw [show off + (i + 1) = off + 1 + i by omega] at c1
            have HD := hide (HR.out.2.trans (weighF_drop n W s zs[i]! zs (i + 1) hil))
            generalize hx : zs[i]! = x at c2 HD
            generalize hy : zs[i + 1]! = y at c1 HD
            have HY := hide hy
            clear hx hy
            have HWT := hide (weight_any HR.out.1.gr HN.out x y)
            have wb := wt_bnd HW.out x y
            generalize wt n W x y = z2 at HWT HD wb
            by_cases h3 : z2 < 0
            · have HE2 : Hid (weighZ n W zs = -1) := by show _ = _; rw [HD.out, if_pos h3]
              go_wp2_with (go_at_call 24; refine HWT.out.mono ?_; rintro e w2 ⟨rfl, h1⟩; have H2 := hide (HR.out.1.later h1); clear h1)
              go_ret
              rw [HE2.out]
              exact ⟨rfl, H2.out.below⟩
            · have HE2 : Hid (weighZ n W zs = weighF n W (s + z2) zs[i + 1]! (zs.drop (i + 1 + 1))) := by show _ = _; rw [HD.out, if_neg h3, HY.out]
              have HPL := hide (fun w' => plus_any s z2 (by omega) (by omega) w')
              go_wp2_with (first
                | (go_at_call 24; refine HWT.out.mono ?_; rintro e w2 ⟨rfl, h1⟩; have H2 := hide (HR.out.1.later h1); clear h1)
                | (go_at_call 51; refine (HPL.out _).mono ?_; rintro e w' ⟨rfl, hw⟩; rw [hw]; clear hw))
              go_roundw
              case rel => exact ⟨i + 1, s + z2, by go_num, by go_num, by omega, by omega, by omega, H2.out, HE2.out⟩
              case measure => simp [intOf]; omega
          · have hie : i + 1 = zs.length := by omega
            have k1 : ¬ (i : Int) < ((zs.length - 1 : Nat) : Int) := by omega
            have HE2 : Hid (weighZ n W zs = s) := by show _ = _; rw [HR.out.2, List.drop_eq_nil_of_le (by omega)]; rfl
            go_wp2
            go_ret
            rw [HE2.out]
            exact ⟨rfl, HR.out.1.below⟩
end Go.Proofs.Ytkgpjhechopfhaa
