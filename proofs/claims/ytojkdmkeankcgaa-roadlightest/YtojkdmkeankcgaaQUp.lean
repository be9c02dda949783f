/-
  What the call of container/heap's up does over an order.
-/
import Derived.Test.YtojkdmkeankcgaaQSwap
namespace Go.Proofs.Ytojkdmkeankcgaa.Qu
open Go.RowKit Go.Maps

theorem hide {p : Prop} (h : p) : Hid p := h
theorem methodLess (a : Addr) (w : World) : (method 284 106 (.pointer (some a)) "Less").run Try.prog w = .ok (133, .pointer (some a)) w := by kernel_rfl
theorem methodSwap (a : Addr) (w : World) : (method 284 106 (.pointer (some a)) "Swap").run Try.prog w = .ok (136, .pointer (some a)) w := by kernel_rfl
theorem methodLen (a : Addr) (w : World) : (method 284 106 (.pointer (some a)) "Len").run Try.prog w = .ok (87, .pointer (some a)) w := by kernel_rfl
theorem methodPush (a : Addr) (w : World) : (method 284 106 (.pointer (some a)) "Push").run Try.prog w = .ok (135, .pointer (some a)) w := by kernel_rfl
theorem methodPop (a : Addr) (w : World) : (method 284 106 (.pointer (some a)) "Pop").run Try.prog w = .ok (134, .pointer (some a)) w := by kernel_rfl

section
variable {w : World} {ob mb : Nat} {v : Value} {L M : List Pr} {S : Nat → Prop}
set_option maxRecDepth 100000 in
set_option maxHeartbeats 1600000 in
theorem up_any (h : Ord w ob mb v L L S) (n j : Nat) (hu : Up L n j) (hn : n ≤ L.length) (hj : j < n) :
    Calls Try.prog 90 #[.iface 106 (.pointer (some ⟨ob, 0, none⟩)), .int .i64 j] w fun e w' => e = .returned (.tuple #[]) ∧ ∃ L', Ord w' ob mb v L' L' S ∧ Fr S w w' ∧ Sw n L L' ∧ Heap L' n := by
  have hl := h.len
  have HO : Hid (Ord w ob mb v L L S ∧ Up L n j) := ⟨h, hu⟩
  clear h hu
  go_enter Try.func90, Try.ntmps90
  go_wp2
  go_loopw [1] (fun sj wr => ∃ (q : Nat) (L' : List Pr), sj = .int .i64 q ∧ q < n ∧ Hid (Ord wr ob mb v L' L' S ∧ Fr S w wr ∧ Sw n L L' ∧ Up L' n q)) (fun sj _ => (intOf sj).toNat)
  case atStart => exact ⟨j, L, rfl, hj, HO.out.1, Fr.refl _ _, Sw.refl _ _, HO.out.2⟩
  case round =>
    obtain ⟨q, L', rfl, hq, HR⟩ := hrel
    have hL : L'.length = L.length := HR.out.2.2.1.len
    by_cases hq0 : q = 0
    · subst hq0
      go_wp2
      go_end0
      exact ⟨rfl, L', HR.out.1, HR.out.2.1, HR.out.2.2.1, HR.out.2.2.2.stop0⟩
    · have hpl := par_lt (show 0 < q by omega)
      have hp0 : (0 : Int) ≤ (q : Int) - 1 := by omega
      have hpe : ((q : Int) - 1) / 2 = (par q : Nat) := by unfold par; omega
      have hpn : (((par q : Nat) : Int) == (q : Int)) = false := by simp; omega
      have hle := less_any HR.out.1 q (par q) (by omega) (by omega)
      have m1 := methodLess ⟨ob, 0, none⟩
      by_cases hlt : lt (at' L' q) (at' L' (par q)) = true
      · rw [hlt] at hle
        have HL := hide hle
        have HS : Hid (∀ w1, Below wr.heap.size wr w1 → Calls Try.prog 136 #[.pointer (some ⟨ob, 0, none⟩), .int .i64 (par q : Nat), .int .i64 q] w1 fun e w' => e = .returned (.tuple #[]) ∧ Ord w' ob mb v (swp L' (par q) q) (swp L' (par q) q) S ∧ Fr S w1 w') :=
          fun w1 hb => swap_any (HR.out.1.later hb) (par q) q (by omega) (by omega) (by omega)
        have m2 := methodSwap ⟨ob, 0, none⟩
        clear hle
        go_wp2_with (first | (go_at_call 133; refine HL.out.mono ?_; rintro e w1 ⟨rfl, hb1⟩) | (go_at_call 136; refine (HS.out _ hb1).mono ?_; rintro e w2 ⟨rfl, hO2, hF2⟩))
        go_roundw
        case rel => exact ⟨par q, swp L' (par q) q, rfl, by omega, hO2, (HR.out.2.1.trans0 (Fr.of_below hb1)).trans0 hF2, HR.out.2.2.1.step (by omega) hq hn, HR.out.2.2.2.swap (by omega) (by omega) hq hlt⟩
        case measure => simp [intOf]; omega
      · have hlt2 : lt (at' L' q) (at' L' (par q)) = false := by simpa using hlt
        rw [hlt2] at hle
        have HL := hide hle
        clear hle
        go_wp2_with (first | (go_at_call 133; refine HL.out.mono ?_; rintro e w1 ⟨rfl, hb1⟩))
        go_end0
        exact ⟨rfl, L', HR.out.1.later hb1, HR.out.2.1.trans0 (Fr.of_below hb1), HR.out.2.2.1, HR.out.2.2.2.stop hlt2⟩
end
end Go.Proofs.Ytojkdmkeankcgaa.Qu
