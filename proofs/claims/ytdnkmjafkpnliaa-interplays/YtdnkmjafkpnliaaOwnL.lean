/-
  What the law InnerOwn does.
-/
import Derived.Test.YtdnkmjafkpnliaaBckL
import Derived.Deep.RegionHeld3
namespace Go.Proofs.Ytdnkmjafkpnliaa
open Go.RowKit

set_option maxRecDepth 100000 in
set_option maxHeartbeats 12800000 in
theorem new_loc {w : World} {m vc : Nat} {va : Option Addr} {V : List Vst} (hV : VsV w (.slice va m vc) V) (hm : V.length = m) (hm2 : m ≤ 900) (hz : va = none → vc = 0) :
    Calls Try.prog 13 #[.slice va m vc] w fun e w' => ∃ lb, e = .returned (.pointer (some ⟨lb, 0, none⟩)) ∧ LineV w' lb V ∧ (∀ W2, w'.heap.size ≤ W2.heap.size → (∀ b, w.heap.size ≤ b → b < w'.heap.size → W2.heap[b]? = w'.heap[b]?) → LineV W2 lb V) ∧ Below w.heap.size w w' := by
  have H23 := hide (clone_any hV hm hm2 hz)
  have HM := hide hm
  clear hV hm hz
  go_enter Try.func13, Try.ntmps13
  go_wp2_with (first | (go_at_call 30; refine H23.out.mono ?_; rintro e w1 ⟨a, c, rfl, r1, k1⟩; have R1 := hide r1; have K1 := hide k1; clear r1 k1) | fail)
  go_ret
  have hloc : ∀ W2, (w1.alloc (.cells #[.slice a m c] 63)).heap.size ≤ W2.heap.size → (∀ b, w.heap.size ≤ b → b < (w1.alloc (.cells #[.slice a m c] 63)).heap.size → W2.heap[b]? = (w1.alloc (.cells #[.slice a m c] 63)).heap[b]?) → LineV W2 w1.heap.size V := fun W2 hs hb => by
    have hs1 : (w1.alloc (.cells #[.slice a m c] 63)).heap.size = w1.heap.size + 1 := by simp
    refine ⟨a, c, ?_, ?_, ?_⟩
    · rw [HM.out, hb _ K1.out.size (by omega)]; exact heap_alloc_new _ _
    · rw [HM.out]
      refine own_of_block (own_mono R1.out (Nat.zero_le _)) fun g hg => ?_
      have h9 := World.ownsRow.lt R1.out g hg
      rw [hb g h9.1 (by omega)]
      exact heap_alloc_old _ _ (by omega)
    · intro g hg
      rw [HM.out] at hg
      have := (World.ownsRow.lt R1.out g hg).2
      omega
  exact ⟨w1.heap.size, rfl, hloc _ (Nat.le_refl _) (fun _ _ _ => rfl), hloc, below_on K1.out ((Below.refl _ _).alloc (Nat.le_refl _) _)⟩
theorem visits_v {w : World} {lb m : Nat} {V : List Vst} (h : LineV w lb V) (hm : V.length = m) (hn : m ≤ 900) : Calls Try.prog 17 #[.pointer (some ⟨lb, 0, none⟩)] w fun e w' => ∃ a c, e = .returned (.slice a m c) ∧ VsV w' (.slice a m c) V ∧ Below w.heap.size w w' := by
  subst hm
  refine (visits_any h hn).mono ?_
  rintro e w' ⟨a, c, rfl, r, k⟩
  exact ⟨a, c, rfl, r.vs (by omega), k⟩
theorem visits_m {w : World} {lb m : Nat} {V : List Vst} (h : LineV w lb V) (hm : V.length = m) (hn : m ≤ 900) : Calls Try.prog 17 #[.pointer (some ⟨lb, 0, none⟩)] w fun e w' => ∃ a c, e = .returned (.slice a m c) ∧ VRow w' w.heap.size (.slice a m c) V ∧ Below w.heap.size w w' := by
  subst hm
  exact visits_any h hn
/-- Two blocks turn, nothing else. -/
structure TwoB (g1 g2 : Nat) (a b : World) : Prop where
  os : b.os = a.os
  tape : b.tape = a.tape
  output : b.output = a.output
  size : b.heap.size = a.heap.size
  block : ∀ q, q ≠ g1 → q ≠ g2 → b.heap[q]? = a.heap[q]?
theorem TwoB.refl (g1 g2 : Nat) (a : World) : TwoB g1 g2 a a := ⟨rfl, rfl, rfl, rfl, fun _ _ _ => rfl⟩
theorem TwoB.set {g1 g2 g : Nat} {a b : World} (h : TwoB g1 g2 a b) (hg : g = g1 ∨ g = g2) (j : Nat) (u : Value) : TwoB g1 g2 a (b.setCell ⟨g, j, none⟩ u) :=
  ⟨h.os, h.tape, h.output, by simpa using h.size, fun q h1 h2 => (heap_setCell_other _ _ _ _ (by rcases hg with e | e <;> (rw [e]; assumption))).trans (h.block q h1 h2)⟩
theorem TwoB.low {g1 g2 B : Nat} {w a b : World} (h : TwoB g1 g2 a b) (f : Below B w a) (h1 : B ≤ g1) (h2 : B ≤ g2) : Below B w b :=
  f.trans ⟨h.os, h.tape, h.output, Nat.le_of_eq h.size.symm, fun q hq => h.block q (by omega) (by omega)⟩
end Go.Proofs.Ytdnkmjafkpnliaa
