/-
  What the law InnerBack does.
-/
import Derived.Test.YtdnkmjafkpnliaaAwk
import Derived.Test.YtdnkmjafkpnliaaBckP
import Derived.Deep.RegionHeld3
namespace Go.Proofs.Ytdnkmjafkpnliaa
open Go.RowKit

/-- The whole of a list behind a list that was just made. -/
theorem app_copy {w : World} {m vc : Nat} {va : Option Addr} {V : List Vst} {ops : Array Oper} {rest : List Oper} {o : Oper} {a : Act} {Q : Exit → Act → World → Prop} (s x : Operand) (hgd : o.guard = none)
    (ho : o.op = .call { callee := .builtin .append, args := #[s, x], argTypes := #[22, 22] }) (hs : a.eval s = .slice (some ⟨w.heap.size, 0, none⟩) 0 0) (hx : a.eval x = .slice va m vc) (hV : VsV w (.slice va m vc) V) (hm : V.length = m) (hz : va = none → vc = 0) (hm2 : m ≤ 900)
    (h : ∀ a2 c2 w', VRow w' w.heap.size (.slice a2 m c2) V → Below w.heap.size w w' → wpList Try.prog ops Q rest (a.put o.dst (.slice a2 m c2)) w') : wpList Try.prog ops Q (o :: rest) a (w.alloc (.cells #[] 58)) := by
  have f0 : Below w.heap.size w (w.alloc (.cells #[] 58)) := (Below.refl _ _).alloc (Nat.le_refl _) _
  have hrow : VRow (w.alloc (.cells #[] 58)) w.heap.size (.slice (some ⟨w.heap.size, 0, none⟩) 0 0) [] := World.ownsRow_made w #[] 0 (Nat.le_refl _) (by unfold maxLen; omega) rfl
  refine app_vis s x hgd ho hs hx hrow rfl (PrV.on hV f0) hm hz (by omega) f0.size ?_
  intro a2 c2 w' r1 r2 _
  rw [Nat.zero_add, List.nil_append] at r1
  rw [Nat.zero_add]
  exact h a2 c2 w' r1 (f0.trans r2)
theorem new_copy {w : World} {base m c : Nat} {a : Option Addr} {V : List Vst} (h : VRow w base (.slice a m c) V) (hm : V.length = m) (hm2 : m ≤ 900) : Calls Try.prog 13 #[.slice a m c] w fun e w' => ∃ lb, e = .returned (.pointer (some ⟨lb, 0, none⟩)) ∧ LineV w' lb V ∧ w.heap.size ≤ lb ∧ Below w.heap.size w w' := by
  rw [← hm] at h
  obtain ⟨a', c', e, hz⟩ := h.shape
  injection e with e1 _ e2
  subst e1 e2
  have hv := h.vs (by omega)
  rw [hm] at hv
  exact new_any hv hm hm2 hz
/-- A change behind another world that only has more. -/
theorem chq_low {w w2 w' : World} {lb B : Nat} {r : List Vst × Bool} {e : Ending} (h : ChQ w2 lb r e w') (f : Below B w w2) (hB : B ≤ lb) (hs : B ≤ w2.heap.size) : e = .returned (.bool r.2) ∧ LineV w' lb r.1 ∧ Below B w w' := ⟨h.1, h.2.1, f.trans (grw_low h.2.2 hB hs)⟩
end Go.Proofs.Ytdnkmjafkpnliaa
