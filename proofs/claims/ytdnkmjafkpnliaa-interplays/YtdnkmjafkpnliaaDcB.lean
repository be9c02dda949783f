/-
  What the document's turned does.
-/
import Derived.Test.YtdnkmjafkpnliaaPrsL
import Derived.Test.YtdnkmjafkpnliaaDcA
namespace Go.Proofs.Ytdnkmjafkpnliaa
open Go.RowKit

theorem rev_step {V : List Vst} {p : Nat} {u : Vst} (h : V[p]? = some u) : (V.drop p).reverse = (V.drop (p + 1)).reverse ++ [u] := by
  obtain ⟨hk, e⟩ := List.getElem?_eq_some_iff.1 h
  rw [List.drop_eq_getElem_cons hk, List.reverse_cons, e]
set_option maxRecDepth 100000 in
set_option maxHeartbeats 6400000 in
theorem turned_any {w : World} {va : Option Addr} {m vc : Nat} {V : List Vst} (h : VsV w (.slice va m vc) V) (hm : V.length = m) (hm2 : m ≤ 900) : Calls Try.prog 38 #[.slice va m vc] w fun e w' => ∃ a c, e = .returned (.slice a m c) ∧ VRow w' w.heap.size (.slice a m c) V.reverse ∧ Below w.heap.size w w' := by
  have HV := hide h
  have HM := hide hm
  have HB0 : Hid (Below w.heap.size w w) := Below.refl _ _
  clear h hm
  go_enter Try.func38, Try.ntmps38
  go_wp2_with fail
  go_loopw [4, 3] (fun vi vo wr => ∃ (x : Int) (q r : Nat) (a : Option Addr) (c : Nat), vi = .int .i64 x ∧ vo = .slice a r c ∧ x + 1 = (q : Int) ∧ q + r = m ∧ Hid (VRow wr w.heap.size (.slice a r c) ((V.drop q).reverse)) ∧ Hid (Below w.heap.size w wr)) (fun vi _ _ => (intOf vi + 1).toNat)
  case atStart => exact ⟨(m : Int) - 1, m, 0, none, 0, by go_num, rfl, by omega, by omega, (by have e : (V.drop m).reverse = [] := (by rw [List.drop_of_length_le (by rw [HM.out]; exact Nat.le_refl _)]; rfl); show VRow _ _ _ _; rw [e]; exact World.ownsRow_nil _ _ 58 2), HB0.out⟩
  case round =>
    obtain ⟨x, q, r, a, c, rfl, rfl, hxq, hqr, HR, HB⟩ := hrel
    cases q with
    | zero =>
      have hx : x = -1 := by omega
      subst hx
      have hr : r = m := by omega
      subst hr
      have HR2 : Hid (VRow wr w.heap.size (.slice a r c) V.reverse) := HR.out
      clear HR hxq
      go_wp2_with fail
      go_ret
      exact ⟨_, _, rfl, HR2.out, HB.out⟩
    | succ p =>
      have hx : x = (p : Int) := by omega
      subst hx
      have j1 : (p : Int) ≥ 0 := by omega
      have j2 : (0 : Int) ≤ (p : Int) := by omega
      have j3 : (p : Int) < (m : Int) := by omega
      have j4 : ¬ (m : Int) ≤ (p : Int) := by omega
      obtain ⟨⟨gk, gi⟩, hgu⟩ : ∃ u, V[p]? = some u := ⟨_, List.getElem?_eq_getElem (by rw [HM.out]; omega)⟩
      have HST := hide (rev_step hgu)
      obtain ⟨b, off, rfl, hb, y1, y2, -⟩ := vs_cells HV.out hgu
      simp only at y1 y2
      have z1 : wr.cell? ⟨b, off + p * 2, none⟩ = some (.int .i64 gk) := ((bcell HB.out).1 _ _ hb).trans y1
      have z2 : wr.cell? ⟨b, off + p * 2 + 1, none⟩ = some (.int .i64 gi) := ((bcell HB.out).1 _ _ hb).trans y2
      have HRL : Hid (((V.drop (p + 1)).reverse).length = r) := by show _ = _; rw [List.length_reverse, List.length_drop, HM.out]; omega
      have hrr : r ≤ 900 := by omega
      clear hgu y1 y2 hxq
      go_wp2_with (first | (at_builtin; refine app_one (w := wr.alloc (.cells #[.int .i64 gk, .int .i64 gi] 58)) (u := (gk, gi)) (.tmp 12) (.tmp 17) rfl rfl rfl rfl (heap_alloc_new wr _) (VRow.later HR.out (Nat.le_refl _) ((Below.refl _ _).alloc (Nat.le_refl _) _)) HRL.out (by omega) (Nat.le_trans HB.out.size (by simp)) ?_; intro g1 c1 w7 s1 s2 s3; have RA := hide s1; have E7 : Hid (Below w.heap.size w w7) := below_own (below_on HB.out ((Below.refl _ _).alloc (Nat.le_refl _) _)) HR.out s2 (Nat.le_trans HB.out.size (by simp)); clear s1 s2 s3) | fail)
      go_roundw
      case rel => exact ⟨(p : Int) - 1, p, r + 1, some ⟨g1, 0, none⟩, c1, by go_num, rfl, by omega, by omega, by show VRow _ _ _ _; rw [HST.out]; exact RA.out, E7.out⟩
      case measure => simp [intOf]
end Go.Proofs.Ytdnkmjafkpnliaa
