/-
  What math/bits.TrailingZeros64 does, and skill.List: the numbers of a word's bits, rising.
-/
import Derived.Test.YtkemjofjmpjiiaaDoorAw
import Derived.Shelf.Spec.TrailingZeros
import Derived.Lib.LaidTab
namespace Go.Proofs.YtkemjofjmpjiiaaDoor
open Go.RowKit

/-- The table in its variable. -/
def Tab (w : World) : Prop := TabAt 0 Lib.deBruijn64tab w
theorem Tab.later {w w' : World} (h : Tab w) (f : Below w.heap.size w w') : Tab w' := fun j hj => (f.cell (p := ⟨0, j, none⟩) (block_lt_of_cell (h j hj))).trans (h j hj)
set_option maxHeartbeats 1000000 in
theorem tz_core (x k idx : Nat) (w : World) (hx0 : ((x : Int) == 0) = false)
    (key : IntKind.u64.wrap (bits BinOp.and IntKind.u64 (x : Int) (IntKind.u64.wrap (-(x : Int))) * 285870213051353865) / 288230376151711744 = (idx : Int))
    (hi : idx < 64) (hk : k < 64) (hcell : w.cell? ⟨0, idx, none⟩ = some (.int .u8 k)) :
    Calls Tryd.prog 14 #[.int .u64 x] w fun e w' => e = .returned (.int .i64 k) ∧ w' = w := by
  go_enter Tryd.func14, Tryd.ntmps14
  go_wp2_with (simp only [key])
  go_ret
  exact ⟨rfl, rfl⟩
theorem tz_any (x : Nat) (hx : x < 18446744073709551616) (hx0 : x ≠ 0) (w : World) (hT : Tab w) :
    Calls Tryd.prog 14 #[.int .u64 x] w fun e w' => e = .returned (.int .i64 (Lib.ctz 64 x)) ∧ w' = w := by
  obtain ⟨hlow, hk⟩ := Lib.lowest_bit 64 x hx0 hx
  obtain ⟨hi, htab⟩ := Lib.deBruijn64_at _ hk
  have hcell := hT _ hi
  rw [htab] at hcell
  exact tz_core x _ _ w (by simp; omega) (tz64_key x _ hx hx0 hlow) hi hk hcell
def bitsI (x : Nat) : List Int := (bitsF 64 0 x).map fun (k : Nat) => (k : Int)
theorem bitsI_len (x : Nat) : (bitsI x).length = pop 64 x := by rw [bitsI, List.length_map, bitsF_len]
theorem bitsI_zero : bitsI 0 = [] := by rw [bitsI, bitsF_zero]; rfl
theorem bitsI_low (x : Nat) (h0 : x ≠ 0) (h : x < 18446744073709551616) : bitsI x = (Lib.ctz 64 x : Int) :: bitsI (x &&& (x - 1)) := by
  rw [bitsI, bitsF_ctz x h0 h]; rfl
/-- A slice with room for c numbers, just made. -/
theorem made_room (c : Nat) (hn : c ≤ 1000) (w : World) : (Instr.makeSlice 22 (.int .i64 0) (.int .i64 c)).run Tryd.prog w = .ok (.slice (some ⟨w.heap.size, 0, none⟩) 0 c) (w.alloc (.cells (Array.replicate c (.int .i64 0)) 3)) := by
  obtain ⟨i0, hi0, hz0, hz1, hz2⟩ := info_parts info3
  have := run_makeSlice (P := Tryd.prog) w 22 3 i0 _ Tryd.underlying22 hi0 hz0 .i64 .i64 0 c (by omega) (by omega) (by rw [hz1]; omega) (by rw [hz2]; omega) (by omega)
  rw [hz1] at this
  simp only [Int.toNat_natCast, Nat.mul_one] at this
  have e : madeCells (Value.int .i64 0).cells c = Array.replicate c (Value.int .i64 0) := by
    apply Array.ext
    · simp [madeCells]
    · intro i h1 h2
      simp [madeCells, Value.cells, Nat.mod_one]
  rw [e] at this
  exact this
theorem irow_room (w : World) {base c : Nat} (hb : base ≤ w.heap.size) (hn : c ≤ 1000) : IRow (w.alloc (.cells (Array.replicate c (.int .i64 0)) 3)) base (.slice (some ⟨w.heap.size, 0, none⟩) 0 c) [] := by
  refine ⟨rfl, .inr ⟨w.heap.size, c, (Array.replicate c (.int .i64 0)), rfl, hb, heap_alloc_new _ _, by simp, by unfold maxLen; omega, by simp, by simp [intsV]⟩⟩
/-- An append of one number onto a row of the call's own. -/
theorem app_one {w w0 : World} {ops : Array Oper} {rest : List Oper} {o : Oper} {a : Act} {Q : Exit → Act → World → Prop} (s x : Operand)
    (hgd : o.guard = none) (ho : o.op = .call { callee := .builtin .append, args := #[s, x], argTypes := #[22, 22] }) {base : Nat} {v : Value} {zs : List Int} {z : Int}
    (hs : a.eval s = v) (hx : a.eval x = .slice (some ⟨w.heap.size, 0, none⟩) 1 1) (hr : IRow w base v zs) (hl : zs.length ≤ 100000) (hb : Below base w0 w) (hbs : base ≤ w.heap.size)
    (h : ∀ v' w', IRow w' base v' (zs ++ [z]) → Below base w0 w' ∧ base ≤ w'.heap.size → wpList Tryd.prog ops Q rest (a.put o.dst v') w') : wpList Tryd.prog ops Q (o :: rest) a (w.alloc (.cells #[.int .i64 z] 3)) := by
  obtain ⟨i0, hi0, hy0, hy1, hy2⟩ := info_parts info3
  have hr1 := hr.alloc (.cells #[.int .i64 z] 3)
  have hb1 := hb.alloc hbs (.cells #[.int .i64 z] 3)
  refine wpList_append_own _ hgd s x 22 ho base 3 i0 (.int .i64 0) 1 8 Tryd.underlying22 hi0 hy0 hy1 hy2 rfl (by decide) v zs.length (intsV zs) hs hr1 ⟨w.heap.size, 0, none⟩ 1 1 (intsV [z]) hx rfl ?_ (intsV_one _) (by unfold maxLen; omega) (by omega) (by simp; omega) ?_
  · intro j u hu
    have hj : j = 0 := by
      have := (List.getElem?_eq_some_iff.1 hu).1
      rw [intsV_len] at this
      simp only [List.length_cons, List.length_nil] at this
      omega
    subst hj
    rw [add0, cell_of_row _ w.heap.size 0 _ _ _ (heap_alloc_new _ _)]
    simpa [intsV] using hu
  · intro v' w' h1 h2 _
    have h3 : IRow w' base v' (zs ++ [z]) := by
      unfold IRow
      rw [List.length_append, intsV_app]
      exact h1
    exact h v' w' h3 ⟨hb1.grown h2 (by simp; omega) fun k hk => (hr1.lt k hk).1, Nat.le_trans (by simp; omega) h2.size⟩
set_option maxHeartbeats 1000000 in
theorem list_any (x : Nat) (hx : x < 18446744073709551616) (w : World) (hT : Tab w) :
    Calls Tryd.prog 11 #[.int .u64 x] w fun e w' => ∃ a c, e = .returned (.slice a (pop 64 x) c) ∧ IRow w' w.heap.size (.slice a (pop 64 x) c) (bitsI x) ∧ Below w.heap.size w w' := by
  have hp := pop_le 64 x
  have HC := hide (count_any x hx w)
  have hm := made_room (pop 64 x) (by omega) w
  have hr := irow_room w (base := w.heap.size) (c := pop 64 x) (Nat.le_refl _) (by omega)
  have HLN := hide (bitsI_len x)
  generalize pop 64 x = c at hp HC hm hr HLN
  have HR0 := hide hr
  have HT := hide hT
  have HB0 : Hid (Below w.heap.size w (w.alloc (.cells (Array.replicate c (.int .i64 0)) 3)) ∧ w.heap.size ≤ (w.alloc (.cells (Array.replicate c (.int .i64 0)) 3)).heap.size) := ⟨(Below.refl _ _).alloc (Nat.le_refl _) _, by simp⟩
  clear hr hT
  go_enter Tryd.func11, Tryd.ntmps11
  go_wp2_with (go_at_call 12; refine HC.out.mono ?_; rintro e w1 ⟨rfl, hw⟩; rw [hw]; clear hw)
  go_loopw [0, 3] (fun vs vl wr => ∃ (s : Nat) (v : Value) (zs : List Int), vs = .int .u64 s ∧ vl = v ∧ s < 18446744073709551616 ∧ Hid (zs ++ bitsI s = bitsI x) ∧ Hid ((Below w.heap.size w wr ∧ w.heap.size ≤ wr.heap.size) ∧ IRow wr w.heap.size v zs)) (fun vs _ _ => (bitsI (intOf vs).toNat).length)
  case atStart => exact ⟨x, _, [], rfl, rfl, hx, rfl, HB0.out, HR0.out⟩
  case round =>
    clear HB0 HR0 HC hm
    obtain ⟨s, v, zs, rfl, rfl, hs, HZ, HR⟩ := hrel
    by_cases h0 : s = 0
    · subst h0
      have HE : Hid (zs = bitsI x) := by
        have := HZ.out
        rw [bitsI_zero, List.append_nil] at this
        exact this
      have hz := HE.out
      subst hz
      obtain ⟨a1, c1, e1⟩ := HR.out.2.shape
      rw [HLN.out] at e1
      subst e1
      go_wp2
      go_ret
      exact ⟨a1, c1, rfl, HR.out.2, HR.out.1.1⟩
    · have z0 : ((s : Int) != 0) = true := by simp; omega
      have z1 : ¬ (s : Int) = 0 := by omega
      have HLow := hide (bitsI_low s h0 hs)
      have hlen : zs.length ≤ 100000 := by
        have h1 := congrArg List.length HZ.out
        rw [List.length_append, HLN.out] at h1
        omega
      have han := bits_and_u64_nat s (s - 1) hs (by omega)
      have hlt : s &&& (s - 1) < 18446744073709551616 := Nat.lt_of_le_of_lt Nat.and_le_left hs
      rw [show ((s - 1 : Nat) : Int) = (s : Int) - 1 by omega] at han
      have HTZ := hide (tz_any s hs h0 wr (HT.out.later HR.out.1.1))
      generalize Lib.ctz 64 s = k at HLow HTZ
      generalize s &&& (s - 1) = t at HLow han hlt
      go_wp2_with (first | (go_at_call 14; refine HTZ.out.mono ?_; rintro e w1 ⟨rfl, hw⟩; rw [hw]; clear hw) | (at_builtin; refine app_one (.tmp 13) (.tmp 16) rfl rfl rfl rfl HR.out.2 (by omega) HR.out.1.1 HR.out.1.2 ?_; intro v' w2 h1 h2; have H2 := hide (And.intro h2 h1); clear h1 h2))
      go_roundw
      case rel => exact ⟨t, _, zs ++ [(k : Int)], rfl, rfl, hlt, by show _ = _; rw [← HZ.out, HLow.out]; simp, H2.out.1, H2.out.2⟩
      case measure => rw [show (intOf (.int .u64 (s : Int))).toNat = s from rfl, HLow.out]; simp [intOf]
end Go.Proofs.YtkemjofjmpjiiaaDoor
