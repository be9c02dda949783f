/-
  Copying regions: their checks by reckoning; rows of structs that are copied.
-/
import Derived.Test.YtgjpkpmikbpcnaaQCpA
namespace Go.Proofs.Ytgjpkpmikbpcnaa
open Go.RowKit
/-- Does i wait for j, whatever the order is? -/
def waits (ops : Array Oper) (i j : Nat) : Bool := ((ops[i]?).map fun o => o.after.any fun e => Region.binds .any e && e.on == j).getD false
theorem waits_dep {ops : Array Oper} {i j : Nat} (h : waits ops i j = true) {o : Oper} (ho : ops[i]? = some o) {L : Nat → Bool} (hd : ∀ e ∈ o.after, Region.binds .any e = true → L e.on = true) : L j = true := by
  unfold waits at h
  rw [ho] at h
  simp only [Option.map_some, Option.getD_some] at h
  obtain ⟨e, he, h2⟩ := Array.any_eq_true'.1 h
  simp only [Bool.and_eq_true, beq_iff_eq] at h2
  rw [← h2.2]
  exact hd e he h2.1
theorem waits_clo {ops : Array Oper} {i j : Nat} (h : waits ops i j = true) {L : Nat → Bool} (hc : Clo ops L) (hi : L i = true) : L j = true := by
  cases ho : ops[i]? with
  | none => unfold waits at h; rw [ho] at h; cases h
  | some o => exact waits_dep h ho (hc i o ho hi)
/-- The checks of a copying region. -/
def CR.okB (R : CR) (tl : Nat) (lds : List Nat) : Bool :=
  ((List.range R.ops.size).all fun i => (R.pv i).isSome || (List.range R.k).any fun c => i == R.b c || i == R.a c || i == R.s c) &&
  ((List.range R.k).all fun c => (List.range R.k).all fun d => (c == d || (R.b c != R.b d && R.a c != R.a d && R.s c != R.s d)) && R.b c != R.a d && R.b c != R.s d && R.a c != R.s d) &&
  ((List.range R.k).all fun c => (R.pv (R.b c)).isNone && (R.pv (R.a c)).isNone && (R.pv (R.s c)).isNone && waits R.ops (R.a c) (R.b c) && waits R.ops (R.s c) (R.a c) && (List.range c).all (fun d => waits R.ops (R.s c) (R.s d)) && lds.all (fun i => waits R.ops (R.s c) i) && decide (R.b c < R.ops.size) && decide (R.a c < R.ops.size) && decide (R.s c < R.ops.size)) && decide (tl ≤ R.ops.size)
theorem CR.ok_of {R : CR} {tl : Nat} {lds : List Nat} (h : R.okB tl lds = true) (hp : ∀ i, (R.pv i).isSome = true → i < tl) (hl : ∀ i, R.ld i = true → i ∈ lds) (hsb : R.SB < R.B) (ho : ∀ c, c < R.k → R.off c < R.arr.size) : R.Ok := by
  unfold CR.okB at h
  simp only [Bool.and_eq_true, List.all_eq_true, List.mem_range, Bool.or_eq_true, List.any_eq_true, beq_iff_eq, bne_iff_ne, ne_eq, decide_eq_true_eq, Option.isNone_iff_eq_none] at h
  obtain ⟨⟨⟨h1, h2⟩, h3⟩, h4⟩ := h
  refine ⟨fun i hi => ?_, fun c hc d hd e => ?_, fun c hc d hd e => ?_, fun c hc d hd e => ?_, fun c hc d hd => (h2 c hc d hd).1.1.2, fun c hc d hd => (h2 c hc d hd).1.2, fun c hc d hd => (h2 c hc d hd).2,
    fun c hc => (h3 c hc).1.1.1.1.1.1.1.1.1, fun c hc => (h3 c hc).1.1.1.1.1.1.1.1.2, fun c hc => (h3 c hc).1.1.1.1.1.1.1.2,
    fun c hc L hcl hL => waits_clo (h3 c hc).1.1.1.1.1.1.2 hcl hL, fun c hc L hcl hL => waits_clo (h3 c hc).1.1.1.1.1.2 hcl hL,
    fun c hc o ho L hd => waits_dep (h3 c hc).1.1.1.1.1.1.2 ho hd, fun c hc o ho L hd => waits_dep (h3 c hc).1.1.1.1.1.2 ho hd,
    fun c d hcd hd L hcl hL => waits_clo ((h3 d hd).1.1.1.1.2 c hcd) hcl hL, fun i hi c hc L hcl hL => waits_clo ((h3 c hc).1.1.1.2 i (hl i hi)) hcl hL,
    fun i hi => Nat.lt_of_lt_of_le (hp i hi) h4, fun c hc => (h3 c hc).1.1.2, fun c hc => (h3 c hc).1.2, fun c hc => (h3 c hc).2, hsb, ho⟩
  · rcases h1 i hi with h | ⟨c, hc, h⟩
    · exact .inl h
    · rcases h with (h | h) | h
      · exact .inr (.inl ⟨c, hc, h⟩)
      · exact .inr (.inr (.inl ⟨c, hc, h⟩))
      · exact .inr (.inr (.inr ⟨c, hc, h⟩))
  · rcases (h2 c hc d hd).1.1.1 with h | h
    · exact h
    · exact absurd e h.1.1
  · rcases (h2 c hc d hd).1.1.1 with h | h
    · exact h
    · exact absurd e h.1.2
  · rcases (h2 c hc d hd).1.1.1 with h | h
    · exact h
    · exact absurd e h.2
/-- A slot that no operation of the region fills. -/
def outB (ops : Array Oper) (d : Nat) : Bool := (List.range ops.size).all fun i => dstOf ops i != some d
theorem out_of {ops : Array Oper} {d : Nat} (h : outB ops d = true) : ∀ i, dstOf ops i ≠ some d := by
  intro i e
  have hi : i < ops.size := by
    unfold dstOf at e
    rcases Nat.lt_or_ge i ops.size with h | h
    · exact h
    · rw [Array.getElem?_eq_none h] at e; cases e
  have := List.all_eq_true.1 h i (List.mem_range.2 hi)
  rw [e] at this
  simp at this
end Go.Proofs.Ytgjpkpmikbpcnaa
