/-
  Several texts in one: TrA TMap Whl0.
-/
import Derived.DeepKeys4
import Derived.Maps.OwnSet
import Derived.Maps.RangeWalk
import Derived.Test.YtgjpkpmikbpcnaaQStps
import Derived.Test.YtgjpkpmikbpcnaaQRTskG
import Derived.Test.YtgjpkpmikbpcnaaQArg
import Derived.Test.YtgjpkpmikbpcnaaQSmallG
namespace Go.Proofs.Ytgjpkpmikbpcnaa
open Go.RowKit
set_option maxRecDepth 100000 in
set_option maxHeartbeats 3200000 in
theorem travel_at {w : World} {x v : Value} {m : Mat} {L : List Stp} {i : Nat} (hx : IntsV w x m.cells) (hm : SqM m) (hv : StpsV w v L) (hi : i < L.length) : Calls Try.prog 107 #[.agg #[.int .i64 m.n, x], v, .int .i64 (i : Int)] w fun e w' => e = .returned (.int .i64 (travelM m L i)) ∧ Below w.heap.size w w' := by
  cases i with
  | zero =>
    obtain ⟨a, c, rfl⟩ := hx.shape
    exact travel_zero m.n ⟨_, _, _, rfl⟩
  | succ i =>
    rw [travelM_succ]
    exact travel_any hx hm hv hi
theorem covers_zero (a b : Nat) (ha : a < 18446744073709551616) (hb : b < 18446744073709551616) : b &&& (18446744073709551615 - a) = 0 ↔ a ||| b = a := by
  have key : ∀ k, (18446744073709551615 - a).testBit k = (decide (k < 64) && !a.testBit k) := fun k => by
    have := Nat.testBit_two_pow_sub_succ (x := a) (n := 64) ha k
    rw [show 2 ^ 64 - (a + 1) = 18446744073709551615 - a by omega] at this
    exact this
  constructor
  · intro h
    refine Nat.eq_of_testBit_eq fun k => ?_
    have h1 := congrArg (·.testBit k) h
    simp only [Nat.testBit_and, key, Nat.zero_testBit] at h1
    rw [Nat.testBit_or]
    by_cases hk : k < 64
    · cases hA : a.testBit k <;> cases hB : b.testBit k <;> simp [hA, hB, hk] at h1 ⊢
    · have : b.testBit k = false := Nat.testBit_lt_two_pow (Nat.lt_of_lt_of_le hb (Nat.pow_le_pow_right (n := 2) (by decide) (show 64 ≤ k by omega)))
      simp [this]
  · intro h
    refine Nat.eq_of_testBit_eq fun k => ?_
    have h1 := congrArg (·.testBit k) h
    simp only [Nat.testBit_or] at h1
    rw [Nat.testBit_and, key, Nat.zero_testBit]
    cases hA : a.testBit k <;> cases hB : b.testBit k <;> simp [hA, hB] at h1 ⊢
set_option maxRecDepth 100000 in
set_option maxHeartbeats 3200000 in
theorem covers_any {a b : Int} (ha : Wd a) (hb : Wd b) (w : World) : Calls Try.prog 124 #[.int .u64 a, .int .u64 b] w fun e w' => e = .returned (.bool (coversB a b)) ∧ w' = w := by
  obtain ⟨a, rfl⟩ : ∃ n : Nat, a = n := ⟨a.toNat, by have := ha.1; omega⟩
  obtain ⟨b, rfl⟩ : ∃ n : Nat, b = n := ⟨b.toNat, by have := hb.1; omega⟩
  have ha : a < 18446744073709551616 := by have := ha.2; omega
  have hb : b < 18446744073709551616 := by have := hb.2; omega
  have h0 := u64_andNot_nat b a hb ha
  have hc := covers_zero a b ha hb
  unfold coversB
  simp only [Int.toNat_natCast]
  generalize b &&& (18446744073709551615 - a) = c at h0 hc
  by_cases h : a ||| b = a
  · have hz := hc.2 h
    subst hz
    have h1 : (((0 : Nat) : Int) == 0) = true := rfl
    have HH := hide h
    clear h hc
    go_enter Try.func124, Try.ntmps124
    go_wp2
    go_ret
    exact ⟨by simp [HH.out], rfl⟩
  · have hz : c ≠ 0 := fun e => h (hc.1 e)
    have h1 : ((c : Int) == 0) = false := by simp; omega
    have h2 : ¬ (c : Int) = 0 := by omega
    have HH := hide h
    clear h hc
    go_enter Try.func124, Try.ntmps124
    go_wp2
    go_ret
    exact ⟨by simp [HH.out], rfl⟩
theorem skl_wd {w : World} {x : PrbS} {p : Prb} (h : PrbV w x p) (t : Tsk) : Wd (sklM p t) := by
  obtain ⟨s, i⟩ := t
  unfold sklM
  split
  · rename_i ht
    split
    · rename_i hs
      subst hs
      obtain ⟨k, rfl, hk⟩ := there_ship ht
      obtain ⟨a, c, _, _, _, hc⟩ := h.s
      obtain ⟨_, _, _, _, _, _, _, _, _, _, _, _, _, hw⟩ := hc k hk
      simpa using hw
    · rename_i hs
      have hs : s = false := by cases s <;> simp_all
      subst hs
      obtain ⟨k, rfl, hk⟩ := there_job ht
      obtain ⟨a, c, _, _, _, hc⟩ := h.j
      obtain ⟨_, _, _, _, _, _, _, _, _, _, _, _, _, hw⟩ := hc k hk
      simpa using hw
  · exact ⟨by omega, by omega⟩
theorem veh_wd {w : World} {x : PrbS} {p : Prb} (h : PrbV w x p) {k : Nat} (hk : k < p.vs.length) : Wd (p.vs.getD k vz).skills := by
  obtain ⟨a, c, _, _, _, hc⟩ := h.v
  obtain ⟨_, _, _, _, _, _, _, _, _, _, _, hw⟩ := hc k hk
  exact hw
end Go.Proofs.Ytgjpkpmikbpcnaa
namespace Go.Proofs.Ytgjpkpmikbpcnaa
open Go.RowKit Go.Maps
theorem wide31 : (match Try.prog.underlying 31 with | some (.array _ _) | some (.struct _) => true | _ => false) = true := by kernel_rfl
theorem row31 : (31 : TypeId) < Try.prog.types.size := of_decide_eq_true (by kernel_rfl)
theorem deep31 : Try.prog.keyTypeAt 2 31 = true := by kernel_rfl
set_option maxRecDepth 100000 in
theorem tlaw : Keyed Try.prog 31 := Keyed.of_law (deep_law_laid laidOut (m := 2) (by omega) row31 deep31 wide31)
def tval (t : Tsk) : Value := .agg #[.bool t.1, .int .i64 t.2]
def tlit (t : Tsk) : Lit := .string (keyBytes [.bool t.1, .int .i64 t.2])
def I64 (x : Int) : Prop := -9223372036854775808 ≤ x ∧ x ≤ 9223372036854775807
theorem wf64 {x : Int} (h : I64 x) : (Lit.int .i64 x).wf = true := by
  obtain ⟨h1, h2⟩ := h
  have e1 : IntKind.i64.min = -9223372036854775808 := by rfl
  have e2 : IntKind.i64.max = 9223372036854775807 := by rfl
  simp [Lit.wf, e1, e2]
  omega
theorem keyT (t : Tsk) (h : I64 t.2) : keyOf Try.prog 31 (tval t) = some (tlit t) := by
  obtain ⟨s, i⟩ := t
  have h1 : Try.prog.keyType 31 = true := by kernel_rfl
  have hc : Try.prog.cellsOf 31 = 2 := by kernel_rfl
  have hc4 : Try.prog.cellsOf 4 = 1 := by kernel_rfl
  have hc3 : Try.prog.cellsOf 3 = 1 := by kernel_rfl
  have h2 : (tval (s, i)).formed Try.prog 31 = true := by simp [tval, Value.formed, Try.underlying31, hc]
  have hw := wf64 h
  have h3 : ∀ d, Try.prog.keyLits (d + 2) 31 [.bool s, .int .i64 i] = some [.bool s, .int .i64 i] := by
    intro d
    simp [Program.keyLits, Try.underlying31, Try.underlying4, Try.underlying3, hc, hc4, hc3, hw]
  obtain ⟨d, hd⟩ : ∃ d, Try.prog.types.size + 1 = d + 2 := ⟨Try.prog.types.size - 1, by have : 31 < Try.prog.types.size := of_decide_eq_true (by kernel_rfl); omega⟩
  unfold keyOf
  rw [Try.underlying31]
  simp only [h1, h2, Bool.and_self, if_true]
  rw [hd]
  show (Try.prog.keyLits (d + 2) 31 [.bool s, .int .i64 i]).map _ = _
  rw [h3]
  rfl
theorem tlit_inj {t u : Tsk} (ht : I64 t.2) (hu : I64 u.2) (h : tlit t = tlit u) : t = u := by
  have := tlaw.inj (keyT t ht) (by rw [h]; exact keyT u hu)
  obtain ⟨s, i⟩ := t
  obtain ⟨s', i'⟩ := u
  simp [tval] at this
  rw [this.1, this.2]
def heldT (v : Value) : Option (DataW Value × List MemPlace) := some (.held v, [])
theorem grown_below {w w' : World} {mb : Nat} (h : w.grownBy w' (some mb)) (hl : mb ≤ w.heap.size) : Below mb w w' := (Below.refl mb w).grown h hl fun q hq => by cases hq; exact Nat.le_refl _
theorem grown_cell {w w' : World} {mb b o : Nat} (h : w.grownBy w' (some mb)) (hb : b < w.heap.size) (hne : b ≠ mb) : w'.cell? ⟨b, o, none⟩ = w.cell? ⟨b, o, none⟩ := by
  have e := h.block b hb (by simpa using hne)
  unfold World.cell?
  simp only [e]
end Go.Proofs.Ytgjpkpmikbpcnaa
namespace Go.Proofs.Ytgjpkpmikbpcnaa
open Go.RowKit
/-- How many visits of a task stand in a list of which each stands once. -/
def stoodM (P : List Vst) (t : Tsk) : Int := if t.1 = true then (if ((2, t.2) : Vst) ∈ P then 1 else 0) + (if ((3, t.2) : Vst) ∈ P then 1 else 0) else (if ((1, t.2) : Vst) ∈ P then 1 else 0)
def taskOf (v : Vst) : Tsk := (decide (v.1 ≠ 1), v.2)
theorem stood_nil (t : Tsk) : stoodM [] t = 0 := by unfold stoodM; simp
theorem stood_le (P : List Vst) (t : Tsk) : 0 ≤ stoodM P t ∧ stoodM P t ≤ 2 := by
  unfold stoodM
  split
  · split <;> split <;> omega
  · split <;> omega
theorem stood_snoc {P : List Vst} {v : Vst} (hk : v.1 = 1 ∨ v.1 = 2 ∨ v.1 = 3) (hn : v ∉ P) (t : Tsk) : stoodM (P ++ [v]) t = if t = taskOf v then stoodM P t + 1 else stoodM P t := by
  obtain ⟨k, i⟩ := v
  obtain ⟨s, j⟩ := t
  simp only at hk
  rcases hk with rfl | rfl | rfl
  · unfold stoodM taskOf
    cases s with
    | true => simp
    | false =>
      simp only [Bool.false_eq_true, if_false]
      by_cases e : j = i
      · subst e
        simp [hn]
      · have : ¬ ((1, j) : Vst) = (1, i) := fun h => e (by injection h)
        simp [e]
  · unfold stoodM taskOf
    cases s with
    | false => simp
    | true =>
      simp only [if_true]
      by_cases e : j = i
      · subst e
        simp [hn]
        omega
      · simp [e]
  · unfold stoodM taskOf
    cases s with
    | false => simp
    | true =>
      simp only [if_true]
      by_cases e : j = i
      · subst e
        simp [hn]
      · simp [e]
theorem stood_brk {P : List Vst} {v : Vst} (hk : v.1 = 4) (t : Tsk) : stoodM (P ++ [v]) t = stoodM P t := by
  obtain ⟨k, i⟩ := v
  simp only at hk
  subst hk
  unfold stoodM
  simp
/-- How many visits a task has. -/
def visN' (t : Tsk) : Int := if t.1 = true then 2 else 1
/-- The whole list is whole, if it is a right beginning and no task's visits lack. -/
theorem whole_iff {p : Prb} {V : List Vst} (h : Gd p V) : Whole p V ↔ ∀ t, 0 < stoodM V t → visN' t ≤ stoodM V t := by
  constructor
  · rintro ⟨_, h2⟩ ⟨s, j⟩ ht
    unfold visN'
    cases s with
    | false => unfold stoodM at ht ⊢; simp only [Bool.false_eq_true, if_false] at ht ⊢; omega
    | true =>
      unfold stoodM at ht ⊢
      simp only [if_true] at ht ⊢
      have hp : ((2, j) : Vst) ∈ V := by
        by_cases h3 : ((3, j) : Vst) ∈ V
        · obtain ⟨i, hi⟩ := List.getElem?_of_mem h3
          have := (h i _ hi (by simp)).2.2 rfl
          exact List.mem_of_mem_take this
        · rw [if_neg h3] at ht
          by_cases h2' : ((2, j) : Vst) ∈ V
          · exact h2'
          · rw [if_neg h2'] at ht; omega
      rw [if_pos hp, if_pos (h2 j hp)]
      omega
  · intro hs
    refine ⟨h, fun j hj => ?_⟩
    by_cases h3 : ((3, j) : Vst) ∈ V
    · exact h3
    · have := hs (true, j) (by unfold stoodM; simp [hj, h3])
      unfold visN' stoodM at this
      simp [hj, h3] at this
end Go.Proofs.Ytgjpkpmikbpcnaa
