/-
  What the escape of the document's reader does.
-/
import Derived.Test.YtkpfiopgnobcdaaDoorRefE
namespace Go.Proofs.YtkpfiopgnobcdaaDoor
open Go.RowKit

theorem hide {p : Prop} (h : p) : Hid p := h
section
variable {B : List UInt8} {R cap : Nat} {ta : Option Addr} {w0 w w' : World} {a b p : Nat} {v : Value}
theorem okI {n : Nat} {P : Int → Prop} {f : FuncId} {args : Array Value} {M : Res Nat} {x a1 : Nat} (H : Calls Tryd.prog f args w (DoneI B R cap ta w0 w v n P M)) (h : M = .ok x a1) :
    Calls Tryd.prog f args w fun e w' => e = .returned (.int .i64 x) ∧ RSc B R cap ta w0 w' a1 0 0 v ∧ Fr R none w w' := by
  subst h; exact H
theorem badI {n : Nat} {P : Int → Prop} {f : FuncId} {args : Array Value} {M : Res Nat} {x c : Nat} (H : Calls Tryd.prog f args w (DoneI B R cap ta w0 w v n P M)) (h : M = .bad x c) :
    Calls Tryd.prog f args w fun e w' => ∃ (X : Int) (q : Nat), e = .returned (.int .i64 X) ∧ P X ∧ q ≤ B.length + n ∧ RSc B R cap ta w0 w' q c x v ∧ Fr R none w w' := by
  subst h; exact H
set_option maxRecDepth 100000 in
set_option maxHeartbeats 800000 in
/-- The first half is wrong. -/
theorem escape_bad (h : RSc B R cap ta w0 w a 0 0 v) (c x : Nat)
    (H : Hid (Calls Tryd.prog 45 #[.pointer (some ⟨R, 0, none⟩), .int .i64 a] w fun e w' => ∃ (X : Int) (q : Nat), e = .returned (.int .i64 X) ∧ X = 0 ∧ q ≤ B.length + 2 ∧ RSc B R cap ta w0 w' q c x v ∧ Fr R none w w')) :
    Calls Tryd.prog 34 #[.pointer (some ⟨R, 0, none⟩)] w fun e w' => ∃ q, e = .returned (.int .i64 0) ∧ q ≤ B.length + 2 ∧ RSc B R cap ta w0 w' q c x v ∧ Fr R none w w' := by
  have c1 := h.rd.c1
  go_enter Tryd.func34, Tryd.ntmps34
  go_wp2_with (go_at_call 45; refine H.out.mono ?_; rintro e w1 ⟨X, q, rfl, rfl, hq, hs1, hf1⟩; have c2 := hs1.rd.c2)
  go_ret
  exact ⟨q, rfl, hq, hs1, hf1⟩
set_option maxRecDepth 100000 in
set_option maxHeartbeats 800000 in
/-- A second half without a first one. -/
theorem escape_second (h : RSc B R cap ta w0 w a 0 0 v) (X : Int) (q : Nat) (h1 : ¬ X < 55296) (h2 : ¬ 57343 < X) (h3 : 56319 < X)
    (H : Hid (Calls Tryd.prog 45 #[.pointer (some ⟨R, 0, none⟩), .int .i64 a] w fun e w' => e = .returned (.int .i64 X) ∧ RSc B R cap ta w0 w' q 0 0 v ∧ Fr R none w w')) :
    Calls Tryd.prog 34 #[.pointer (some ⟨R, 0, none⟩)] w fun e w' => e = .returned (.int .i64 0) ∧ RSc B R cap ta w0 w' q 24 a v ∧ Fr R none w w' := by
  have c1 := h.rd.c1
  go_enter Tryd.func34, Tryd.ntmps34
  go_wp2_with (go_at_call 45; refine H.out.mono ?_; rintro e w1 ⟨rfl, hs1, hf1⟩; have c2 := hs1.rd.c2; have d1 := hs1.rd.c1; have d0 := hs1.rd.c0)
  go_quiet (fail)
  go_wp2_with (go_at_call 18; refine (no_good (hs1.drewN nq) a 24).mono ?_; rintro e w2 ⟨rfl, hs2, hf2⟩)
  go_ret
  exact ⟨rfl, hs2, (hf1.drewN nq).trans0 hf2⟩
/-- What is wanted behind a first half lacks. -/
def NoNext (B : List UInt8) (q : Nat) : Prop := B.length ≤ q + 1 ∨ (q + 1 < B.length ∧ byteAt B q ≠ 92) ∨ (q + 1 < B.length ∧ byteAt B q = 92 ∧ byteAt B (q + 1) ≠ 117)
theorem escaped_cases (B : List UInt8) (q : Nat) : (escapedB B q = false ∧ NoNext B q) ∨ (escapedB B q = true ∧ q + 1 < B.length ∧ byteAt B q = 92 ∧ byteAt B (q + 1) = 117) := by
  unfold escapedB NoNext
  by_cases h1 : q + 1 < B.length
  · by_cases h2 : byteAt B q = 92
    · by_cases h3 : byteAt B (q + 1) = 117
      · exact .inr (by simp [h1, h2, h3])
      · exact .inl ⟨by simp [h3], .inr (.inr ⟨h1, h2, h3⟩)⟩
    · exact .inl ⟨by simp [h2], .inr (.inl ⟨h1, h2⟩)⟩
  · exact .inl ⟨by simp [h1], .inl (by omega)⟩
set_option maxRecDepth 100000 in
set_option maxHeartbeats 1600000 in
/-- A first half alone. -/
theorem escape_alone (E : REnv B R cap ta w0) (h : RSc B R cap ta w0 w a 0 0 v) (X : Int) (q : Nat) (h1 : ¬ X < 55296) (h2 : ¬ 57343 < X) (h3 : ¬ 56319 < X) (hn : NoNext B q) (hqB : q ≤ B.length)
    (H : Hid (Calls Tryd.prog 45 #[.pointer (some ⟨R, 0, none⟩), .int .i64 a] w fun e w' => e = .returned (.int .i64 X) ∧ RSc B R cap ta w0 w' q 0 0 v ∧ Fr R none w w')) :
    Calls Tryd.prog 34 #[.pointer (some ⟨R, 0, none⟩)] w fun e w' => e = .returned (.int .i64 0) ∧ RSc B R cap ta w0 w' q 24 a v ∧ Fr R none w w' := by
  have c1 := h.rd.c1
  have hl := E.len
  have HE : Hid (REnv B R cap ta w0) := E
  clear E
  have g3 : decide (56319 < X) = false := by simpa using h3
  rcases hn with hn | ⟨hn1, hn2⟩ | ⟨hn1, hn2, hn3⟩
  · have k1 : (B.length : Int) ≤ (q : Int) + 1 := by omega
    clear hn
    go_enter Tryd.func34, Tryd.ntmps34
    go_wp2_with (go_at_call 45; refine H.out.mono ?_; rintro e w1 ⟨rfl, hs1, hf1⟩; have c2 := hs1.rd.c2; have d1 := hs1.rd.c1; have d0 := hs1.rd.c0)
    go_quiet (fail)
    go_wp2_with (go_at_call 18; refine (no_good (hs1.drewN nq) a 24).mono ?_; rintro e w2 ⟨rfl, hs2, hf2⟩)
    go_ret
    exact ⟨rfl, hs2, (hf1.drewN nq).trans0 hf2⟩
  · have k1 : decide ((B.length : Int) ≤ (q : Int) + 1) = false := by simp; omega
    have k2 : ((byteAt B q : Int) != 92) = true := by simp only [bne_iff_ne, ne_eq]; omega
    have k4 : (q : Int) < (B.length : Int) := by omega
    have HB : Hid (q < B.length) := by show q < B.length; omega
    clear hn1 hn2
    go_enter Tryd.func34, Tryd.ntmps34
    go_wp2_with (go_at_call 45; refine H.out.mono ?_; rintro e w1 ⟨rfl, hs1, hf1⟩; have c2 := hs1.rd.c2; have d1 := hs1.rd.c1; have d0 := hs1.rd.c0; obtain ⟨y, rfl, cb⟩ := hs1.byte HE.out q HB.out)
    go_quiet (fail)
    go_wp2_with (go_at_call 18; refine (no_good (hs1.drewN nq) a 24).mono ?_; rintro e w2 ⟨rfl, hs2, hf2⟩)
    go_ret
    exact ⟨rfl, hs2, (hf1.drewN nq).trans0 hf2⟩
  · have k1 : decide ((B.length : Int) ≤ (q : Int) + 1) = false := by simp; omega
    have k2 : ((byteAt B q : Int) != 92) = false := by simp only [bne_eq_false_iff_eq]; omega
    have k4 : (q : Int) < (B.length : Int) := by omega
    have k5 : (q : Int) + 1 < (B.length : Int) := by omega
    have k8 : IntKind.i64.wrap ((q : Int) + 1) = (q : Int) + 1 := by rw [IntKind.wrap]; simp [IntKind.signed, IntKind.bits]; omega
    have k7 : (0 : Int) ≤ (q : Int) + 1 := by omega
    obtain ⟨m, hm⟩ : ∃ m, q + 1 = m := ⟨_, rfl⟩
    have k6 : ((q : Int) + 1).toNat = m := by omega
    rw [hm] at hn1 hn3
    have k3 : ((byteAt B m : Int) != 117) = true := by simp only [bne_iff_ne, ne_eq]; omega
    have HB : Hid (q < B.length ∧ m < B.length) := by show q < B.length ∧ m < B.length; omega
    clear hn1 hn2 hn3 hm
    go_enter Tryd.func34, Tryd.ntmps34
    go_wp2_with (go_at_call 45; refine H.out.mono ?_; rintro e w1 ⟨rfl, hs1, hf1⟩; have c2 := hs1.rd.c2; have d1 := hs1.rd.c1; have d0 := hs1.rd.c0; obtain ⟨y, rfl, cb⟩ := hs1.byte HE.out q HB.out.1; obtain ⟨y2, hy2, cb2⟩ := hs1.byte HE.out m HB.out.2; cases hy2)
    go_quiet (fail)
    go_wp2_with (go_at_call 18; refine (no_good (hs1.drewN nq) a 24).mono ?_; rintro e w2 ⟨rfl, hs2, hf2⟩)
    go_ret
    exact ⟨rfl, hs2, (hf1.drewN nq).trans0 hf2⟩
set_option maxRecDepth 100000 in
set_option maxHeartbeats 1600000 in
/-- Two halves: the second one is read. -/
theorem escape_two (E : REnv B R cap ta w0) (h : RSc B R cap ta w0 w a 0 0 v) (X : Int) (q : Nat) (h1 : ¬ X < 55296) (h2 : ¬ 57343 < X) (h3 : ¬ 56319 < X) (hn1 : q + 1 < B.length) (hn2 : byteAt B q = 92) (hn3 : byteAt B (q + 1) = 117)
    (H : Hid (Calls Tryd.prog 45 #[.pointer (some ⟨R, 0, none⟩), .int .i64 a] w fun e w' => e = .returned (.int .i64 X) ∧ RSc B R cap ta w0 w' q 0 0 v ∧ Fr R none w w')) (Y : Int) (hY : 0 ≤ Y ∧ Y ≤ 65535) (Pq : Nat → Prop) (c2' p2 : Nat)
    (H2 : Hid (∀ w1, RSc B R cap ta w0 w1 q 0 0 v → Calls Tryd.prog 45 #[.pointer (some ⟨R, 0, none⟩), .int .i64 a] w1 fun e w' => e = .returned (.int .i64 Y) ∧ ∃ q2, Pq q2 ∧ RSc B R cap ta w0 w' q2 c2' p2 v ∧ Fr R none w1 w')) :
    Calls Tryd.prog 34 #[.pointer (some ⟨R, 0, none⟩)] w fun e w' => e = .returned (.int .i64 (65536 + (X - 55296) * 1024 + Y - 56320)) ∧ ∃ q2, Pq q2 ∧ RSc B R cap ta w0 w' q2 (if c2' = 0 ∧ (Y < 56320 ∨ 57343 < Y) then 24 else c2') (if c2' = 0 ∧ (Y < 56320 ∨ 57343 < Y) then a else p2) v ∧ Fr R none w w' := by
  have c1 := h.rd.c1
  have hl := E.len
  have HE : Hid (REnv B R cap ta w0) := E
  clear E
  have g3 : decide (56319 < X) = false := by simpa using h3
  have k1 : decide ((B.length : Int) ≤ (q : Int) + 1) = false := by simp; omega
  have k2 : ((byteAt B q : Int) != 92) = false := by simp only [bne_eq_false_iff_eq]; omega
  have k4 : (q : Int) < (B.length : Int) := by omega
  have k5 : (q : Int) + 1 < (B.length : Int) := by omega
  have k8 : IntKind.i64.wrap ((q : Int) + 1) = (q : Int) + 1 := by rw [IntKind.wrap]; simp [IntKind.signed, IntKind.bits]; omega
  have k7 : (0 : Int) ≤ (q : Int) + 1 := by omega
  obtain ⟨m, hm⟩ : ∃ m, q + 1 = m := ⟨_, rfl⟩
  have k6 : ((q : Int) + 1).toNat = m := by omega
  rw [hm] at hn1 hn3
  have k3 : ((byteAt B m : Int) != 117) = false := by simp only [bne_eq_false_iff_eq]; omega
  have HB : Hid (q < B.length ∧ m < B.length) := by show q < B.length ∧ m < B.length; omega
  have y0 := hY.1
  have y1 := hY.2
  clear hn1 hn2 hn3 hm hY
  by_cases hc : c2' = 0
  · subst hc
    by_cases hy : Y < 56320 ∨ 57343 < Y
    · rw [if_pos ⟨rfl, hy⟩, if_pos ⟨rfl, hy⟩]
      rcases hy with hy | hy
      all_goals
        first | (have hy2 : ¬ Y < 56320 := by omega) | skip
        go_enter Tryd.func34, Tryd.ntmps34
        go_wp2_with (go_at_call 45; refine H.out.mono ?_; rintro e w1 ⟨rfl, hs1, hf1⟩; have c2 := hs1.rd.c2; have d1 := hs1.rd.c1; have d0 := hs1.rd.c0; obtain ⟨y, rfl, cb⟩ := hs1.byte HE.out q HB.out.1; obtain ⟨y2, hy2, cb2⟩ := hs1.byte HE.out m HB.out.2; cases hy2)
        go_quiet (fail)
        go_wp2_with (first | (go_at_call 18; refine (no_good hs2 a 24).mono ?_; rintro e w3 ⟨rfl, hs3, hf3⟩) | (go_at_call 45; refine (H2.out _ (hs1.drewN nq)).mono ?_; rintro e w2 ⟨rfl, q2, hq2, hs2, hf2⟩; have e2 := hs2.rd.c2))
        go_ret
        exact ⟨rfl, q2, hq2, hs3, ((hf1.drewN nq).trans0 hf2).trans0 hf3⟩
    · rw [if_neg (fun h => hy h.2), if_neg (fun h => hy h.2)]
      have hy1 : ¬ Y < 56320 := by omega
      have hy2 : ¬ 57343 < Y := by omega
      clear hy
      go_enter Tryd.func34, Tryd.ntmps34
      go_wp2_with (go_at_call 45; refine H.out.mono ?_; rintro e w1 ⟨rfl, hs1, hf1⟩; have c2 := hs1.rd.c2; have d1 := hs1.rd.c1; have d0 := hs1.rd.c0; obtain ⟨y, rfl, cb⟩ := hs1.byte HE.out q HB.out.1; obtain ⟨y2, hy2, cb2⟩ := hs1.byte HE.out m HB.out.2; cases hy2)
      go_quiet (fail)
      go_wp2_with (go_at_call 45; refine (H2.out _ (hs1.drewN nq)).mono ?_; rintro e w2 ⟨rfl, q2, hq2, hs2, hf2⟩; have e2 := hs2.rd.c2)
      go_ret
      exact ⟨rfl, q2, hq2, hs2, (hf1.drewN nq).trans0 hf2⟩
  · rw [if_neg (fun h => hc h.1), if_neg (fun h => hc h.1)]
    have hc' : ((c2' : Int) == 0) = false := by simpa using hc
    clear hc
    go_enter Tryd.func34, Tryd.ntmps34
    go_wp2_with (go_at_call 45; refine H.out.mono ?_; rintro e w1 ⟨rfl, hs1, hf1⟩; have c2 := hs1.rd.c2; have d1 := hs1.rd.c1; have d0 := hs1.rd.c0; obtain ⟨y, rfl, cb⟩ := hs1.byte HE.out q HB.out.1; obtain ⟨y2, hy2, cb2⟩ := hs1.byte HE.out m HB.out.2; cases hy2)
    go_quiet (fail)
    go_wp2_with (go_at_call 45; refine (H2.out _ (hs1.drewN nq)).mono ?_; rintro e w2 ⟨rfl, q2, hq2, hs2, hf2⟩; have e2 := hs2.rd.c2)
    go_ret
    exact ⟨rfl, q2, hq2, hs2, (hf1.drewN nq).trans0 hf2⟩
end
end Go.Proofs.YtkpfiopgnobcdaaDoor
