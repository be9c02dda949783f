/-
  What the next and word of the document's reader do.
-/
import Derived.Test.YtkpfiopgnobcdaaDoorRefA
namespace Go.Proofs.YtkpfiopgnobcdaaDoor
open Go.RowKit

/-- How a call ends that answers a byte, or -1. -/
def DoneH (B : List UInt8) (R cap : Nat) (ta : Option Addr) (w0 w : World) (v : Value) : Res Nat → Ending → World → Prop
  | .ok x q, e, w' => e = .returned (.int .i64 x) ∧ RSc B R cap ta w0 w' q 0 0 v ∧ Fr R none w w'
  | .bad x c, e, w' => e = .returned (.int .i64 (-1)) ∧ ∃ q, q ≤ B.length ∧ RSc B R cap ta w0 w' q c x v ∧ Fr R none w w'
/-- How a call ends otherwise: behind a fault it answers whatever, at most n places behind the text. -/
def DoneB {α : Type} (B : List UInt8) (R cap : Nat) (ta : Option Addr) (w0 w : World) (v : Value) (n : Nat) (val : α → Value) : Res α → Ending → World → Prop
  | .ok x q, e, w' => e = .returned (val x) ∧ RSc B R cap ta w0 w' q 0 0 v ∧ Fr R none w w'
  | .bad x c, e, w' => ∃ u q, e = .returned u ∧ q ≤ B.length + n ∧ RSc B R cap ta w0 w' q c x v ∧ Fr R none w w'
section
variable {B : List UInt8} {R cap : Nat} {ta : Option Addr} {w0 w w' : World} {a b p : Nat} {v : Value}
theorem okH {f : FuncId} {args : Array Value} {M : Res Nat} {x a1 : Nat} (H : Calls Tryd.prog f args w (DoneH B R cap ta w0 w v M)) (h : M = .ok x a1) :
    Calls Tryd.prog f args w fun e w' => e = .returned (.int .i64 x) ∧ RSc B R cap ta w0 w' a1 0 0 v ∧ Fr R none w w' := by
  subst h; exact H
theorem badH {f : FuncId} {args : Array Value} {M : Res Nat} {x c : Nat} (H : Calls Tryd.prog f args w (DoneH B R cap ta w0 w v M)) (h : M = .bad x c) :
    Calls Tryd.prog f args w fun e w' => e = .returned (.int .i64 (-1)) ∧ ∃ q, q ≤ B.length ∧ RSc B R cap ta w0 w' q c x v ∧ Fr R none w w' := by
  subst h; exact H
theorem okB {α : Type} {n : Nat} {val : α → Value} {f : FuncId} {args : Array Value} {M : Res α} {x : α} {a1 : Nat} (H : Calls Tryd.prog f args w (DoneB B R cap ta w0 w v n val M)) (h : M = .ok x a1) :
    Calls Tryd.prog f args w fun e w' => e = .returned (val x) ∧ RSc B R cap ta w0 w' a1 0 0 v ∧ Fr R none w w' := by
  subst h; exact H
theorem badB {α : Type} {n : Nat} {val : α → Value} {f : FuncId} {args : Array Value} {M : Res α} {x c : Nat} (H : Calls Tryd.prog f args w (DoneB B R cap ta w0 w v n val M)) (h : M = .bad x c) :
    Calls Tryd.prog f args w fun e w' => ∃ u q, e = .returned u ∧ q ≤ B.length + n ∧ RSc B R cap ta w0 w' q c x v ∧ Fr R none w w' := by
  subst h; exact H
theorem here_good (E : REnv B R cap ta w0) (h : RSc B R cap ta w0 w a 0 0 v) (ha : a ≤ B.length) : Calls Tryd.prog 32 #[.pointer (some ⟨R, 0, none⟩)] w (DoneH B R cap ta w0 w v (peekM B a)) := by
  unfold peekM
  by_cases hlt : a < B.length
  · rw [if_pos hlt]; exact here_ok E h hlt
  · rw [if_neg hlt]
    refine (here_end E h hlt).mono ?_
    rintro e w' ⟨rfl, hs, hf⟩
    have : a = B.length := by omega
    subst this
    exact ⟨rfl, B.length, Nat.le_refl _, hs, hf⟩
set_option maxHeartbeats 800000 in
theorem next_good (E : REnv B R cap ta w0) (h : RSc B R cap ta w0 w a 0 0 v) (ha : a ≤ B.length) : Calls Tryd.prog 23 #[.pointer (some ⟨R, 0, none⟩)] w (DoneH B R cap ta w0 w v (aheadM B a)) := by
  have HE : Hid (REnv B R cap ta w0) := E
  have HS : Hid (skip B a ≤ B.length) := (pl_skip_le B a ha).2
  clear E
  unfold aheadM
  cases hM : peekM B (skip B a) with
  | ok x q =>
    go_enter Tryd.func23, Tryd.ntmps23
    go_wp2_with (first | (go_at_call 17; refine (gap_any HE.out h).mono ?_; rintro e w1 ⟨rfl, hs1, hf1⟩) | (go_at_call 32; refine (okH (here_good HE.out hs1 HS.out) hM).mono ?_; rintro e w2 ⟨rfl, hs2, hf2⟩))
    go_ret
    exact ⟨rfl, hs2, hf1.trans0 hf2⟩
  | bad x c =>
    go_enter Tryd.func23, Tryd.ntmps23
    go_wp2_with (first | (go_at_call 17; refine (gap_any HE.out h).mono ?_; rintro e w1 ⟨rfl, hs1, hf1⟩) | (go_at_call 32; refine (badH (here_good HE.out hs1 HS.out) hM).mono ?_; rintro e w2 ⟨rfl, q, hq, hs2, hf2⟩))
    go_ret
    exact ⟨rfl, q, hq, hs2, hf1.trans0 hf2⟩
set_option maxHeartbeats 800000 in
theorem next_bad (E : REnv B R cap ta w0) (h : RSc B R cap ta w0 w a b p v) (hb : b ≠ 0) : Calls Tryd.prog 23 #[.pointer (some ⟨R, 0, none⟩)] w fun e w' => e = .returned (.int .i64 (-1)) ∧ RSc B R cap ta w0 w' (skip B a) b p v ∧ Fr R none w w' := by
  have HE : Hid (REnv B R cap ta w0) := E
  clear E
  go_enter Tryd.func23, Tryd.ntmps23
  go_wp2_with (first | (go_at_call 17; refine (gap_any HE.out h).mono ?_; rintro e w1 ⟨rfl, hs1, hf1⟩) | (go_at_call 32; refine (here_bad hs1 hb).mono ?_; rintro e w2 ⟨rfl, rfl⟩))
  go_ret
  exact ⟨rfl, hs1, hf1⟩
theorem skip_far {n : Nat} (ha : a ≤ B.length + n) : skip B a ≤ B.length + n := by
  by_cases h : a ≤ B.length
  · have := (pl_skip_le B a h).2; omega
  · rw [skip, run_no _ _ _ (fun h => by omega)]; exact ha
set_option maxHeartbeats 1600000 in
theorem rword_good (E : REnv B R cap ta w0) (h : RSc B R cap ta w0 w a 0 0 v) (ha : a ≤ B.length) (s : ByteArray) (hsz : s.size ≤ 100) : Calls Tryd.prog 24 #[.pointer (some ⟨R, 0, none⟩), .string s] w (DoneB B R cap ta w0 w v 0 unitv (wordM B s.data.toList a)) := by
  have hl := E.len
  have HE : Hid (REnv B R cap ta w0) := E
  clear E
  go_enter Tryd.func24, Tryd.ntmps24
  go_wp2
  go_loopw [4] (fun i wr => ∃ k : Nat, ∃ q : Nat, k ≤ s.size ∧ q ≤ B.length ∧ i = .int .i64 k ∧ wordM B (s.data.toList.drop k) q = wordM B s.data.toList a ∧ RSc B R cap ta w0 wr q 0 0 v ∧ Fr R none w wr) (fun i _ => s.size - (intOf i).toNat)
  case atStart => exact ⟨0, a, Nat.zero_le _, ha, rfl, rfl, h, Fr.refl _ _ _⟩
  case round =>
    obtain ⟨k, q, hk, hqB, rfl, hw, hs, hf⟩ := hrel
    have HW : Hid (wordM B (s.data.toList.drop k) q = wordM B s.data.toList a) := hw
    clear hw
    by_cases hlt : k < s.size
    · have HD : Hid (wordM B (s.data.toList.drop k) q = (wantM B (s[k]).toNat q).andThen fun _ a' => wordM B (s.data.toList.drop (k + 1)) a') := by
        show _ = _; rw [drop_at s k hlt]; rfl
      by_cases hq : q < B.length
      · have hbq := byteAt_lt B q
        have hsk : (s[k]).toNat < 256 := UInt8.toNat_lt _
        by_cases he : byteAt B q = (s[k]).toNat
        · have HN : Hid (wordM B (s.data.toList.drop (k + 1)) (q + 1) = wordM B s.data.toList a) := by show _ = _; rw [← HW.out, HD.out, wantM, if_pos hq, if_pos he]; rfl
          have he' : (((s[k]).toNat : Int) != ((s[k]).toNat : Int)) = false := by simp
          go_wp2_with (go_at_call 32; refine (here_ok HE.out hs hq).mono ?_; rintro e w1 ⟨rfl, hs1, hf1⟩; rw [he]; have c1 := hs1.rd.c1; have f1 := hs1.rd.f 1)
          go_roundw
          case rel => exact ⟨k + 1, q + 1, by omega, by omega, by go_num, HN.out, hs1.stepZ (by go_num) (by omega), (hf.trans0 hf1).setR _ _⟩
          case measure => simp [intOf]; omega
        · have HN : Hid (wordM B s.data.toList a = .bad q 22) := by show _ = _; rw [← HW.out, HD.out, wantM, if_pos hq, if_neg he]; rfl
          have he' : ((byteAt B q : Int) != ((s[k]).toNat : Int)) = true := by simp only [bne_iff_ne, ne_eq]; omega
          go_wp2_with (first | (go_at_call 32; refine (here_ok HE.out hs hq).mono ?_; rintro e w1 ⟨rfl, hs1, hf1⟩; have c1 := hs1.rd.c1) | (go_at_call 18; refine (no_good hs1 q 22).mono ?_; rintro e w2 ⟨rfl, hs2, hf2⟩))
          go_end0
          rw [HN.out]
          exact ⟨_, q, rfl, by omega, hs2, (hf.trans0 hf1).trans0 hf2⟩
      · have HN : Hid (wordM B s.data.toList a = .bad q 21) := by show _ = _; rw [← HW.out, HD.out, wantM, if_neg hq]; rfl
        obtain rfl : q = B.length := by omega
        go_wp2_with (go_at_call 32; refine (here_end HE.out hs hq).mono ?_; rintro e w1 ⟨rfl, hs1, hf1⟩)
        go_end0
        rw [HN.out]
        exact ⟨_, B.length, rfl, by omega, hs1, hf.trans0 hf1⟩
    · have HN : Hid (wordM B s.data.toList a = .ok () q) := by
        show _ = _; rw [← HW.out, List.drop_eq_nil_of_le (by simp; omega)]; rfl
      go_wp2
      go_end0
      rw [HN.out]
      exact ⟨rfl, hs, hf⟩
end
end Go.Proofs.YtkpfiopgnobcdaaDoor
