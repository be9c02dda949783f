/-
  What the calls of the reader's ahead, want, word, number do.
-/
import Derived.Test.YtpffhckimilppaaDoorJModel
import Derived.Test.YtpffhckimilppaaDoorJNum
namespace Go.Proofs.YtpffhckimilppaaDoor.Js
open Go.RowKit

/-- How a call of the reader ends that puts no value. -/
def DoneS {α : Type} (B : List UInt8) (R tb toff cap : Nat) (w0 w : World) (d : Nat) (v : Value) (val : α → Value) : Res α → Ending → World → Prop
  | .ok x a, e, w' => e = .returned (val x) ∧ Sc B R tb toff cap w0 w' a d v ∧ Fr R none w w'
  | .bad a c, e, w' => e = .panicked (flt a c) ∧ Fr R none w w'
def u8v (c : Nat) : Value := .int .u8 c
def unitv (_ : Unit) : Value := .tuple #[]
def i64v (z : Int) : Value := .int .i64 z
def runev (n : Nat) : Value := .int .i32 n
def strv (s : List UInt8) : Value := .string ⟨s.toArray⟩

section
variable {B : List UInt8} {R tb toff cap : Nat} {w0 w : World} {a d : Nat} {v : Value}
theorem okS {α : Type} {val : α → Value} {f : FuncId} {args : Array Value} {M : Res α} {x : α} {a1 : Nat} (H : Calls Tryd.prog f args w (DoneS B R tb toff cap w0 w d v val M)) (h : M = .ok x a1) :
    Calls Tryd.prog f args w fun e w' => e = .returned (val x) ∧ Sc B R tb toff cap w0 w' a1 d v ∧ Fr R none w w' := by
  subst h; exact H
theorem badS {α : Type} {val : α → Value} {f : FuncId} {args : Array Value} {M : Res α} {c a1 : Nat} (H : Calls Tryd.prog f args w (DoneS B R tb toff cap w0 w d v val M)) (h : M = .bad a1 c) :
    Calls Tryd.prog f args w fun e w' => e = .panicked (flt a1 c) ∧ Fr R none w w' := by
  subst h; exact H

theorem peek_any (E : Env B R tb toff cap w0) (h : Sc B R tb toff cap w0 w a d v) :
    Calls Tryd.prog 55 #[.pointer (some ⟨R, 0, none⟩)] w (DoneS B R tb toff cap w0 w d v u8v (peekM B a)) := by
  unfold peekM
  by_cases hlt : a < B.length
  · rw [if_pos hlt]
    refine (peek_ok E h hlt).mono ?_
    rintro e w' ⟨rfl, n, rfl⟩
    exact ⟨rfl, h.drewN n, (Fr.refl _ _ _).drewN n⟩
  · rw [if_neg hlt]
    refine (peek_end E h hlt).mono ?_
    rintro e w' ⟨rfl, n, rfl⟩
    exact ⟨rfl, (Fr.refl _ _ _).drewN n⟩

set_option maxHeartbeats 400000 in
theorem ahead_any (E : Env B R tb toff cap w0) (h : Sc B R tb toff cap w0 w a d v) :
    Calls Tryd.prog 50 #[.pointer (some ⟨R, 0, none⟩)] w (DoneS B R tb toff cap w0 w d v u8v (aheadM B a)) := by
  unfold aheadM
  have HE : Hid (Env B R tb toff cap w0) := E
  clear E
  cases hM : peekM B (skip B a) with
  | ok x a1 =>
    go_enter Tryd.func50, Tryd.ntmps50
    go_wp2_with (first | (go_at_call 42; refine (blanks_any HE.out h).mono ?_; rintro e w1 ⟨rfl, hs1, hf1⟩) | (go_at_call 55; refine (okS (peek_any HE.out hs1) hM).mono ?_; rintro e w2 ⟨rfl, hs2, hf2⟩))
    go_ret
    exact ⟨rfl, hs2, hf1.trans0 hf2⟩
  | bad a1 c =>
    go_enter Tryd.func50, Tryd.ntmps50
    go_wp2_with (first | (go_at_call 42; refine (blanks_any HE.out h).mono ?_; rintro e w1 ⟨rfl, hs1, hf1⟩) | (go_at_call 55; refine (badS (peek_any HE.out hs1) hM).mono ?_; rintro e w2 ⟨rfl, hf2⟩))
    exact ⟨rfl, rfl, hf1.trans0 hf2⟩

set_option maxHeartbeats 800000 in
theorem want_any (E : Env B R tb toff cap w0) (h : Sc B R tb toff cap w0 w a d v) (c : Nat) :
    Calls Tryd.prog 63 #[.pointer (some ⟨R, 0, none⟩), .int .u8 c] w (DoneS B R tb toff cap w0 w d v unitv (wantM B c a)) := by
  unfold wantM
  have hl := E.len
  by_cases hlt : a < B.length
  · rw [if_pos hlt]
    by_cases hc : byteAt B a = c
    · rw [if_pos hc]
      have c1 := h.rd.c1; have f1 := h.rd.f 1
      have hc' : ((byteAt B a : Int) == (c : Int)) = true := by simp; omega
      clear hc
      go_enter Tryd.func63, Tryd.ntmps63
      go_wp2_with (go_at_call 55; refine (peek_ok E h hlt).mono ?_; rintro e w1 ⟨rfl, n, rfl⟩)
      go_end0
      exact ⟨rfl, (h.drewN n).stepZ (by omega) (by omega), ((Fr.refl _ _ _).drewN n).setR _ _⟩
    · rw [if_neg hc]
      have c1 := h.rd.c1; have f1 := h.rd.f 1
      have hc' : ((byteAt B a : Int) == (c : Int)) = false := by simp; omega
      clear hc
      go_enter Tryd.func63, Tryd.ntmps63
      go_wp2_with (first | (go_at_call 55; refine (peek_ok E h hlt).mono ?_; rintro e w1 ⟨rfl, n, rfl⟩) | (go_at_call 43; refine (fail_any _ _ _).mono ?_; rintro e w' ⟨rfl, rfl⟩))
      exact ⟨rfl, rfl, (Fr.refl _ _ _).drewN n⟩
  · rw [if_neg hlt]
    go_enter Tryd.func63, Tryd.ntmps63
    go_wp2_with (go_at_call 55; refine (peek_end E h hlt).mono ?_; rintro e w1 ⟨rfl, n, rfl⟩)
    exact ⟨rfl, rfl, (Fr.refl _ _ _).drewN n⟩

theorem drop_at (s : ByteArray) (k : Nat) (h : k < s.size) : s.data.toList.drop k = s[k] :: s.data.toList.drop (k + 1) := by
  rw [List.drop_eq_getElem_cons (by simpa using h)]; rfl

set_option maxHeartbeats 800000 in
theorem word_any (E : Env B R tb toff cap w0) (h : Sc B R tb toff cap w0 w a d v) (s : ByteArray) (hsz : s.size ≤ 100) :
    Calls Tryd.prog 56 #[.pointer (some ⟨R, 0, none⟩), .string s] w (DoneS B R tb toff cap w0 w d v unitv (wordM B s.data.toList a)) := by
  have HE : Hid (Env B R tb toff cap w0) := E
  clear E
  go_enter Tryd.func56, Tryd.ntmps56
  go_wp2
  go_loopw [7] (fun i wr => ∃ k : Nat, ∃ p : Nat, k ≤ s.size ∧ i = .int .i64 k ∧ wordM B (s.data.toList.drop k) p = wordM B s.data.toList a ∧ Sc B R tb toff cap w0 wr p d v ∧ Fr R none w wr) (fun i _ => s.size - (intOf i).toNat)
  case atStart => exact ⟨0, a, Nat.zero_le _, rfl, rfl, h, Fr.refl _ _ _⟩
  case round =>
    obtain ⟨k, p, hk, rfl, hw, hs, hf⟩ := hrel
    have HW : Hid (wordM B (s.data.toList.drop k) p = wordM B s.data.toList a) := hw
    clear hw
    by_cases hlt : k < s.size
    · have HD : Hid (wordM B (s.data.toList.drop k) p = (wantM B (s[k]).toNat p).andThen fun _ a' => wordM B (s.data.toList.drop (k + 1)) a') := by
        show _ = _; rw [drop_at s k hlt]; rfl
      cases hM : wantM B (s[k]).toNat p with
      | ok x a1 =>
        have HN : Hid (wordM B (s.data.toList.drop (k + 1)) a1 = wordM B s.data.toList a) := by show _ = _; rw [← HW.out, HD.out, hM]; rfl
        have HM : Hid (wantM B (s[k]).toNat p = .ok x a1) := hM
        clear hM
        go_wp2_with (go_at_call 63; refine (okS (want_any HE.out hs _) HM.out).mono ?_; rintro e w1 ⟨rfl, hs1, hf1⟩)
        go_roundw
        case rel => exact ⟨k + 1, a1, by omega, by go_num, HN.out, hs1, hf.trans0 hf1⟩
        case measure => simp [intOf]; omega
      | bad a1 c =>
        have HN : Hid (wordM B s.data.toList a = .bad a1 c) := by show _ = _; rw [← HW.out, HD.out, hM]; rfl
        have HM : Hid (wantM B (s[k]).toNat p = .bad a1 c) := hM
        clear hM
        go_wp2_with (go_at_call 63; refine (badS (want_any HE.out hs _) HM.out).mono ?_; rintro e w1 ⟨rfl, hf1⟩)
        refine ⟨rfl, ?_⟩
        rw [HN.out]
        exact ⟨rfl, hf.trans0 hf1⟩
    · have HN : Hid (wordM B s.data.toList a = .ok () p) := by
        show _ = _; rw [← HW.out, List.drop_eq_nil_of_le (by simp; omega)]; rfl
      go_wp2
      go_end0
      rw [HN.out]
      exact ⟨rfl, hs, hf⟩

set_option maxHeartbeats 800000 in
theorem numeral_any (c : Nat) (w : World) : Calls Tryd.prog 65 #[.int .u8 c] w fun e w' => e = .returned (.bool (numeralB c)) ∧ w' = w := by
  cases h0 : digN c
  · by_cases h1 : c = 45
    · subst h1; go_enter Tryd.func65, Tryd.ntmps65; go_wp2_with (go_at_call 58; refine (digit_any _ _).mono ?_; rintro e w' ⟨rfl, rfl⟩); go_ret; exact ⟨by simp [numeralB], rfl⟩
    by_cases h2 : c = 43
    · subst h2; go_enter Tryd.func65, Tryd.ntmps65; go_wp2_with (go_at_call 58; refine (digit_any _ _).mono ?_; rintro e w' ⟨rfl, rfl⟩); go_ret; exact ⟨by simp [numeralB], rfl⟩
    by_cases h3 : c = 46
    · subst h3; go_enter Tryd.func65, Tryd.ntmps65; go_wp2_with (go_at_call 58; refine (digit_any _ _).mono ?_; rintro e w' ⟨rfl, rfl⟩); go_ret; exact ⟨by simp [numeralB], rfl⟩
    by_cases h4 : c = 101
    · subst h4; go_enter Tryd.func65, Tryd.ntmps65; go_wp2_with (go_at_call 58; refine (digit_any _ _).mono ?_; rintro e w' ⟨rfl, rfl⟩); go_ret; exact ⟨by simp [numeralB], rfl⟩
    by_cases h5 : c = 69
    · subst h5; go_enter Tryd.func65, Tryd.ntmps65; go_wp2_with (go_at_call 58; refine (digit_any _ _).mono ?_; rintro e w' ⟨rfl, rfl⟩); go_ret; exact ⟨by simp [numeralB], rfl⟩
    have g1 : ((c : Int) == 45) = false := by simp; omega
    have g2 : ((c : Int) == 43) = false := by simp; omega
    have g3 : ((c : Int) == 46) = false := by simp; omega
    have g4 : ((c : Int) == 101) = false := by simp; omega
    have g5 : ((c : Int) == 69) = false := by simp; omega
    have HF : Hid (numeralB c = false) := by show _ = _; simp [numeralB, h0, h1, h2, h3, h4, h5]
    clear h1 h2 h3 h4 h5
    go_enter Tryd.func65, Tryd.ntmps65
    go_wp2_with (go_at_call 58; refine (digit_any _ _).mono ?_; rintro e w' ⟨rfl, rfl⟩)
    go_ret
    exact ⟨by rw [HF.out]; rfl, rfl⟩
  · have HF : Hid (numeralB c = true) := by show _ = _; simp [numeralB, h0]
    go_enter Tryd.func65, Tryd.ntmps65
    go_wp2_with (go_at_call 58; refine (digit_any _ _).mono ?_; rintro e w' ⟨rfl, rfl⟩)
    go_ret
    exact ⟨by rw [HF.out]; rfl, rfl⟩

theorem numTxt_at (B : List UInt8) (a : Nat) (h : a ≤ B.length) (j : Nat) (hj : j < (numTxt B a).length) : ((numTxt B a)[j]).toNat = byteAt B (a + j) := by
  have h2 : a + j < B.length := by
    have := run_le numeralB B a h
    unfold numTxt numEnd at hj; simp at hj; omega
  rw [byteAt_get B _ h2]
  simp only [numTxt, List.getElem_take, List.getElem_drop]

theorem numTxt_len (B : List UInt8) (a : Nat) (h : a ≤ B.length) : (numTxt B a).length = numEnd B a - a := by
  have := run_le numeralB B a h
  unfold numTxt numEnd
  simp; omega

set_option maxHeartbeats 1600000 in
theorem number_any (E : Env B R tb toff cap w0) (h : Sc B R tb toff cap w0 w a d v) (hlt0 : a < B.length) :
    Calls Tryd.prog 59 #[.pointer (some ⟨R, 0, none⟩)] w (DoneS B R tb toff cap w0 w d v i64v (numberM B a)) := by
  have hl := E.len
  have HE : Hid (Env B R tb toff cap w0) := E
  clear E
  have c1 := h.rd.c1
  go_enter Tryd.func59, Tryd.ntmps59
  go_wp2
  clear c1
  go_loopg [] (B.length - a) (fun k wr => ∃ i, i + k = B.length ∧ a ≤ i ∧ run numeralB B i = run numeralB B a ∧ Sc B R tb toff cap w0 wr i d v ∧ Fr R none w wr)
  case atStart => exact ⟨a, by have := h.at_le; omega, Nat.le_refl _, rfl, h, Fr.refl _ _ _⟩
  case round =>
    obtain ⟨i, hi, hai, hsk, hs, hf⟩ := hrel
    have HK : Hid (run numeralB B i = run numeralB B a) := hsk
    clear hsk
    have c0 := hs.rd.c0; have c1 := hs.rd.c1; have f1 := hs.rd.f 1
    by_cases hb : i < B.length ∧ numeralB (byteAt B i) = true
    · obtain ⟨hlt, hb⟩ := hb
      have cb := hs.byte HE.out i hlt
      have hlt' : (i : Int) < (B.length : Int) := by omega
      have HS : Hid (run numeralB B (i + 1) = run numeralB B a) := by show _ = _; rw [← HK.out]; exact (run_yes _ _ _ hlt hb).symm
      go_wp2
      go_quiet (first | (go_at_call 65; exact Calls.quiet_of_same (numeral_any _ _)))
      go_wp2
      go_roundg (gk - 1)
      case measure => omega
      case rel => exact ⟨i + 1, by omega, by omega, HS.out, (hs.drewN nq).stepZ (by omega) (by omega), (hf.drewN nq).setR _ _⟩
    · have HS : Hid (numEnd B a = i) := by
        show _ = _; unfold numEnd; rw [← HK.out]; exact run_no _ _ _ (fun h => by simpa [h] using hb)
      have hln := numTxt_len B a (by omega)
      rw [HS.out] at hln
      obtain ⟨l, hlt⟩ : ∃ l, Hid (numTxt B a = l) := ⟨_, rfl⟩
      have hll : l.length = i - a := by rw [← hlt.out]; exact hln
      have hconv : ∀ n, (convert 30 9 (.slice (some ⟨tb, toff + a, none⟩) (i - a) (cap - a))).run Tryd.prog (wr.drewN n) = .ok (.string ⟨l.toArray⟩) (wr.drewN n) := by
        intro n
        rw [← hll]
        refine run_convert_bytes_back (P := Tryd.prog) (wr.drewN n) 30 9 5 ⟨tb, toff + a, none⟩ (cap - a) l Tryd.underlying30 Tryd.underlying5 Tryd.underlying9 ?_
        intro j hj
        have h1 := (hs.drewN n).byte HE.out (a + j) (by have := hs.at_le; omega)
        have h2 := numTxt_at B a (by omega) j (by rw [hlt.out]; exact hj)
        have h3 : (⟨tb, toff + a, none⟩ : Addr).add j = ⟨tb, toff + (a + j), none⟩ := by unfold Addr.add; split <;> simp_all [Nat.add_assoc]
        rw [h3, h1]
        simp only [hlt.out] at h2
        rw [h2]
      clear hln
      have HP : Hid (∀ w, Calls Tryd.prog 66 #[.string ⟨l.toArray⟩] w fun e w' => e = .returned (.tuple #[.int .i64 (parV l), .int .i64 (parE l)]) ∧ w' = w) := by
        intro w
        have hz : (⟨l.toArray⟩ : ByteArray).size = l.length := by simp [ByteArray.size]
        exact nparse_any ⟨l.toArray⟩ w (by unfold maxLen; rw [hz]; omega)
      have HL : Hid (numTxt B a = l) := hlt
      clear hlt
      have hcg := HE.out.cap_ge; have hcl := HE.out.cap_le
      have hic : i ≤ cap := by have := hs.at_le; omega
      have hac : a ≤ cap := by omega
      have hca : ¬ cap = a := by omega
      by_cases hpe : parE l = 0
      · have HM : Hid (numberM B a = .ok (parV l) i) := by show _ = _; rw [numberM, HL.out, if_pos hpe, HS.out]
        by_cases hlt : i < B.length
        · have cb := hs.byte HE.out i hlt
          have hlt' : (i : Int) < (B.length : Int) := by omega
          have hbf : numeralB (byteAt B i) = false := by simpa [hlt] using hb
          clear hb
          go_wp2
          go_quiet (first | (go_at_call 65; exact Calls.quiet_of_same (numeral_any _ _)))
          go_wp2
          go_quiet (first | (go_at_call 66; refine (HP.out _).mono ?_; rintro e w' ⟨rfl, rfl⟩; exact ⟨rfl, _, rfl⟩))
          go_wp2
          go_ret
          rw [HM.out]
          exact ⟨rfl, hs.drewN _, hf.drewN _⟩
        · have hlt' : ¬ ((i : Int) < (B.length : Int)) := by omega
          clear hb
          go_wp2
          go_quiet (fail)
          go_wp2
          go_quiet (first | (go_at_call 66; refine (HP.out _).mono ?_; rintro e w' ⟨rfl, rfl⟩; exact ⟨rfl, _, rfl⟩))
          go_wp2
          go_ret
          rw [HM.out]
          exact ⟨rfl, hs.drewN _, hf.drewN _⟩
      · have HM : Hid (numberM B a = .bad a 25) := by show _ = _; rw [numberM, HL.out, if_neg hpe]
        by_cases hlt : i < B.length
        · have cb := hs.byte HE.out i hlt
          have hlt' : (i : Int) < (B.length : Int) := by omega
          have hbf : numeralB (byteAt B i) = false := by simpa [hlt] using hb
          clear hb
          go_wp2
          go_quiet (first | (go_at_call 65; exact Calls.quiet_of_same (numeral_any _ _)))
          go_wp2
          go_quiet (first | (go_at_call 66; refine (HP.out _).mono ?_; rintro e w' ⟨rfl, rfl⟩; exact ⟨rfl, _, rfl⟩))
          go_wp2_with (go_at_call 43; refine (fail_any _ _ _).mono ?_; rintro e w' ⟨rfl, rfl⟩)
          refine ⟨rfl, ?_⟩
          rw [HM.out]
          exact ⟨rfl, hf.drewN _⟩
        · have hlt' : ¬ ((i : Int) < (B.length : Int)) := by omega
          clear hb
          go_wp2
          go_quiet (fail)
          go_wp2
          go_quiet (first | (go_at_call 66; refine (HP.out _).mono ?_; rintro e w' ⟨rfl, rfl⟩; exact ⟨rfl, _, rfl⟩))
          go_wp2_with (go_at_call 43; refine (fail_any _ _ _).mono ?_; rintro e w' ⟨rfl, rfl⟩)
          refine ⟨rfl, ?_⟩
          rw [HM.out]
          exact ⟨rfl, hf.drewN _⟩
end
end Go.Proofs.YtpffhckimilppaaDoor.Js