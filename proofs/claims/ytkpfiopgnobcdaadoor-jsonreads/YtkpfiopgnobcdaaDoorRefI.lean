/-
  The document's reader of JSON: a number.
-/
import Derived.Test.YtkpfiopgnobcdaaDoorRefH
import Derived.Test.YtkpfiopgnobcdaaDoorWalkJ
namespace Go.Proofs.YtkpfiopgnobcdaaDoor
open Go.RowKit

theorem numeral_yes {c : Nat} (h : numeralB c = true) : (48 ≤ c ∧ c ≤ 57) ∨ c = 45 ∨ c = 43 ∨ c = 46 ∨ c = 101 ∨ c = 69 := by
  unfold numeralB digN at h; simp at h; omega
theorem numeral_no {c : Nat} (h : numeralB c = false) : (c < 48 ∨ 57 < c) ∧ c ≠ 45 ∧ c ≠ 43 ∧ c ≠ 46 ∧ c ≠ 101 ∧ c ≠ 69 := by
  unfold numeralB digN at h; simp at h; omega

section
variable {B : List UInt8} {R cap : Nat} {ta : Option Addr} {w0 w w' : World} {a b p : Nat} {v : Value}
set_option maxHeartbeats 3200000 in
theorem rnumber_good (E : REnv B R cap ta w0) (h : RSc B R cap ta w0 w a 0 0 v) (hlt0 : a < B.length) :
    Calls Tryd.prog 27 #[.pointer (some ⟨R, 0, none⟩)] w (DoneG B R cap ta w0 w v 0 i64v (numberM B a)) := by
  have hl := E.len
  have hcg := E.cap_ge; have hcl := E.cap_le
  obtain ⟨y, rfl, _⟩ := h.byte E a hlt0
  have HE : Hid (REnv B R cap (some y) w0) := E
  clear E
  have c1 := h.rd.c1
  go_enter Tryd.func27, Tryd.ntmps27
  go_wp2
  clear c1
  go_loopg [] (B.length - a) (fun k wr => ∃ i, i + k = B.length ∧ a ≤ i ∧ run numeralB B i = run numeralB B a ∧ RSc B R cap (some y) w0 wr i 0 0 v ∧ Fr R none w wr)
  case atStart => exact ⟨a, by omega, Nat.le_refl _, rfl, h, Fr.refl _ _ _⟩
  case round =>
    obtain ⟨i, hi, hai, hsk, hs, hf⟩ := hrel
    have HK : Hid (run numeralB B i = run numeralB B a) := hsk
    clear hsk
    have c0 := hs.rd.c0; have c1 := hs.rd.c1; have f1 := hs.rd.f 1
    by_cases hb : i < B.length ∧ numeralB (byteAt B i) = true
    · obtain ⟨hlt, hb⟩ := hb
      obtain ⟨_, e, cb⟩ := hs.byte HE.out i hlt
      cases e
      have hlt' : (i : Int) < (B.length : Int) := by omega
      have HS : Hid (run numeralB B (i + 1) = run numeralB B a) := by show _ = _; rw [← HK.out]; exact (run_yes _ _ _ hlt hb).symm
      rcases numeral_yes hb with e | e | e | e | e | e
      · obtain ⟨e1, e2⟩ := e
        have e1' : ¬ (byteAt B i : Int) < 48 := by omega
        have e2' : ¬ 57 < (byteAt B i : Int) := by omega
        clear hb
        go_wp2
        go_quiet (fail)
        go_wp2
        go_quiet (fail)
        go_wp2
        go_roundg (gk - 1)
        case measure => omega
        case rel => exact ⟨i + 1, by omega, by omega, HS.out, (hs.drewN _).stepZ (by omega) (by omega), (hf.drewN _).setR _ _⟩
      all_goals
        rw [e] at cb
        clear hb
        go_wp2
        go_quiet (fail)
        go_wp2
        go_quiet (fail)
        go_wp2
        go_roundg (gk - 1)
        case measure => omega
        case rel => exact ⟨i + 1, by omega, by omega, HS.out, (hs.drewN _).stepZ (by omega) (by omega), (hf.drewN _).setR _ _⟩
    · have HS : Hid (numEnd B a = i) := by
        show _ = _; unfold numEnd; rw [← HK.out]; exact run_no _ _ _ (fun h => by simpa [h] using hb)
      have hln := numTxt_len B a (by omega)
      rw [HS.out] at hln
      obtain ⟨l, hlt⟩ : ∃ l, Hid (numTxt B a = l) := ⟨_, rfl⟩
      have hll : l.length = i - a := by rw [← hlt.out]; exact hln
      have hconv : ∀ n, (convert 22 9 (.slice (some (y.add a)) (i - a) (cap - a))).run Tryd.prog (wr.drewN n) = .ok (.string ⟨l.toArray⟩) (wr.drewN n) := by
        intro n
        rw [← hll]
        refine run_convert_bytes_back (P := Tryd.prog) (wr.drewN n) 22 9 5 (y.add a) (cap - a) l Tryd.underlying22 Tryd.underlying5 Tryd.underlying9 ?_
        intro j hj
        obtain ⟨_, e, h1⟩ := (hs.drewN n).byte HE.out (a + j) (by omega)
        cases e
        have h2 := numTxt_at B a (by omega) j (by rw [hlt.out]; exact hj)
        rw [add_add, h1]
        simp only [hlt.out] at h2
        rw [h2]
      clear hln
      have HP : Hid (∀ w, Calls Tryd.prog 36 #[.string ⟨l.toArray⟩] w fun e w' => e = .returned (.tuple #[.int .i64 (parV l), .int .i64 (parE l)]) ∧ w' = w) := by
        intro w
        have hz : (⟨l.toArray⟩ : ByteArray).size = l.length := by simp [ByteArray.size]
        exact rparse_any ⟨l.toArray⟩ w (by unfold maxLen; rw [hz]; omega)
      have HL : Hid (numTxt B a = l) := hlt
      clear hlt
      have hic : i ≤ cap := by omega
      have hac : a ≤ cap := by omega
      have hca : ¬ cap = a := by omega
      have HB : Hid (¬ (i < B.length ∧ numeralB (byteAt B i) = true)) := hb
      clear hb
      by_cases hpe : parE l = 0
      · have HM : Hid (numberM B a = .ok (parV l) i) := by show _ = _; rw [numberM, HL.out, if_pos hpe, HS.out]
        by_cases hlt : i < B.length
        · obtain ⟨_, e, cb⟩ := hs.byte HE.out i hlt
          cases e
          have hlt' : (i : Int) < (B.length : Int) := by omega
          have hbf : numeralB (byteAt B i) = false := by have := HB.out; simpa [hlt] using this
          obtain ⟨h1, n1, n2, n3, n4, n5⟩ := numeral_no hbf
          have n1' : ((byteAt B i : Int) != 45) = true := by simp; omega
          have n2' : ((byteAt B i : Int) != 43) = true := by simp; omega
          have n3' : ((byteAt B i : Int) != 46) = true := by simp; omega
          have n4' : ((byteAt B i : Int) != 101) = true := by simp; omega
          have n5' : ((byteAt B i : Int) != 69) = true := by simp; omega
          clear hbf n1 n2 n3 n4 n5
          rcases h1 with h1 | h1
          · have h1' : (byteAt B i : Int) < 48 := by omega
            go_wp2
            go_quiet (fail)
            go_wp2
            go_quiet (fail)
            go_wp2
            go_quiet (first | (go_at_call 36; refine (HP.out _).mono ?_; rintro e w' ⟨rfl, rfl⟩; exact ⟨rfl, _, rfl⟩))
            go_wp2
            go_ret
            rw [HM.out]
            exact ⟨rfl, hs.drewN _, hf.drewN _⟩
          · have h1' : 57 < (byteAt B i : Int) := by omega
            have h1'' : ¬ (byteAt B i : Int) < 48 := by omega
            go_wp2
            go_quiet (fail)
            go_wp2
            go_quiet (fail)
            go_wp2
            go_quiet (first | (go_at_call 36; refine (HP.out _).mono ?_; rintro e w' ⟨rfl, rfl⟩; exact ⟨rfl, _, rfl⟩))
            go_wp2
            go_ret
            rw [HM.out]
            exact ⟨rfl, hs.drewN _, hf.drewN _⟩
        · have hlt' : ¬ ((i : Int) < (B.length : Int)) := by omega
          go_wp2
          go_quiet (fail)
          go_wp2
          go_quiet (first | (go_at_call 36; refine (HP.out _).mono ?_; rintro e w' ⟨rfl, rfl⟩; exact ⟨rfl, _, rfl⟩))
          go_wp2
          go_ret
          rw [HM.out]
          exact ⟨rfl, hs.drewN _, hf.drewN _⟩
      · have HM : Hid (numberM B a = .bad a 25) := by show _ = _; rw [numberM, HL.out, if_neg hpe]
        have HNG : Hid (∀ n, Calls Tryd.prog 18 #[.pointer (some ⟨R, 0, none⟩), .int .i64 a, .int .i64 25] (wr.drewN n) fun e w' => e = .returned (.tuple #[]) ∧ RSc B R cap (some y) w0 w' i 25 a v ∧ Fr R none (wr.drewN n) w') := fun n => no_good (hs.drewN n) a 25
        by_cases hlt : i < B.length
        · obtain ⟨_, e, cb⟩ := hs.byte HE.out i hlt
          cases e
          have hlt' : (i : Int) < (B.length : Int) := by omega
          have hbf : numeralB (byteAt B i) = false := by have := HB.out; simpa [hlt] using this
          obtain ⟨h1, n1, n2, n3, n4, n5⟩ := numeral_no hbf
          have n1' : ((byteAt B i : Int) != 45) = true := by simp; omega
          have n2' : ((byteAt B i : Int) != 43) = true := by simp; omega
          have n3' : ((byteAt B i : Int) != 46) = true := by simp; omega
          have n4' : ((byteAt B i : Int) != 101) = true := by simp; omega
          have n5' : ((byteAt B i : Int) != 69) = true := by simp; omega
          clear hbf n1 n2 n3 n4 n5
          rcases h1 with h1 | h1
          · have h1' : (byteAt B i : Int) < 48 := by omega
            go_wp2
            go_quiet (fail)
            go_wp2
            go_quiet (fail)
            go_wp2
            go_quiet (first | (go_at_call 36; refine (HP.out _).mono ?_; rintro e w' ⟨rfl, rfl⟩; exact ⟨rfl, _, rfl⟩))
            go_wp2_with (go_at_call 18; refine (HNG.out _).mono ?_; rintro e w2 ⟨rfl, hs2, hf2⟩)
            go_ret
            rw [HM.out]
            exact ⟨parV l, i, rfl, by omega, hs2, (hf.drewN _).trans0 hf2⟩
          · have h1' : 57 < (byteAt B i : Int) := by omega
            have h1'' : ¬ (byteAt B i : Int) < 48 := by omega
            go_wp2
            go_quiet (fail)
            go_wp2
            go_quiet (fail)
            go_wp2
            go_quiet (first | (go_at_call 36; refine (HP.out _).mono ?_; rintro e w' ⟨rfl, rfl⟩; exact ⟨rfl, _, rfl⟩))
            go_wp2_with (go_at_call 18; refine (HNG.out _).mono ?_; rintro e w2 ⟨rfl, hs2, hf2⟩)
            go_ret
            rw [HM.out]
            exact ⟨parV l, i, rfl, by omega, hs2, (hf.drewN _).trans0 hf2⟩
        · have hlt' : ¬ ((i : Int) < (B.length : Int)) := by omega
          go_wp2
          go_quiet (fail)
          go_wp2
          go_quiet (first | (go_at_call 36; refine (HP.out _).mono ?_; rintro e w' ⟨rfl, rfl⟩; exact ⟨rfl, _, rfl⟩))
          go_wp2_with (go_at_call 18; refine (HNG.out _).mono ?_; rintro e w2 ⟨rfl, hs2, hf2⟩)
          go_ret
          rw [HM.out]
          exact ⟨parV l, i, rfl, by omega, hs2, (hf.drewN _).trans0 hf2⟩
end
end Go.Proofs.YtkpfiopgnobcdaaDoor
