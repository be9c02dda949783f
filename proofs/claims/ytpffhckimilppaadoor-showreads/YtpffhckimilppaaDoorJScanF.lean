/-
  What the call of the reader's letter does.
-/
import Derived.Test.YtpffhckimilppaaDoorJScanE
namespace Go.Proofs.YtpffhckimilppaaDoor.Js
open Go.RowKit

theorem dec_bd (n b0 b1 b2 b3 : Nat) (hn : 1 ≤ n) (h0 : b0 < 256) : 1 ≤ (Lib.decodeN n b0 b1 b2 b3).2 ∧ (Lib.decodeN n b0 b1 b2 b3).2 ≤ n ∧ (Lib.decodeN n b0 b1 b2 b3).1 < 1114112 := by
  unfold Lib.decodeN
  repeat' split
  all_goals simp only
  all_goals refine ⟨by omega, by omega, by omega⟩

section
variable {B : List UInt8} {R tb toff cap : Nat} {w0 w : World} {a d : Nat} {v : Value}

theorem decAt_bd (hlt : a < B.length) : 1 ≤ (decAt B a).2 ∧ a + (decAt B a).2 ≤ B.length ∧ (decAt B a).1 < 1114112 := by
  have := dec_bd (B.length - a) (byteAt B a) (byteAt B (a + 1)) (byteAt B (a + 2)) (byteAt B (a + 3)) (by omega) (byteAt_lt _ _)
  unfold decAt
  omega

theorem byteAt_drop (B : List UInt8) (a j : Nat) : ((⟨(B.drop a).toArray⟩ : ByteArray).get! j).toNat = byteAt B (a + j) := by
  have h : (⟨(B.drop a).toArray⟩ : ByteArray).get! j = (B.drop a).toArray[j]! := rfl
  rw [h, byteAt]
  simp only [List.getElem!_toArray, List.getElem!_eq_getElem?_getD, List.getElem?_drop, List.getD_eq_getElem?_getD]
  rfl

theorem dec_call (E : Env B R tb toff cap w0) (hb : Below R w0 w) (hlt : a < B.length) :
    Calls Tryd.prog 76 #[.slice (some ⟨tb, toff + a, none⟩) (B.length - a) (cap - a)] w fun e w' => e = .returned (.tuple #[.int .i32 (decAt B a).1, .int .i64 (decAt B a).2]) ∧ Below w.heap.size w w' := by
  have hz : (⟨(B.drop a).toArray⟩ : ByteArray).size = B.length - a := by simp [ByteArray.size]
  have h := decode_rune ⟨(B.drop a).toArray⟩ tb (toff + a) (cap - a) w (tabs_below hb E.two E.tabs) (fun j hj => by
    rw [byteAt_drop, Nat.add_assoc, hb.cell E.tbR]
    exact E.txt (a + j) (by omega))
  rw [hz] at h
  have hd : Lib.decodeGo ⟨(B.drop a).toArray⟩ = decAt B a := by
    unfold Lib.decodeGo
    rw [if_neg (by omega), Lib.decode_at, hz]
    simp only [byteAt_drop, Nat.zero_add, Nat.sub_zero, Nat.add_zero]
    rfl
  rw [hd] at h
  exact h

theorem Sc.more {w' : World} (h : Sc B R tb toff cap w0 w a d v) (hb : Below w.heap.size w w') : Sc B R tb toff cap w0 w' a d v :=
  ⟨h.below.trans (hb.mono (Nat.le_of_lt h.rd.lt)), by have := h.rd; unfold Rd at this ⊢; rw [hb.block R h.rd.lt]; exact this, h.at_le⟩

set_option maxRecDepth 100000 in
set_option maxHeartbeats 3200000 in
theorem letter_any (E : Env B R tb toff cap w0) (h : Sc B R tb toff cap w0 w a d v) :
    Calls Tryd.prog 64 #[.pointer (some ⟨R, 0, none⟩)] w (DoneS B R tb toff cap w0 w d v runev (letterM B a)) := by
  have hl := E.len
  have HE : Hid (Env B R tb toff cap w0) := E
  clear E
  have c0 := h.rd.c0; have c1 := h.rd.c1; have f1 := h.rd.f 1
  have hR := h.rd.lt
  by_cases hlt : a < B.length
  · by_cases h32 : byteAt B a < 32
    · have HR : Hid (letterM B a = .bad a 22) := by show _ = _; simp [letterM, peekM, hlt, Res.andThen, h32]
      have h32' : (byteAt B a : Int) < 32 := by omega
      clear h32
      go_enter Tryd.func64, Tryd.ntmps64
      go_wp2_with (first | (go_at_call 55; refine (peek_ok HE.out h hlt).mono ?_; rintro e w1 ⟨rfl, m, rfl⟩) | (go_at_call 43; refine (fail_any _ _ _).mono ?_; rintro e w' ⟨rfl, rfl⟩))
      refine ⟨rfl, ?_⟩
      rw [HR.out]
      exact ⟨rfl, (Fr.refl _ _ _).drewN m⟩
    · have h32' : ¬ (byteAt B a : Int) < 32 := by omega
      by_cases h92 : byteAt B a = 92
      · have HR : Hid (letterM B a = escapeM B a) := by show _ = _; simp [letterM, peekM, hlt, Res.andThen, h92]
        have H38 : Hid (∀ w, Sc B R tb toff cap w0 w a d v → Calls Tryd.prog 55 #[.pointer (some ⟨R, 0, none⟩)] w fun e w' => e = .returned (.int .u8 (92 : Nat)) ∧ ∃ n, w' = w.drewN n) := by
          intro w hw; rw [← h92]; exact peek_ok HE.out hw hlt
        clear h92 h32 h32'
        cases hM : escapeM B a with
        | ok x a1 =>
          have HM : Hid (escapeM B a = .ok x a1) := hM
          clear hM
          go_enter Tryd.func64, Tryd.ntmps64
          go_wp2_with (first | (go_at_call 55; refine (H38.out _ h).mono ?_; rintro e w1 ⟨rfl, m, rfl⟩) | (go_at_call 75; refine (okS (escape_any HE.out (h.drewN m) hlt) HM.out).mono ?_; rintro e w2 ⟨rfl, hs2, hf2⟩; simp only [runev]))
          go_ret
          rw [HR.out, HM.out]
          exact ⟨rfl, hs2, ((Fr.refl _ _ _).drewN m).trans0 hf2⟩
        | bad a1 k =>
          have HM : Hid (escapeM B a = .bad a1 k) := hM
          clear hM
          go_enter Tryd.func64, Tryd.ntmps64
          go_wp2_with (first | (go_at_call 55; refine (H38.out _ h).mono ?_; rintro e w1 ⟨rfl, m, rfl⟩) | (go_at_call 75; refine (badS (escape_any HE.out (h.drewN m) hlt) HM.out).mono ?_; rintro e w2 ⟨rfl, hf2⟩))
          refine ⟨rfl, ?_⟩
          rw [HR.out, HM.out]
          exact ⟨rfl, ((Fr.refl _ _ _).drewN m).trans0 hf2⟩
      · have h92' : ((byteAt B a : Int) == 92) = false := by simp; omega
        obtain ⟨L, hL⟩ : ∃ L : Nat, Hid ((decAt B a).1 = L) := ⟨_, rfl⟩
        obtain ⟨S, hS⟩ : ∃ S : Nat, Hid ((decAt B a).2 = S) := ⟨_, rfl⟩
        have hbd := decAt_bd hlt
        rw [hL.out, hS.out] at hbd
        obtain ⟨hS1, hS2, hL1⟩ := hbd
        have H57 : Hid (∀ w, Below R w0 w → Calls Tryd.prog 76 #[.slice (some ⟨tb, toff + a, none⟩) (B.length - a) (cap - a)] w fun e w' => e = .returned (.tuple #[.int .i32 L, .int .i64 S]) ∧ Below w.heap.size w w') := by
          intro w hw; rw [← hL.out, ← hS.out]; exact dec_call HE.out hw hlt
        have HR : Hid (letterM B a = if L = 65533 ∧ S = 1 then .bad a 23 else .ok L (a + S)) := by
          show _ = _; simp only [letterM, peekM, hlt, Res.andThen, if_true]; rw [if_neg h32, if_neg h92, hL.out, hS.out]
        have hcg := HE.out.cap_ge; have hcl := HE.out.cap_le
        have hca : ¬ cap = a := by omega
        clear h92 h32
        by_cases hbad : L = 65533 ∧ S = 1
        · rw [if_pos hbad] at HR
          have HR2 : Hid (letterM B a = .bad a 23) := HR
          clear HR
          obtain ⟨rfl, rfl⟩ := hbad
          go_enter Tryd.func64, Tryd.ntmps64
          go_wp2_with (first | (go_at_call 55; refine (peek_ok HE.out h hlt).mono ?_; rintro e w1 ⟨rfl, m, rfl⟩))
          go_region_with (first | (go_at_call 76; refine (H57.out _ ?_).mono ?_; exact (Sc.drewN h _).below; rintro e w2 ⟨rfl, hb⟩; have c1' := (hb.cell (p := ⟨R, 1, none⟩) hR).trans c1))
          all_goals go_wp2_with (go_at_call 43; refine (fail_any _ _ _).mono ?_; rintro e w' ⟨rfl, rfl⟩)
          all_goals refine ⟨rfl, ?_⟩
          all_goals rw [HR2.out]
          all_goals exact ⟨rfl, ((Fr.refl _ _ _).drewN _).trans0 (Fr.of_below hb)⟩
        · rw [if_neg hbad] at HR
          have HR2 : Hid (letterM B a = .ok L (a + S)) := HR
          clear HR
          by_cases hL0 : L = 65533
          · have hS0 : ((S : Int) == 1) = false := by simp; omega
            subst hL0
            clear hbad
            go_enter Tryd.func64, Tryd.ntmps64
            go_wp2_with (first | (go_at_call 55; refine (peek_ok HE.out h hlt).mono ?_; rintro e w1 ⟨rfl, m, rfl⟩))
            go_region_with (first | (go_at_call 76; refine (H57.out _ ?_).mono ?_; exact (Sc.drewN h _).below; rintro e w2 ⟨rfl, hb⟩; have c1' := (hb.cell (p := ⟨R, 1, none⟩) hR).trans c1; have f1' := (hb.frozen (p := ⟨R, 1, none⟩) hR).trans f1))
            all_goals go_wp2
            all_goals go_ret
            all_goals rw [HR2.out]
            all_goals exact ⟨rfl, ((Sc.drewN h _).more hb).stepZ (by omega) (by omega), (((Fr.refl _ _ _).drewN _).trans0 (Fr.of_below hb)).setR _ _⟩
          · have hL0' : ((L : Int) == 65533) = false := by simp; omega
            clear hbad hL0
            go_enter Tryd.func64, Tryd.ntmps64
            go_wp2_with (first | (go_at_call 55; refine (peek_ok HE.out h hlt).mono ?_; rintro e w1 ⟨rfl, m, rfl⟩))
            go_region_with (first | (go_at_call 76; refine (H57.out _ ?_).mono ?_; exact (Sc.drewN h _).below; rintro e w2 ⟨rfl, hb⟩; have c1' := (hb.cell (p := ⟨R, 1, none⟩) hR).trans c1; have f1' := (hb.frozen (p := ⟨R, 1, none⟩) hR).trans f1))
            all_goals go_wp2
            all_goals go_ret
            all_goals rw [HR2.out]
            all_goals exact ⟨rfl, ((Sc.drewN h _).more hb).stepZ (by omega) (by omega), (((Fr.refl _ _ _).drewN _).trans0 (Fr.of_below hb)).setR _ _⟩
  · have HR : Hid (letterM B a = .bad a 21) := by show _ = _; simp [letterM, peekM, hlt, Res.andThen]
    go_enter Tryd.func64, Tryd.ntmps64
    go_wp2_with (first | (go_at_call 55; refine (peek_end HE.out h hlt).mono ?_; rintro e w1 ⟨rfl, m, rfl⟩))
    refine ⟨rfl, ?_⟩
    rw [HR.out]
    exact ⟨rfl, (Fr.refl _ _ _).drewN m⟩
end
end Go.Proofs.YtpffhckimilppaaDoor.Js