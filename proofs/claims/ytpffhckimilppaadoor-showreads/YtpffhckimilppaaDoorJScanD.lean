/-
  What the calls of the reader's coded and escape do.
-/
import Derived.Test.YtpffhckimilppaaDoorJScanC
namespace Go.Proofs.YtpffhckimilppaaDoor.Js
open Go.RowKit

theorem hexM_bd (B : List UInt8) (f : Nat) : ∀ (k j l a l' a' : Nat), l < 16 ^ j → hexM B f k l a = .ok l' a' → l' < 16 ^ (j + k)
  | 0, j, l, a, l', a', h, e => by simp only [hexM, Res.ok.injEq] at e; rw [← e.1]; exact h
  | k + 1, j, l, a, l', a', h, e => by
    simp only [hexM] at e
    split at e
    · split at e
      · cases e
      · have hb := sixteenM_bd (byteAt B a)
        have := hexM_bd B f k (j + 1) _ _ _ _ (by rw [Nat.pow_succ]; omega) e
        rwa [show j + (k + 1) = j + 1 + k by omega]
    · cases e

section
variable {B : List UInt8} {R tb toff cap : Nat} {w0 w : World} {a d : Nat} {v : Value}

set_option maxRecDepth 100000 in
set_option maxHeartbeats 400000 in
theorem coded_last (E : Env B R tb toff cap w0) (f : Nat) (L S : Int) (a1 a2 : Nat) (hL1 : 55296 ≤ L) (hL2 : L < 56320) (hS1 : 56320 ≤ S) (hS2 : S < 57344) (hes : escapedB B a1 = true) (ha2 : a1 + 2 ≤ B.length)
    (H1 : Hid (Calls Tryd.prog 88 #[.pointer (some ⟨R, 0, none⟩), .int .i64 f] w fun e w' => e = .returned (.int .i32 L) ∧ Sc B R tb toff cap w0 w' a1 d v ∧ Fr R none w w'))
    (H2 : Hid (∀ w, Sc B R tb toff cap w0 w (a1 + 2) d v → Calls Tryd.prog 88 #[.pointer (some ⟨R, 0, none⟩), .int .i64 f] w fun e w' => e = .returned (.int .i32 S) ∧ Sc B R tb toff cap w0 w' a2 d v ∧ Fr R none w w')) :
    Calls Tryd.prog 84 #[.pointer (some ⟨R, 0, none⟩), .int .i64 f] w fun e w' => e = .returned (.int .i32 (65536 + (L - 55296) * 1024 + (S - 56320))) ∧ Sc B R tb toff cap w0 w' a2 d v ∧ Fr R none w w' := by
  have hl := E.len
  have HE : Hid (Env B R tb toff cap w0) := E
  clear E
  have g1 : ¬ L < 55296 := by omega
  have g2 : ¬ 57344 ≤ L := by omega
  have g3 : ¬ 56320 ≤ L := by omega
  have k1 : ¬ S < 56320 := by omega
  have k2 : ¬ 57344 ≤ S := by omega
  go_enter Tryd.func84, Tryd.ntmps84
  go_wp2_with (first | (go_at_call 88; refine (H2.out _ ((hs1.drewN m).stepZ (a' := a1 + 2) (by omega) ha2)).mono ?_; rintro e w3 ⟨rfl, hs3, hf3⟩) | (go_at_call 88; refine H1.out.mono ?_; rintro e w1 ⟨rfl, hs1, hf1⟩; have c1 := hs1.rd.c1; have f1 := hs1.rd.f 1) | (go_at_call 89; refine (escaped_any HE.out hs1).mono ?_; rintro e w2 ⟨rfl, m, rfl⟩))
  go_ret
  exact ⟨by go_num, hs3, ((hf1.drewN m).setR _ _).trans0 hf3⟩

set_option maxRecDepth 100000 in
set_option maxHeartbeats 1600000 in
theorem coded_any (E : Env B R tb toff cap w0) (h : Sc B R tb toff cap w0 w a d v) (f : Nat) :
    Calls Tryd.prog 84 #[.pointer (some ⟨R, 0, none⟩), .int .i64 f] w (DoneS B R tb toff cap w0 w d v runev (codedM B f a)) := by
  have hl := E.len
  have HE : Hid (Env B R tb toff cap w0) := E
  clear E
  cases hM : hexM B f 4 0 a with
  | bad a1 c =>
    have HR : Hid (codedM B f a = .bad a1 c) := by show _ = _; simp [codedM, hM, Res.andThen]
    have HM : Hid (hexM B f 4 0 a = .bad a1 c) := hM
    clear hM
    go_enter Tryd.func84, Tryd.ntmps84
    go_wp2_with (go_at_call 88; refine (badS (four_any HE.out h f) HM.out).mono ?_; rintro e w1 ⟨rfl, hf1⟩)
    refine ⟨rfl, ?_⟩
    rw [HR.out]
    exact ⟨rfl, hf1⟩
  | ok l a1 =>
    have hl1 : l < 65536 := hexM_bd B f 4 0 0 a l a1 (by omega) hM
    have HM : Hid (hexM B f 4 0 a = .ok l a1) := hM
    clear hM
    have hl1' : (l : Int) < 65536 := by omega
    by_cases h1 : l < 55296 ∨ 57344 ≤ l
    · have HR : Hid (codedM B f a = .ok l a1) := by show _ = _; simp only [codedM, HM.out, Res.andThen]; rw [if_pos h1]
      rcases h1 with h1 | h1
      · have h1' : (l : Int) < 55296 := by omega
        go_enter Tryd.func84, Tryd.ntmps84
        go_wp2_with (go_at_call 88; refine (okS (four_any HE.out h f) HM.out).mono ?_; rintro e w1 ⟨rfl, hs1, hf1⟩; simp only [runev])
        go_ret
        rw [HR.out]
        exact ⟨rfl, hs1, hf1⟩
      · have h1' : ¬ (l : Int) < 55296 := by omega
        have h2' : (57344 : Int) ≤ (l : Int) := by omega
        go_enter Tryd.func84, Tryd.ntmps84
        go_wp2_with (go_at_call 88; refine (okS (four_any HE.out h f) HM.out).mono ?_; rintro e w1 ⟨rfl, hs1, hf1⟩; simp only [runev])
        go_ret
        rw [HR.out]
        exact ⟨rfl, hs1, hf1⟩
    · have g1 : ¬ (l : Int) < 55296 := by omega
      have g2 : ¬ (57344 : Int) ≤ (l : Int) := by omega
      by_cases h2 : 56320 ≤ l
      · have HR : Hid (codedM B f a = .bad f 24) := by show _ = _; simp only [codedM, HM.out, Res.andThen]; rw [if_neg h1, if_pos (.inl h2)]
        have g3 : (56320 : Int) ≤ (l : Int) := by omega
        clear h1 h2
        go_enter Tryd.func84, Tryd.ntmps84
        go_wp2_with (first | (go_at_call 88; refine (okS (four_any HE.out h f) HM.out).mono ?_; rintro e w1 ⟨rfl, hs1, hf1⟩; simp only [runev]) | (go_at_call 43; refine (fail_any _ _ _).mono ?_; rintro e w' ⟨rfl, rfl⟩))
        refine ⟨rfl, ?_⟩
        rw [HR.out]
        exact ⟨rfl, hf1⟩
      · have g3 : ¬ (56320 : Int) ≤ (l : Int) := by omega
        cases hes : escapedB B a1
        · have HR : Hid (codedM B f a = .bad f 24) := by show _ = _; simp only [codedM, HM.out, Res.andThen]; rw [if_neg h1, if_pos (.inr hes)]
          clear h1 h2
          go_enter Tryd.func84, Tryd.ntmps84
          go_wp2_with (first | (go_at_call 88; refine (okS (four_any HE.out h f) HM.out).mono ?_; rintro e w1 ⟨rfl, hs1, hf1⟩; simp only [runev]) | (go_at_call 89; refine (escaped_any HE.out hs1).mono ?_; rintro e w2 ⟨rfl, m, rfl⟩) | (go_at_call 43; refine (fail_any _ _ _).mono ?_; rintro e w' ⟨rfl, rfl⟩))
          refine ⟨rfl, ?_⟩
          rw [HR.out]
          exact ⟨rfl, hf1.drewN m⟩
        · have ha2 : a1 + 2 ≤ B.length := by
            simp only [escapedB, Bool.and_eq_true, decide_eq_true_eq] at hes; omega
          cases hM2 : hexM B f 4 0 (a1 + 2) with
          | bad a2 c =>
            have HR : Hid (codedM B f a = .bad a2 c) := by show _ = _; simp only [codedM, HM.out, Res.andThen]; rw [if_neg h1, if_neg (by simp [h2, hes])]; simp only [hM2]
            have HM2 : Hid (hexM B f 4 0 (a1 + 2) = .bad a2 c) := hM2
            clear h1 h2 hM2
            go_enter Tryd.func84, Tryd.ntmps84
            go_wp2_with (first | (go_at_call 88; refine (badS (four_any HE.out ((hs1.drewN m).stepZ (a' := a1 + 2) (by omega) ha2) f) HM2.out).mono ?_; rintro e w3 ⟨rfl, hf3⟩) | (go_at_call 88; refine (okS (four_any HE.out h f) HM.out).mono ?_; rintro e w1 ⟨rfl, hs1, hf1⟩; simp only [runev]; have c1 := hs1.rd.c1; have f1 := hs1.rd.f 1) | (go_at_call 89; refine (escaped_any HE.out hs1).mono ?_; rintro e w2 ⟨rfl, m, rfl⟩))
            refine ⟨rfl, ?_⟩
            rw [HR.out]
            exact ⟨rfl, ((hf1.drewN m).setR _ _).trans0 hf3⟩
          | ok s a2 =>
            have hs16 : s < 65536 := hexM_bd B f 4 0 0 _ s a2 (by omega) hM2
            have HM2 : Hid (hexM B f 4 0 (a1 + 2) = .ok s a2) := hM2
            clear hM2
            by_cases h3 : s < 56320 ∨ 57344 ≤ s
            · have HR : Hid (codedM B f a = .bad f 24) := by show _ = _; simp only [codedM, HM.out, Res.andThen]; rw [if_neg h1, if_neg (by simp [h2, hes])]; simp only [HM2.out]; rw [if_pos h3]
              have h3' : (s : Int) < 56320 ∨ (¬ (s : Int) < 56320 ∧ (57344 : Int) ≤ (s : Int)) := by omega
              clear h1 h2 h3
              rcases h3' with k1 | ⟨k1, k2⟩
              all_goals
                go_enter Tryd.func84, Tryd.ntmps84
                go_wp2_with (first | (go_at_call 88; refine (okS (four_any HE.out ((hs1.drewN m).stepZ (a' := a1 + 2) (by omega) ha2) f) HM2.out).mono ?_; rintro e w3 ⟨rfl, hs3, hf3⟩; simp only [runev]) | (go_at_call 88; refine (okS (four_any HE.out h f) HM.out).mono ?_; rintro e w1 ⟨rfl, hs1, hf1⟩; simp only [runev]; have c1 := hs1.rd.c1; have f1 := hs1.rd.f 1) | (go_at_call 89; refine (escaped_any HE.out hs1).mono ?_; rintro e w2 ⟨rfl, m, rfl⟩) | (go_at_call 43; refine (fail_any _ _ _).mono ?_; rintro e w' ⟨rfl, rfl⟩))
                refine ⟨rfl, ?_⟩
                rw [HR.out]
                exact ⟨rfl, ((hf1.drewN m).setR _ _).trans0 hf3⟩
            · have HR : Hid (codedM B f a = .ok (65536 + (l - 55296) * 1024 + (s - 56320)) a2) := by show _ = _; simp only [codedM, HM.out, Res.andThen]; rw [if_neg h1, if_neg (by simp [h2, hes])]; simp only [HM2.out]; rw [if_neg h3]
              have hh := coded_last (w := w) (d := d) (v := v) HE.out f (l : Int) (s : Int) a1 a2 (by omega) (by omega) (by omega) (by omega) hes ha2 (okS (val := runev) (four_any HE.out h f) HM.out) (fun w hw => okS (val := runev) (four_any HE.out hw f) HM2.out)
              rw [HR.out]
              refine hh.mono ?_
              rintro e w3 ⟨rfl, hs3, hf3⟩
              refine ⟨?_, hs3, hf3⟩
              simp only [runev]
              congr 2
              omega
end
end Go.Proofs.YtpffhckimilppaaDoor.Js