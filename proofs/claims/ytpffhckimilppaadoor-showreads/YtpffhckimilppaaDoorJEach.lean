/-
  What the call of the reader's each does, whatever it is handed for a kid.
-/
import Derived.Test.YtpffhckimilppaaDoorJName
namespace Go.Proofs.YtpffhckimilppaaDoor.Js
open Go.RowKit

section
variable {B : List UInt8} {R tb toff cap : Nat} {w0 w : World} {a d : Nat} {v : Value}

set_option maxHeartbeats 400000 in
theorem each_deep (h : Sc B R tb toff cap w0 w a 16 v) (c : Nat) (kf : Value) :
    Calls Tryd.prog 67 #[.pointer (some ⟨R, 0, none⟩), .int .u8 c, kf] w fun e w' => e = .panicked (flt a 26) ∧ w' = w := by
  have c1 := h.rd.c1; have c2 := h.rd.c2
  go_enter Tryd.func67, Tryd.ntmps67
  go_wp2_with (go_at_call 43; refine (fail_any _ _ _).mono ?_; rintro e w' ⟨rfl, rfl⟩)
  exact ⟨rfl, rfl, rfl⟩

theorem aheadM_at {c p : Nat} (hA : aheadM B a = .ok c p) : c = byteAt B p ∧ p < B.length ∧ a ≤ p := by
  unfold aheadM peekM at hA
  split at hA
  · rename_i hlt
    simp only [Res.ok.injEq] at hA
    obtain ⟨rfl, rfl⟩ := hA
    exact ⟨rfl, hlt, run_ge _ _ _⟩
  · cases hA
theorem wantM_at {c : Nat} {x : Unit} {q : Nat} (hA : wantM B c a = .ok x q) : q = a + 1 ∧ a < B.length := by
  unfold wantM at hA
  split at hA
  · split at hA
    · simp only [Res.ok.injEq] at hA; omega
    · cases hA
  · cases hA

/-- What a kid's reading keeps. -/
structure KidC {σ : Type} (B : List UInt8) (R tb toff cap : Nat) (w0 : World) (d : Nat) (J : σ → World → Nat → Value → Prop) (F : World → Prop) : Prop where
  sc : ∀ s w a v, J s w a v → Sc B R tb toff cap w0 w a d v
  scan : ∀ s w a v w' a', J s w a v → Sc B R tb toff cap w0 w' a' d v → Fr R none w w' → J s w' a' v
  keeps : ∀ s w a v, J s w a v → F w
  more : ∀ w w', F w → Fr R none w w' → F w'
def DoneK {σ : Type} (J : σ → World → Nat → Value → Prop) (F : World → Prop) : Res σ → Ending → World → Prop
  | .ok s a, e, w' => e = .returned (.tuple #[]) ∧ ∃ v, J s w' a v
  | .bad a c, e, w' => e = .panicked (flt a c) ∧ F w'
/-- How each ends. -/
def DoneE {σ : Type} (B : List UInt8) (R tb toff cap : Nat) (w0 : World) (d : Nat) (J : σ → World → Nat → Value → Prop) (F : World → Prop) : Res σ → Ending → World → Prop
  | .ok s a, e, w' => e = .returned (.tuple #[]) ∧ ∃ v w2 p, J s w2 p v ∧ Sc B R tb toff cap w0 w' a d v ∧ Fr R none w2 w'
  | .bad a c, e, w' => e = .panicked (flt a c) ∧ F w'

theorem okK {σ : Type} {J : σ → World → Nat → Value → Prop} {F : World → Prop} {f : FuncId} {args : Array Value} {M : Res σ} {s : σ} {a1 : Nat} (H : Calls Tryd.prog f args w (DoneK J F M)) (h : M = .ok s a1) :
    Calls Tryd.prog f args w fun e w' => e = .returned (.tuple #[]) ∧ ∃ v, J s w' a1 v := by
  subst h; exact H
theorem badK {σ : Type} {J : σ → World → Nat → Value → Prop} {F : World → Prop} {f : FuncId} {args : Array Value} {M : Res σ} {c a1 : Nat} (H : Calls Tryd.prog f args w (DoneK J F M)) (h : M = .bad a1 c) :
    Calls Tryd.prog f args w fun e w' => e = .panicked (flt a1 c) ∧ F w' := by
  subst h; exact H

set_option maxRecDepth 100000 in
set_option maxHeartbeats 3200000 in
theorem each_any {σ : Type} (E : Env B R tb toff cap w0) (h : Sc B R tb toff cap w0 w a d v) (hd : d < 16) (hlt : a < B.length) (close : Nat) (G : FuncId) (caps : Array Value)
    (hent : ∀ args w, (callFunc G args).run Tryd.prog w = .ok (.enter G args) w) (J : σ → World → Nat → Value → Prop) (F : World → Prop) (KC : KidC B R tb toff cap w0 (d + 1) J F)
    (kid : σ → Nat → Res σ) (hadv : ∀ s a s' a', kid s a = .ok s' a' → a < a')
    (hkid : ∀ s w a v, J s w a v → Calls Tryd.prog G caps w (DoneK J F (kid s a)))
    (s0 : σ) (hstart : ∀ w1, Sc B R tb toff cap w0 w1 (a + 1) (d + 1) v → Fr R none w w1 → J s0 w1 (a + 1) v) :
    Calls Tryd.prog 67 #[.pointer (some ⟨R, 0, none⟩), .int .u8 close, .func (Fn.func G) #[] caps] w (DoneE B R tb toff cap w0 d J F (eachM B close kid s0 a)) := by
  have hl := E.len
  have HE : Hid (Env B R tb toff cap w0) := E
  have HK : Hid (∀ s w a v, J s w a v → Calls Tryd.prog G caps w (DoneK J F (kid s a))) := hkid
  have HADV : Hid (∀ s a s' a', kid s a = .ok s' a' → a < a') := hadv
  clear E hkid hadv
  have c1 := h.rd.c1; have c2 := h.rd.c2; have f1 := h.rd.f 1; have f2 := h.rd.f 2
  have hd' : ((d : Int) == 16) = false := by simp; omega
  have hs1 : ∀ z z', z = ((d + 1 : Nat) : Int) → z' = ((a + 1 : Nat) : Int) → Sc B R tb toff cap w0 ((w.setCell ⟨R, 2, none⟩ (.int .i64 z)).setCell ⟨R, 1, none⟩ (.int .i64 z')) (a + 1) (d + 1) v := by
    rintro z z' rfl rfl
    exact ⟨(h.below.setCell (Nat.le_refl _) _).setCell (Nat.le_refl _) _, (h.rd.set2 (d + 1)).set1 (a + 1), by omega⟩
  have hf1 : ∀ z z', Fr R none w ((w.setCell ⟨R, 2, none⟩ (.int .i64 z)).setCell ⟨R, 1, none⟩ (.int .i64 z')) := fun z z' => ((Fr.refl _ _ _).setR _ _).setR _ _
  cases hA : aheadM B (a + 1) with
  | bad a1 c =>
    have HR : Hid (eachM B close kid s0 a = .bad a1 c) := by show _ = _; simp [eachM, hA, Res.andThen]
    have HA : Hid (aheadM B (a + 1) = .bad a1 c) := hA
    clear hA
    go_enter Tryd.func67, Tryd.ntmps67
    go_wp2_with (go_at_call 50; refine (badS (ahead_any HE.out (hs1 _ _ (by omega) (by omega))) HA.out).mono ?_; rintro e w1 ⟨rfl, hf2⟩)
    refine ⟨rfl, ?_⟩
    rw [HR.out]
    exact ⟨rfl, KC.more _ _ (KC.keeps _ _ _ _ (hstart _ (hs1 _ _ (by omega) (by omega)) (hf1 _ _))) hf2⟩
  | ok c p =>
    obtain ⟨-, hpl, -⟩ := aheadM_at hA
    have HA : Hid (aheadM B (a + 1) = .ok c p) := hA
    clear hA
    obtain ⟨M, hM⟩ : ∃ M, Hid (eachM B close kid s0 a = M) := ⟨_, rfl⟩
    rw [hM.out]
    have HM : Hid (M = if c = close then .ok s0 (p + 1) else eachL B close kid (B.length + 1) s0 p) := by
      show _ = _; rw [← hM.out]; simp [eachM, HA.out, Res.andThen]
    clear hM
    go_enter Tryd.func67, Tryd.ntmps67
    go_wp2_with (go_at_call 50; refine (okS (ahead_any HE.out (hs1 _ _ (by omega) (by omega))) HA.out).mono ?_; rintro e w1 ⟨rfl, hs2, hf2⟩; simp only [u8v])
    go_loopg [6] (B.length + 1) (fun k more wr => ∃ s p v, J s wr p v ∧ ((more = .bool true ∧ eachL B close kid k s p = M ∧ B.length < p + k) ∨ (more = .bool false ∧ M = .ok s (p + 1) ∧ p < B.length)))
    case atStart =>
      refine ⟨s0, p, v, KC.scan _ _ _ _ _ _ (hstart _ (hs1 _ _ (by omega) (by omega)) (hf1 _ _)) hs2 hf2, ?_⟩
      by_cases hcc : c = close
      · exact .inr ⟨by simp [hcc], by rw [HM.out, if_pos hcc], hpl⟩
      · exact .inl ⟨by simp; omega, by rw [HM.out, if_neg hcc], by omega⟩
    case round =>
      obtain ⟨s, q, v1, hJ, hor⟩ := hrel
      have hqle := (KC.sc _ _ _ _ hJ).at_le
      rcases hor with ⟨rfl, hL, hlen⟩ | ⟨rfl, hfin, hql⟩
      · obtain ⟨k, rfl⟩ : ∃ k, gk = k + 1 := ⟨gk - 1, by omega⟩
        have HL : Hid ((kid s q).andThen (fun s' a' => (aheadM B a').andThen fun c p => if c = close then .ok s' (p + 1) else (wantM B 44 p).andThen fun _ q => eachL B close kid k s' q) = M) := hL
        clear hL
        cases hK : kid s q with
        | bad a1 x =>
          have HN : Hid (M = .bad a1 x) := by show _ = _; rw [← HL.out, hK]; rfl
          have HKd : Hid (kid s q = .bad a1 x) := hK
          clear hK
          go_wp2_with (go_at_fn G; refine (badK (HK.out _ _ _ _ hJ) HKd.out).mono ?_; rintro e w2 ⟨rfl, hF2⟩)
          refine ⟨rfl, ?_⟩
          rw [HN.out]
          exact ⟨rfl, hF2⟩
        | ok s' a1 =>
          have hadv := HADV.out _ _ _ _ hK
          have HKd : Hid (kid s q = .ok s' a1) := hK
          rw [hK] at HL
          have HL2 : Hid ((aheadM B a1).andThen (fun c p => if c = close then .ok s' (p + 1) else (wantM B 44 p).andThen fun _ q => eachL B close kid k s' q) = M) := HL
          clear hK HL
          cases hA2 : aheadM B a1 with
          | bad a2 x =>
            have HN : Hid (M = .bad a2 x) := by show _ = _; rw [← HL2.out, hA2]; rfl
            have HA2 : Hid (aheadM B a1 = .bad a2 x) := hA2
            clear hA2
            go_wp2_with (first | (go_at_fn G; refine (okK (HK.out _ _ _ _ hJ) HKd.out).mono ?_; rintro e w2 ⟨rfl, v2, hJ2⟩) | (go_at_call 50; refine (badS (ahead_any HE.out (KC.sc _ _ _ _ hJ2)) HA2.out).mono ?_; rintro e w3 ⟨rfl, hf3⟩))
            refine ⟨rfl, ?_⟩
            rw [HN.out]
            exact ⟨rfl, KC.more _ _ (KC.keeps _ _ _ _ hJ2) hf3⟩
          | ok c2 p2 =>
            obtain ⟨-, hp2, hp2'⟩ := aheadM_at hA2
            have HA2 : Hid (aheadM B a1 = .ok c2 p2) := hA2
            have HL3 : Hid ((if c2 = close then .ok s' (p2 + 1) else (wantM B 44 p2).andThen fun _ q => eachL B close kid k s' q) = M) := by show _ = _; rw [← HL2.out, hA2]; rfl
            clear hA2 HL2
            by_cases hcc : c2 = close
            · have HN : Hid (M = .ok s' (p2 + 1)) := by show _ = _; rw [← HL3.out, if_pos hcc]
              have hcc' : ((c2 : Int) == (close : Int)) = true := by simp; omega
              clear hcc
              go_wp2_with (first | (go_at_fn G; refine (okK (HK.out _ _ _ _ hJ) HKd.out).mono ?_; rintro e w2 ⟨rfl, v2, hJ2⟩) | (go_at_call 50; refine (okS (ahead_any HE.out (KC.sc _ _ _ _ hJ2)) HA2.out).mono ?_; rintro e w3 ⟨rfl, hs3, hf3⟩; simp only [u8v]))
              go_roundg k
              case measure => omega
              case rel => exact ⟨s', p2, v2, KC.scan _ _ _ _ _ _ hJ2 hs3 hf3, .inr ⟨by simp only [bne, hcc']; rfl, HN.out, hp2⟩⟩
            · have hcc' : ((c2 : Int) == (close : Int)) = false := by simp; omega
              cases hW : wantM B 44 p2 with
              | bad a3 x =>
                have HN : Hid (M = .bad a3 x) := by show _ = _; rw [← HL3.out, if_neg hcc, hW]; rfl
                have HW : Hid (wantM B 44 p2 = .bad a3 x) := hW
                clear hcc hW
                go_wp2_with (first | (go_at_fn G; refine (okK (HK.out _ _ _ _ hJ) HKd.out).mono ?_; rintro e w2 ⟨rfl, v2, hJ2⟩) | (go_at_call 50; refine (okS (ahead_any HE.out (KC.sc _ _ _ _ hJ2)) HA2.out).mono ?_; rintro e w3 ⟨rfl, hs3, hf3⟩; simp only [u8v]) | (go_at_call 63; refine (badS (want_any HE.out hs3 44) HW.out).mono ?_; rintro e w4 ⟨rfl, hf4⟩))
                refine ⟨rfl, ?_⟩
                rw [HN.out]
                exact ⟨rfl, KC.more _ _ (KC.keeps _ _ _ _ hJ2) (hf3.trans0 hf4)⟩
              | ok x a3 =>
                have HN : Hid (eachL B close kid k s' a3 = M) := by show _ = _; rw [← HL3.out, if_neg hcc, hW]; rfl
                have hw3 := wantM_at hW
                have HW : Hid (wantM B 44 p2 = .ok x a3) := hW
                clear hcc hW
                go_wp2_with (first | (go_at_fn G; refine (okK (HK.out _ _ _ _ hJ) HKd.out).mono ?_; rintro e w2 ⟨rfl, v2, hJ2⟩) | (go_at_call 50; refine (okS (ahead_any HE.out (KC.sc _ _ _ _ hJ2)) HA2.out).mono ?_; rintro e w3 ⟨rfl, hs3, hf3⟩; simp only [u8v]) | (go_at_call 63; refine (okS (want_any HE.out hs3 44) HW.out).mono ?_; rintro e w4 ⟨rfl, hs4, hf4⟩))
                go_roundg k
                case measure => omega
                case rel => exact ⟨s', a3, v2, KC.scan _ _ _ _ _ _ hJ2 hs4 (hf3.trans0 hf4), .inl ⟨rfl, HN.out, by omega⟩⟩
      · have HN : Hid (M = .ok s (q + 1)) := hfin
        clear hfin
        have hsq := KC.sc _ _ _ _ hJ
        have c1 := hsq.rd.c1; have c2 := hsq.rd.c2; have f1 := hsq.rd.f 1; have f2 := hsq.rd.f 2
        go_wp2
        go_end0
        rw [HN.out]
        refine ⟨rfl, v1, wr, q, hJ, ?_, ((Fr.refl _ _ _).setR _ _).setR _ _⟩
        exact ⟨(hsq.below.setCell (Nat.le_refl _) _).setCell (Nat.le_refl _) _, (hsq.rd.set1 (q + 1)).set2 d, by omega⟩
end
end Go.Proofs.YtpffhckimilppaaDoor.Js