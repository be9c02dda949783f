/-
  What the call of the reader's quoted does.
-/
import Derived.Test.YtpffhckimilppaaDoorJScanF
namespace Go.Proofs.YtpffhckimilppaaDoor.Js
open Go.RowKit

theorem hexM_adv (B : List UInt8) (f : Nat) : ∀ (k l a l' a' : Nat), hexM B f k l a = .ok l' a' → a' = a + k
  | 0, l, a, l', a', e => by simp only [hexM, Res.ok.injEq] at e; omega
  | k + 1, l, a, l', a', e => by
    simp only [hexM] at e
    split at e
    · split at e
      · cases e
      · have := hexM_adv B f k _ _ _ _ e; omega
    · cases e
theorem codedM_good (B : List UInt8) (f a r a' : Nat) (h : codedM B f a = .ok r a') : a < a' ∧ r < 1114112 := by
  unfold codedM at h
  cases h1 : hexM B f 4 0 a with
  | bad x y => rw [h1] at h; cases h
  | ok l a1 =>
    rw [h1] at h
    simp only [Res.andThen] at h
    have b1 := hexM_bd B f 4 0 0 a l a1 (by omega) h1
    have d1 := hexM_adv B f 4 0 a l a1 h1
    split at h
    · simp only [Res.ok.injEq] at h; omega
    · split at h
      · cases h
      · cases h2 : hexM B f 4 0 (a1 + 2) with
        | bad x y => rw [h2] at h; cases h
        | ok s a2 =>
          rw [h2] at h
          simp only at h
          have d2 := hexM_adv B f 4 0 (a1 + 2) s a2 h2
          split at h
          · cases h
          · simp only [Res.ok.injEq] at h; omega
theorem escapeM_good (B : List UInt8) (a r a' : Nat) (h : escapeM B a = .ok r a') : a < a' ∧ r < 1114112 := by
  unfold escapeM peekM at h
  split at h
  · simp only [Res.andThen] at h
    have := byteAt_lt B (a + 1)
    repeat' split at h
    all_goals first
      | (have := codedM_good B a (a + 2) r a' h; omega)
      | (simp only [Res.ok.injEq] at h; omega)
      | cases h
  · cases h
theorem letterM_good (B : List UInt8) (a r a' : Nat) (h : letterM B a = .ok r a') : a < a' ∧ r < 1114112 := by
  unfold letterM peekM at h
  split at h
  · rename_i hlt
    simp only [Res.andThen] at h
    split at h
    · cases h
    · split at h
      · exact escapeM_good B a r a' h
      · split at h
        · cases h
        · have := decAt_bd hlt
          simp only [Res.ok.injEq] at h; omega
  · cases h

theorem own_fr {R : Nat} {o : Option Nat} {w w' : World} {base : Nat} {e : TypeId} {size : Nat} {v : Value} {n : Nat} {xs : List Value} (h : w.ownsRow base e size v n xs) (f : Fr R o w w') (hR : ∀ g, v.ownBlock = some g → g ≠ R ∧ o ≠ some g) : w'.ownsRow base e size v n xs := by
  obtain ⟨h1, h2⟩ := h
  refine ⟨h1, ?_⟩
  rcases h2 with h2 | ⟨g, cap, cur, hv, hg, hh, r⟩
  · exact .inl h2
  · subst hv
    have := hR g rfl
    exact .inr ⟨g, cap, cur, rfl, hg, by rw [f.block g (lt_of_block hh) this.1 this.2]; exact hh, r⟩
theorem grown_fr {R : Nat} {o : Option Nat} {w w1 w2 : World} {row : Option Nat} (f : Fr R o w w1) (hg : w1.grownBy w2 row) (hrow : ∀ k, row = some k → w.heap.size ≤ k) : Fr R o w w2 :=
  ⟨hg.os.trans f.os, hg.tape.trans f.tape, hg.output.trans f.output, Nat.le_trans f.size hg.size, fun k hk hR ho => by
    rw [hg.block k (Nat.lt_of_lt_of_le hk f.size) (fun e => by have := hrow k e.symm; omega)]
    exact f.block k hk hR ho⟩
theorem Rd.grown {w w' : World} {R : Nat} {t : Value} {a d : Nat} {v : Value} {row : Option Nat} (h : Rd w R t a d v) (hg : w.grownBy w' row) (hrow : row ≠ some R) : Rd w' R t a d v := by
  unfold Rd at h ⊢; rw [hg.block R (lt_of_block h) (fun e => hrow e.symm)]; exact h

section
variable {B : List UInt8} {R tb toff cap : Nat} {w0 w : World} {a d : Nat} {v : Value}

theorem Sc.grown {w' : World} {row : Option Nat} (h : Sc B R tb toff cap w0 w a d v) (hg : w.grownBy w' row) (hrow : ∀ k, row = some k → R < k) : Sc B R tb toff cap w0 w' a d v :=
  ⟨h.below.grown hg (Nat.le_of_lt h.rd.lt) (fun k e => by have := hrow k e; omega), h.rd.grown hg (fun e => by have := hrow R e; omega), h.at_le⟩
theorem Sc.alloc (h : Sc B R tb toff cap w0 w a d v) (o : Obj) : Sc B R tb toff cap w0 (w.alloc o) a d v :=
  ⟨h.below.alloc (Nat.le_of_lt h.rd.lt) o, h.rd.alloc o, h.at_le⟩

/-- The bytes of a row as a string. -/
theorem conv_own {base n : Nat} {s : Value} (l : List UInt8) (hown : w.ownsRow base 5 1 s n (Lib.byteCells l)) : (convert 30 9 s).run Tryd.prog w = .ok (.string ⟨l.toArray⟩) w := by
  have hn : n = l.length := by have := hown.1; rw [Lib.byteCells_length] at this; omega
  subst hn
  rcases hown.2 with ⟨rfl, h0⟩ | ⟨g, cp, cur, rfl, _⟩
  · obtain rfl : l = [] := List.length_eq_zero_iff.1 h0
    rw [run_convert_bytes_string w 30 9 5 none 0 0 Tryd.underlying30 Tryd.underlying5 Tryd.underlying9]
    rfl
  · refine run_convert_bytes_back (P := Tryd.prog) w 30 9 5 ⟨g, 0, none⟩ cp l Tryd.underlying30 Tryd.underlying5 Tryd.underlying9 ?_
    intro j hj
    exact hown.cells (g := g) rfl j _ (by simp [Lib.byteCells, hj])

set_option maxRecDepth 100000 in
set_option maxHeartbeats 3200000 in
theorem quoted_any (E : Env B R tb toff cap w0) (h : Sc B R tb toff cap w0 w a d v) (hlt : a < B.length) :
    Calls Tryd.prog 57 #[.pointer (some ⟨R, 0, none⟩)] w (DoneS B R tb toff cap w0 w d v strv (quotedM B a)) := by
  have hl := E.len
  have HE : Hid (Env B R tb toff cap w0) := E
  clear E
  have c1 := h.rd.c1; have f1 := h.rd.f 1
  have hRw := h.rd.lt
  go_enter Tryd.func57, Tryd.ntmps57
  go_wp2
  clear c1 f1
  go_loopg [3] (B.length + 1) (fun k s wr => ∃ p acc, quotedL B k p acc = quotedM B a ∧ B.length < p + k ∧ a < p ∧ Sc B R tb toff cap w0 wr p d v ∧ Fr R none w wr ∧ wr.ownsRow w.heap.size 5 1 s acc.length (Lib.byteCells acc) ∧ acc.length ≤ 4 * p)
  case atStart => exact ⟨a + 1, [], rfl, by omega, by omega, h.stepZ (by omega) (by omega), (Fr.refl _ _ _).setR _ _, World.ownsRow_nil _ _ _ _, by simp⟩
  case round =>
    obtain ⟨p, acc, hq, hk, hap, hs, hf, hown, hacc⟩ := hrel
    have HQ : Hid (quotedL B gk p acc = quotedM B a) := hq
    clear hq
    have hple := hs.at_le
    obtain ⟨k, rfl⟩ : ∃ k, gk = k + 1 := ⟨gk - 1, by omega⟩
    have hRb : ∀ g, u3.ownBlock = some g → R < g := fun g hg => by have := (hown.lt g hg).1; omega
    have HD : Hid (quotedL B (k + 1) p acc = (peekM B p).andThen fun c _ => if c = 34 then .ok acc (p + 1) else (letterM B p).andThen fun r a' => quotedL B k a' (acc ++ Lib.encodeRune r)) := rfl
    by_cases hlp : p < B.length
    · by_cases h34 : byteAt B p = 34
      · have HN : Hid (quotedM B a = .ok acc (p + 1)) := by show _ = _; rw [← HQ.out, HD.out]; simp [peekM, hlp, Res.andThen, h34]
        have H38 : Hid (∀ w, Sc B R tb toff cap w0 w p d v → Calls Tryd.prog 55 #[.pointer (some ⟨R, 0, none⟩)] w fun e w' => e = .returned (.int .u8 (34 : Nat)) ∧ ∃ n, w' = w.drewN n) := by
          intro w hw; rw [← h34]; exact peek_ok HE.out hw hlp
        have hconv : ∀ (m : Nat) (z : Value), (convert 30 9 u3).run Tryd.prog ((wr.drewN m).setCell ⟨R, 1, none⟩ z) = .ok (.string ⟨acc.toArray⟩) ((wr.drewN m).setCell ⟨R, 1, none⟩ z) := by
          intro m z
          have o1 : (wr.drewN m).ownsRow w.heap.size 5 1 u3 acc.length (Lib.byteCells acc) := hown
          exact conv_own acc (ownsRow_setCell_other o1 (fun e => by have := hRb _ e; simp at this) z)
        have c1 := hs.rd.c1; have f1 := hs.rd.f 1
        clear h34
        go_wp2_with (go_at_call 55; refine (H38.out _ hs).mono ?_; rintro e w1 ⟨rfl, m, rfl⟩)
        go_ret
        rw [HN.out]
        exact ⟨rfl, (hs.drewN m).stepZ (by omega) (by omega), (hf.drewN m).setR _ _⟩
      · have h34' : ((byteAt B p : Int) == 34) = false := by simp; omega
        cases hM : letterM B p with
        | bad a1 c =>
          have HN : Hid (quotedM B a = .bad a1 c) := by show _ = _; rw [← HQ.out, HD.out]; simp [peekM, hlp, Res.andThen, h34, hM]
          have HM : Hid (letterM B p = .bad a1 c) := hM
          clear hM h34
          go_wp2_with (first | (go_at_call 55; refine (peek_ok HE.out hs hlp).mono ?_; rintro e w1 ⟨rfl, m, rfl⟩) | (go_at_call 64; refine (badS (letter_any HE.out (hs.drewN m)) HM.out).mono ?_; rintro e w2 ⟨rfl, hf2⟩))
          refine ⟨rfl, ?_⟩
          rw [HN.out]
          exact ⟨rfl, (hf.drewN m).trans0 hf2⟩
        | ok r a1 =>
          have HN : Hid (quotedL B k a1 (acc ++ Lib.encodeRune r) = quotedM B a) := by show _ = _; rw [← HQ.out, HD.out]; simp [peekM, hlp, Res.andThen, h34, hM]
          have hg := letterM_good B p r a1 hM
          have HM : Hid (letterM B p = .ok r a1) := hM
          have hr4 := Lib.runeCells_le r
          have hrl := Lib.runeCells_length r
          clear hM h34
          go_wp2_with (first | (go_at_call 55; refine (peek_ok HE.out hs hlp).mono ?_; rintro e w1 ⟨rfl, m, rfl⟩) | (go_at_call 64; refine (okS (letter_any HE.out (hs.drewN m)) HM.out).mono ?_; rintro e w2 ⟨rfl, hs2, hf2⟩; simp only [runev]; have o2 := own_fr (w := wr.drewN m) hown hf2 (fun g hg => ⟨by have := hRb g hg; omega, by simp⟩)) | (go_at_call 39; refine (append_rune u3 _ _ _ (by omega) (by omega) w2 _ o2 (by omega) (Nat.le_trans hf.size hf2.size)).mono ?_; rintro e w3 ⟨v', rfl, o3, ob, hg3⟩))
          go_roundg k
          case measure => omega
          case rel =>
            refine ⟨a1, acc ++ Lib.encodeRune r, HN.out, by omega, by omega, (hs2.alloc ob).grown hg3 hRb, grown_fr (((hf.drewN m).trans0 hf2).alloc ob) hg3 (fun g hg => (hown.lt g hg).1), ?_, ?_⟩
            · rw [List.length_append, ← hrl, Lib.byteCells, List.map_append]
              have := Lib.byteCells_encodeRune r
              unfold Lib.byteCells at this o3
              rw [this]
              exact o3
            · rw [List.length_append, ← hrl]; omega
    · have HN : Hid (quotedM B a = .bad p 21) := by show _ = _; rw [← HQ.out, HD.out]; simp [peekM, hlp, Res.andThen]
      go_wp2_with (go_at_call 55; refine (peek_end HE.out hs hlp).mono ?_; rintro e w1 ⟨rfl, m, rfl⟩)
      refine ⟨rfl, ?_⟩
      rw [HN.out]
      exact ⟨rfl, hf.drewN m⟩
end
end Go.Proofs.YtpffhckimilppaaDoor.Js