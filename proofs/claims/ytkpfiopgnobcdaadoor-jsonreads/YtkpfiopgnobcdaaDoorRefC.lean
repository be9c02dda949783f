/-
  What the half of the document's reader does.
-/
import Derived.Test.YtkpfiopgnobcdaaDoorRefB
namespace Go.Proofs.YtkpfiopgnobcdaaDoor
open Go.RowKit

/-- How a call ends that answers a number: behind a fault one of P. -/
def DoneI (B : List UInt8) (R cap : Nat) (ta : Option Addr) (w0 w : World) (v : Value) (n : Nat) (P : Int → Prop) : Res Nat → Ending → World → Prop
  | .ok x q, e, w' => e = .returned (.int .i64 x) ∧ RSc B R cap ta w0 w' q 0 0 v ∧ Fr R none w w'
  | .bad x c, e, w' => ∃ (X : Int) (q : Nat), e = .returned (.int .i64 X) ∧ P X ∧ q ≤ B.length + n ∧ RSc B R cap ta w0 w' q c x v ∧ Fr R none w w'
/-- The rune that a mark stands for. -/
def markM (c : Nat) : Option Nat := if c = 34 then some 34 else if c = 92 then some 92 else if c = 47 then some 47 else if c = 98 then some 8 else if c = 102 then some 12 else if c = 110 then some 10 else if c = 114 then some 13 else if c = 116 then some 9 else none
/-- A backslash at a, and what stands behind it. -/
def halfM (B : List UInt8) (f a : Nat) : Res Nat :=
  (peekM B (a + 1)).andThen fun c _ => match markM c with
    | some r => .ok r (a + 2)
    | none => if c = 117 then hexM B f 4 0 (a + 2) else .bad f 24
section
variable {B : List UInt8} {R cap : Nat} {ta : Option Addr} {w0 w w' : World} {a b p : Nat} {v : Value}
theorem RSc.alloc (h : RSc B R cap ta w0 w a b p v) (o : Obj) : RSc B R cap ta w0 (w.alloc o) a b p v :=
  ⟨h.below.alloc (Nat.le_of_lt h.rd.lt) o, h.rd.alloc o, h.at_le⟩
theorem fr_alloc (o : Obj) : Fr R none w (w.alloc o) := Fr.of_below ((Below.refl _ _).alloc (Nat.le_refl _) o)
def markL : List Nat := [34, 92, 47, 98, 102, 110, 114, 116]
def runeL : List Nat := [34, 92, 47, 8, 12, 10, 13, 9]
theorem mark_none {c : Nat} (h : ∀ j, j < 8 → markL.getD j 0 ≠ c) : markM c = none := by
  have h0 := h 0 (by decide); have h1 := h 1 (by decide); have h2 := h 2 (by decide); have h3 := h 3 (by decide)
  have h4 := h 4 (by decide); have h5 := h 5 (by decide); have h6 := h 6 (by decide); have h7 := h 7 (by decide)
  simp [markL] at h0 h1 h2 h3 h4 h5 h6 h7
  unfold markM
  repeat rw [if_neg (by omega)]
theorem mark_some : ∀ j, j < 8 → markM (markL.getD j 0) = some (runeL.getD j 0) := by decide
theorem idx_mark (j : Nat) (hj : j < 8) (w : World) : (Instr.index 9 (.string ⟨#[34, 92, 47, 98, 102, 110, 114, 116]⟩) (.int .i64 (j : Int))).run Tryd.prog w = .ok (.int .u8 (markL.getD j 0 : Nat)) w := by
  have : j = 0 ∨ j = 1 ∨ j = 2 ∨ j = 3 ∨ j = 4 ∨ j = 5 ∨ j = 6 ∨ j = 7 := by omega
  rcases this with rfl | rfl | rfl | rfl | rfl | rfl | rfl | rfl <;> rfl
theorem markL_lt (j : Nat) (hj : j < 8) : markL.getD j 0 < 256 := by
  have : ∀ j, j < 8 → markL.getD j 0 < 256 := by decide
  exact this j hj
theorem rune_cells (w : World) (j : Nat) (hj : j < 8) : (w.alloc (.cells #[.int .i64 34, .int .i64 92, .int .i64 47, .int .i64 8, .int .i64 12, .int .i64 10, .int .i64 13, .int .i64 9] 3)).cell? ⟨w.heap.size, j, none⟩ = some (.int .i64 (runeL.getD j 0 : Nat)) := by
  rw [cell_of_row _ w.heap.size j _ _ _ (heap_alloc_new w _)]
  have : j = 0 ∨ j = 1 ∨ j = 2 ∨ j = 3 ∨ j = 4 ∨ j = 5 ∨ j = 6 ∨ j = 7 := by omega
  rcases this with rfl | rfl | rfl | rfl | rfl | rfl | rfl | rfl <;> rfl
theorem hex_pow {n k e : Nat} (h : n < 16 ^ k) (he : e < 16) : 16 * n + e < 16 ^ (k + 1) := by rw [Nat.pow_succ]; omega
set_option maxRecDepth 100000 in
set_option maxHeartbeats 3200000 in
theorem half_good (E : REnv B R cap ta w0) (h : RSc B R cap ta w0 w a 0 0 v) (ha : a < B.length) (f : Nat) : Calls Tryd.prog 45 #[.pointer (some ⟨R, 0, none⟩), .int .i64 f] w (DoneI B R cap ta w0 w v 2 (fun X => X = 0) (halfM B f a)) := by
  have hl := E.len
  have HE : Hid (REnv B R cap ta w0) := E
  clear E
  have c1 := h.rd.c1; have f1 := h.rd.f 1
  by_cases hlt : a + 1 < B.length
  · obtain ⟨c, hc⟩ : ∃ c, Hid (byteAt B (a + 1) = c) := ⟨_, rfl⟩
    have hbq : c < 256 := by rw [← hc.out]; exact byteAt_lt B (a + 1)
    have HM : Hid (halfM B f a = match markM c with
      | some r => .ok r (a + 2)
      | none => if c = 117 then hexM B f 4 0 (a + 2) else .bad f 24) := by show _ = _; unfold halfM peekM; rw [if_pos hlt, hc.out]; rfl
    go_enter Tryd.func45, Tryd.ntmps45
    go_wp2_with (go_at_call 32; refine (here_ok HE.out (h.stepZ (a' := a + 1) (by go_num) (by omega)) hlt).mono ?_; rw [hc.out]; rintro e w1 ⟨rfl, hs1, hf1⟩; have c1' := hs1.rd.c1; have f1' := hs1.rd.f 1)
    have hrc := rune_cells (w1.setCell ⟨R, 1, none⟩ (.int .i64 ((a : Int) + 1 + 1)))
    have hsz : (w1.setCell ⟨R, 1, none⟩ (.int .i64 ((a : Int) + 1 + 1))).heap.size = w1.heap.size := by simp [World.setCell]
    rw [hsz] at hrc
    have hsW := (hs1.stepZ (a' := a + 2) (z := (a : Int) + 1 + 1) (by omega) (by omega)).alloc (.cells #[.int .i64 34, .int .i64 92, .int .i64 47, .int .i64 8, .int .i64 12, .int .i64 10, .int .i64 13, .int .i64 9] 3)
    have hfW := (((Fr.refl R none w).setR 1 (.int .i64 ((a : Int) + 1))).trans0 hf1).setR 1 (.int .i64 ((a : Int) + 1 + 1)) |>.trans0 (fr_alloc (.cells #[.int .i64 34, .int .i64 92, .int .i64 47, .int .i64 8, .int .i64 12, .int .i64 10, .int .i64 13, .int .i64 9] 3))
    generalize World.alloc (World.setCell w1 _ _) _ = Wl at hrc hsW hfW ⊢
    clear hs1 hf1 c1' f1' c1 f1 hsz
    have HRC : Hid (∀ j, j < 8 → Wl.cell? ⟨w1.heap.size, j, none⟩ = some (.int .i64 (runeL.getD j 0 : Nat))) := hrc
    clear hrc
    go_loop [8] (fun i => ∃ k : Nat, k ≤ 8 ∧ i = .int .i64 k ∧ ∀ j, j < k → markL.getD j 0 ≠ c) (fun i => 8 - (intOf i).toNat)
    case atStart => exact ⟨0, by omega, rfl, fun j hj => by omega⟩
    case round =>
      obtain ⟨k, hk, rfl, hno⟩ := hrel
      have HNO : Hid (∀ j, j < k → markL.getD j 0 ≠ c) := hno
      clear hno
      by_cases hk8 : k < 8
      · have hix := idx_mark k hk8
        have hml := markL_lt k hk8
        have hrk := HRC.out k hk8
        have HSOME := mark_some k hk8
        obtain ⟨mk, hmk⟩ : ∃ mk, markL.getD k 0 = mk := ⟨_, rfl⟩
        rw [hmk] at hix hml HSOME
        obtain ⟨rk, hrkk⟩ : ∃ rk, runeL.getD k 0 = rk := ⟨_, rfl⟩
        rw [hrkk] at hrk HSOME
        have HSO : Hid (markM mk = some rk) := HSOME
        have HMK : Hid (markL.getD k 0 = mk) := hmk
        clear HSOME hmk hrkk
        by_cases he : c = mk
        · subst he
          go_wp2
          go_ret
          rw [HM.out, HSO.out]
          exact ⟨rfl, hsW, hfW⟩
        · have he' : ((c : Int) == (mk : Int)) = false := by simp; omega
          go_wp2
          go_round
          case rel =>
            refine ⟨k + 1, by omega, by go_num, fun j hj => ?_⟩
            by_cases hjk : j < k
            · exact HNO.out j hjk
            · obtain rfl : j = k := by omega
              rw [HMK.out]; omega
          case measure => simp [intOf]; omega
      · obtain rfl : k = 8 := by omega
        have HMN : Hid (markM c = none) := mark_none HNO.out
        by_cases hu : c = 117
        · have HM2 : Hid (halfM B f a = hexM B f 4 0 (a + 2)) := by show _ = _; rw [HM.out, HMN.out]; simp only; rw [if_pos hu]
          subst hu
          go_wp2
          clear HRC
          go_loopw [9, 10] (fun x i wr => ∃ k n q : Nat, k ≤ 4 ∧ q ≤ B.length ∧ n < 16 ^ k ∧ x = .int .i64 n ∧ i = .int .i64 k ∧ hexM B f (4 - k) n q = hexM B f 4 0 (a + 2) ∧ RSc B R cap ta w0 wr q 0 0 v ∧ Fr R none w wr) (fun _ i _ => 4 - (intOf i).toNat)
          case atStart => exact ⟨0, 0, a + 2, by omega, by omega, by decide, rfl, rfl, rfl, hsW, hfW⟩
          case round =>
            clear hsW hfW
            obtain ⟨k2, n, q, hk2, hqB, hn, rfl, rfl, hx, hs, hf⟩ := hrel
            have HX : Hid (hexM B f (4 - k2) n q = hexM B f 4 0 (a + 2)) := hx
            have hn4 : n < 65536 := Nat.lt_of_lt_of_le hn (Nat.le_trans (Nat.pow_le_pow_right (by decide) hk2) (by decide))
            have HN : Hid (n < 16 ^ k2) := hn
            clear hx hn
            by_cases hk4 : k2 < 4
            · have HD : Hid (hexM B f (4 - k2) n q = if q < B.length then (if sixteenM (byteAt B q) < 0 then .bad f 24 else hexM B f (3 - k2) (16 * n + (sixteenM (byteAt B q)).toNat) (q + 1)) else .bad q 21) := by
                show _ = _; rw [show 4 - k2 = (3 - k2) + 1 by omega]; rfl
              by_cases hq : q < B.length
              · obtain ⟨d, hd⟩ : ∃ d, Hid (byteAt B q = d) := ⟨_, rfl⟩
                have hd256 : d < 256 := by rw [← hd.out]; exact byteAt_lt B q
                rw [if_pos hq, hd.out] at HD
                have hd0 : ¬ (d : Int) < 0 := by omega
                have six : (48 ≤ d ∧ d ≤ 57 ∧ sixteenM d = (d : Int) - 48) ∨ (97 ≤ d ∧ d ≤ 102 ∧ sixteenM d = (d : Int) - 87) ∨ (65 ≤ d ∧ d ≤ 70 ∧ sixteenM d = (d : Int) - 55) ∨ (¬ (48 ≤ d ∧ d ≤ 57) ∧ ¬ (97 ≤ d ∧ d ≤ 102) ∧ ¬ (65 ≤ d ∧ d ≤ 70) ∧ sixteenM d = -1) := by
                  unfold sixteenM digN
                  simp
                  split
                  · omega
                  · split
                    · omega
                    · split <;> omega
                rcases six with ⟨d1, d2, hsx⟩ | ⟨d1, d2, hsx⟩ | ⟨d1, d2, hsx⟩ | ⟨d1, d2, d3, hsx⟩
                · have HNX : Hid (hexM B f (3 - k2) (16 * n + (d - 48)) (q + 1) = hexM B f 4 0 (a + 2)) := by show _ = _; rw [← HX.out, HD.out, hsx, if_neg (by omega)]; congr 1; omega
                  have e1 : (48 : Int) ≤ (d : Int) := by omega
                  have e2 : (d : Int) ≤ 57 := by omega
                  go_wp2_with (go_at_call 32; refine (here_ok HE.out hs hq).mono ?_; rw [hd.out]; rintro e w2 ⟨rfl, hs2, hf2⟩; have c1' := hs2.rd.c1; have f1' := hs2.rd.f 1)
                  go_roundw
                  case rel => exact ⟨k2 + 1, 16 * n + (d - 48), q + 1, by omega, by omega, hex_pow HN.out (by omega), by congr 1; omega, by go_num, by rw [show 4 - (k2 + 1) = 3 - k2 by omega]; exact HNX.out, hs2.stepZ (by go_num) (by omega), (hf.trans0 hf2).setR _ _⟩
                  case measure => simp [intOf]; omega
                · have HNX : Hid (hexM B f (3 - k2) (16 * n + (d - 87)) (q + 1) = hexM B f 4 0 (a + 2)) := by show _ = _; rw [← HX.out, HD.out, hsx, if_neg (by omega)]; congr 1; omega
                  have e0 : ¬ (d : Int) ≤ 57 := by omega
                  have e1 : (97 : Int) ≤ (d : Int) := by omega
                  have e2 : (d : Int) ≤ 102 := by omega
                  go_wp2_with (go_at_call 32; refine (here_ok HE.out hs hq).mono ?_; rw [hd.out]; rintro e w2 ⟨rfl, hs2, hf2⟩; have c1' := hs2.rd.c1; have f1' := hs2.rd.f 1)
                  go_roundw
                  case rel => exact ⟨k2 + 1, 16 * n + (d - 87), q + 1, by omega, by omega, hex_pow HN.out (by omega), by congr 1; omega, by go_num, by rw [show 4 - (k2 + 1) = 3 - k2 by omega]; exact HNX.out, hs2.stepZ (by go_num) (by omega), (hf.trans0 hf2).setR _ _⟩
                  case measure => simp [intOf]; omega
                · have HNX : Hid (hexM B f (3 - k2) (16 * n + (d - 55)) (q + 1) = hexM B f 4 0 (a + 2)) := by show _ = _; rw [← HX.out, HD.out, hsx, if_neg (by omega)]; congr 1; omega
                  have e0 : ¬ (d : Int) ≤ 57 := by omega
                  have e00 : ¬ (97 : Int) ≤ (d : Int) := by omega
                  have e1 : (65 : Int) ≤ (d : Int) := by omega
                  have e2 : (d : Int) ≤ 70 := by omega
                  go_wp2_with (go_at_call 32; refine (here_ok HE.out hs hq).mono ?_; rw [hd.out]; rintro e w2 ⟨rfl, hs2, hf2⟩; have c1' := hs2.rd.c1; have f1' := hs2.rd.f 1)
                  go_roundw
                  case rel => exact ⟨k2 + 1, 16 * n + (d - 55), q + 1, by omega, by omega, hex_pow HN.out (by omega), by congr 1; omega, by go_num, by rw [show 4 - (k2 + 1) = 3 - k2 by omega]; exact HNX.out, hs2.stepZ (by go_num) (by omega), (hf.trans0 hf2).setR _ _⟩
                  case measure => simp [intOf]; omega
                · have HNX : Hid (hexM B f 4 0 (a + 2) = .bad f 24) := by show _ = _; rw [← HX.out, HD.out, hsx, if_pos (by omega)]
                  have hrg : d < 48 ∨ (57 < d ∧ d < 65) ∨ (70 < d ∧ d < 97) ∨ 102 < d := by omega
                  rcases hrg with hr | hr | hr | hr
                  · have g1 : ¬ (48 : Int) ≤ (d : Int) := by omega
                    have g2 : ¬ (97 : Int) ≤ (d : Int) := by omega
                    have g3 : ¬ (65 : Int) ≤ (d : Int) := by omega
                    clear d1 d2 d3 hsx
                    go_wp2_with (first | (go_at_call 32; refine (here_ok HE.out hs hq).mono ?_; rw [hd.out]; rintro e w2 ⟨rfl, hs2, hf2⟩) | (go_at_call 18; refine (no_good hs2 f 24).mono ?_; rintro e w3 ⟨rfl, hs3, hf3⟩))
                    go_ret
                    rw [HM2.out, HNX.out]
                    exact ⟨0, q, rfl, rfl, by omega, hs3, (hf.trans0 hf2).trans0 hf3⟩
                  · have g1 : (48 : Int) ≤ (d : Int) := by omega
                    have g1b : ¬ (d : Int) ≤ 57 := by omega
                    have g2 : ¬ (97 : Int) ≤ (d : Int) := by omega
                    have g3 : ¬ (65 : Int) ≤ (d : Int) := by omega
                    clear d1 d2 d3 hsx
                    go_wp2_with (first | (go_at_call 32; refine (here_ok HE.out hs hq).mono ?_; rw [hd.out]; rintro e w2 ⟨rfl, hs2, hf2⟩) | (go_at_call 18; refine (no_good hs2 f 24).mono ?_; rintro e w3 ⟨rfl, hs3, hf3⟩))
                    go_ret
                    rw [HM2.out, HNX.out]
                    exact ⟨0, q, rfl, rfl, by omega, hs3, (hf.trans0 hf2).trans0 hf3⟩
                  · have g1 : (48 : Int) ≤ (d : Int) := by omega
                    have g1b : ¬ (d : Int) ≤ 57 := by omega
                    have g2 : ¬ (97 : Int) ≤ (d : Int) := by omega
                    have g3 : (65 : Int) ≤ (d : Int) := by omega
                    have g3b : ¬ (d : Int) ≤ 70 := by omega
                    clear d1 d2 d3 hsx
                    go_wp2_with (first | (go_at_call 32; refine (here_ok HE.out hs hq).mono ?_; rw [hd.out]; rintro e w2 ⟨rfl, hs2, hf2⟩) | (go_at_call 18; refine (no_good hs2 f 24).mono ?_; rintro e w3 ⟨rfl, hs3, hf3⟩))
                    go_ret
                    rw [HM2.out, HNX.out]
                    exact ⟨0, q, rfl, rfl, by omega, hs3, (hf.trans0 hf2).trans0 hf3⟩
                  · have g1 : (48 : Int) ≤ (d : Int) := by omega
                    have g1b : ¬ (d : Int) ≤ 57 := by omega
                    have g2 : (97 : Int) ≤ (d : Int) := by omega
                    have g2b : ¬ (d : Int) ≤ 102 := by omega
                    have g3 : (65 : Int) ≤ (d : Int) := by omega
                    have g3b : ¬ (d : Int) ≤ 70 := by omega
                    clear d1 d2 d3 hsx
                    go_wp2_with (first | (go_at_call 32; refine (here_ok HE.out hs hq).mono ?_; rw [hd.out]; rintro e w2 ⟨rfl, hs2, hf2⟩) | (go_at_call 18; refine (no_good hs2 f 24).mono ?_; rintro e w3 ⟨rfl, hs3, hf3⟩))
                    go_ret
                    rw [HM2.out, HNX.out]
                    exact ⟨0, q, rfl, rfl, by omega, hs3, (hf.trans0 hf2).trans0 hf3⟩
              · have HNX : Hid (hexM B f 4 0 (a + 2) = .bad q 21) := by show _ = _; rw [← HX.out, HD.out, if_neg hq]
                obtain rfl : q = B.length := by omega
                go_wp2_with (go_at_call 32; refine (here_end HE.out hs hq).mono ?_; rintro e w2 ⟨rfl, hs2, hf2⟩)
                go_ret
                rw [HM2.out, HNX.out]
                exact ⟨0, B.length, rfl, rfl, by omega, hs2, hf.trans0 hf2⟩
            · obtain rfl : k2 = 4 := by omega
              go_wp2
              go_ret
              rw [HM2.out, ← HX.out]
              exact ⟨rfl, hs, hf⟩
        · have HM2 : Hid (halfM B f a = .bad f 24) := by show _ = _; rw [HM.out, HMN.out]; simp only; rw [if_neg hu]
          have hu' : ((c : Int) != 117) = true := by simp only [bne_iff_ne, ne_eq]; omega
          go_wp2_with (go_at_call 18; refine (no_good hsW f 24).mono ?_; rintro e w2 ⟨rfl, hs2, hf2⟩)
          go_ret
          rw [HM2.out]
          exact ⟨0, a + 2, rfl, rfl, by omega, hs2, hfW.trans0 hf2⟩
  · have HM2 : Hid (halfM B f a = .bad (a + 1) 21) := by show _ = _; unfold halfM peekM; rw [if_neg hlt]; rfl
    have HAE : Hid (a + 1 = B.length) := by show a + 1 = B.length; omega
    go_enter Tryd.func45, Tryd.ntmps45
    go_wp2_with (go_at_call 32; refine (here_end HE.out (h.stepZ (a' := a + 1) (by go_num) (by omega)) hlt).mono ?_; rintro e w1 ⟨rfl, hs1, hf1⟩; have c1' := hs1.rd.c1; have f1' := hs1.rd.f 1)
    have hsW := (hs1.stepZ (a' := a + 2) (z := (a : Int) + 1 + 1) (by omega) (by omega)).alloc (.cells #[.int .i64 34, .int .i64 92, .int .i64 47, .int .i64 8, .int .i64 12, .int .i64 10, .int .i64 13, .int .i64 9] 3)
    have hfW := (((Fr.refl R none w).setR 1 (.int .i64 ((a : Int) + 1))).trans0 hf1).setR 1 (.int .i64 ((a : Int) + 1 + 1)) |>.trans0 (fr_alloc (.cells #[.int .i64 34, .int .i64 92, .int .i64 47, .int .i64 8, .int .i64 12, .int .i64 10, .int .i64 13, .int .i64 9] 3))
    generalize World.alloc (World.setCell w1 _ _) _ = Wl at hsW hfW ⊢
    clear hs1 hf1 c1' f1' c1 f1
    go_loop [8] (fun i => ∃ k : Nat, k ≤ 8 ∧ i = .int .i64 k) (fun i => 8 - (intOf i).toNat)
    case atStart => exact ⟨0, by omega, rfl⟩
    case round =>
      obtain ⟨k, hk, rfl⟩ := hrel
      by_cases hk8 : k < 8
      · have hix := idx_mark k hk8
        have hml := markL_lt k hk8
        generalize markL.getD k 0 = mk at hix hml
        have he' : ((-1 : Int) == (mk : Int)) = false := by simp
        go_wp2
        go_round
        case rel => exact ⟨k + 1, by omega, by go_num⟩
        case measure => simp [intOf]; omega
      · obtain rfl : k = 8 := by omega
        go_wp2_with (go_at_call 18; refine (no_bad (b := 21) hsW (by decide) (f : Int) 24).mono ?_; rintro e w2 ⟨rfl, rfl⟩)
        go_ret
        rw [HM2.out, HAE.out]
        exact ⟨0, a + 2, rfl, rfl, by omega, hsW, hfW⟩
end
end Go.Proofs.YtkpfiopgnobcdaaDoor
