/-
  What the text of the document's reader does: a string.
-/
import Derived.Test.YtkpfiopgnobcdaaDoorRune
import Derived.Test.YtkpfiopgnobcdaaDoorList
import Derived.Lib.MapLaws
namespace Go.Proofs.YtkpfiopgnobcdaaDoor
open Go.RowKit

/-! ### plain -/
theorem getD_drop (B : List UInt8) (p j : Nat) : (B.drop p).getD j 0 = B.getD (p + j) 0 := by simp [List.getD_eq_getElem?_getD, List.getElem?_drop]
theorem decAt_L (B : List UInt8) (p : Nat) : decAt B p = Lib.decodeL (B.drop p) := by
  rw [Lib.decodeL_N]
  unfold decAt byteAt
  rw [getD_drop, getD_drop, getD_drop, getD_drop, List.length_drop]
  rfl
theorem dec_bytes (B : List UInt8) (p : Nat) (hp : p < B.length) (h : ¬ ((decAt B p).1 = 65533 ∧ (decAt B p).2 = 1)) : Lib.encodeRune ((decAt B p).1 : Nat) = (B.drop p).take (decAt B p).2 := by
  rw [decAt_L] at h ⊢
  exact Lib.encode_decode _ (by simp; omega) h
theorem runeM_at (B : List UInt8) (p : Nat) : runeM (B.length - p) (fun j => byteAt B (p + j)) = if (decAt B p).1 = 65533 ∧ (decAt B p).2 = 1 then 0 else (decAt B p).2 := by
  rw [rune_dec _ _ (fun j => byteAt_lt B (p + j))]
  have e : Lib.decodeN (B.length - p) (byteAt B (p + 0)) (byteAt B (p + 1)) (byteAt B (p + 2)) (byteAt B (p + 3)) = decAt B p := rfl
  rw [e]
  by_cases h : (decAt B p).1 = 65533 ∧ (decAt B p).2 = 1
  · rw [if_pos h, if_pos (Prod.ext h.1 h.2)]
  · rw [if_neg h, if_neg (fun e => h ⟨by rw [e], by rw [e]⟩)]
theorem esc_valid {B : List UInt8} {a r q : Nat} (h : escapeM B a = .ok r q) : ¬ (55296 ≤ r ∧ r < 57344) ∧ r < 1114112 := by
  rw [escape_half] at h
  cases hH : halfM B a a with
  | bad y c => rw [hH] at h; cases h
  | ok x q1 =>
    rw [hH] at h
    obtain ⟨hx, hq1⟩ := half_ok hH
    simp only [Res.andThen] at h
    split at h
    · simp only [Res.ok.injEq] at h
      obtain ⟨rfl, rfl⟩ := h
      omega
    · split at h
      · cases h
      · cases hH2 : halfM B a q1 with
        | bad y c => rw [hH2] at h; cases h
        | ok y q2 =>
          rw [hH2] at h
          simp only at h
          split at h
          · cases h
          · simp only [Res.ok.injEq] at h
            omega
theorem esc_code {B : List UInt8} {a y c : Nat} (h : escapeM B a = .bad y c) : c ≠ 0 := by
  rw [escape_half] at h
  cases hH : halfM B a a with
  | bad y2 c2 => rw [hH] at h; cases h; exact half_code hH
  | ok x q1 =>
    rw [hH] at h
    simp only [Res.andThen] at h
    split at h
    · cases h
    · split at h
      · cases h; decide
      · cases hH2 : halfM B a q1 with
        | bad y2 c2 => rw [hH2] at h; cases h; exact half_code hH2
        | ok y2 q2 =>
          rw [hH2] at h
          simp only at h
          split at h
          · cases h; decide
          · cases h

section
variable {B : List UInt8} {R cap : Nat} {ta : Option Addr} {w0 w w' : World} {a b p : Nat} {v : Value} {y : Addr}
theorem RdR.grown {t : Value} {row : Option Nat} (h : RdR w R t a b p v) (hg : w.grownBy w' row) (hne : row ≠ some R) : RdR w' R t a b p v := by
  unfold RdR; rw [hg.block R h.lt (fun e => hne e.symm)]; exact h
theorem RSc.grown {row : Option Nat} (h : RSc B R cap ta w0 w a b p v) (hg : w.grownBy w' row) (hrow : ∀ k, row = some k → R < k) : RSc B R cap ta w0 w' a b p v :=
  ⟨h.below.grown hg (Nat.le_of_lt h.rd.lt) (fun k e => by have := hrow k e; omega), h.rd.grown hg (fun e => by have := hrow R e; omega), h.at_le⟩
theorem escape_nat (E : REnv B R cap ta w0) (h : RSc B R cap ta w0 w a 0 0 v) (ha : a < B.length) {x c : Nat} (hM : escapeM B a = .bad x c) :
    Calls Tryd.prog 34 #[.pointer (some ⟨R, 0, none⟩)] w fun e w' => ∃ m q : Nat, e = .returned (.int .i64 m) ∧ m < 2097152 ∧ q ≤ B.length + 3 ∧ RSc B R cap ta w0 w' q c x v ∧ Fr R none w w' := by
  refine (badI (escape_good E h ha) hM).mono ?_
  rintro e w' ⟨X, q, rfl, hX, hq, hs, hf⟩
  exact ⟨X.toNat, q, by have := hX.1; rw [Int.toNat_of_nonneg this], by have := hX.1; have := hX.2; omega, hq, hs, hf⟩
theorem add_add (y : Addr) (i j : Nat) : (y.add i).add j = y.add (i + j) := by
  unfold Addr.add
  by_cases h1 : i = 0
  · subst h1; simp
  · by_cases h2 : j = 0
    · subst h2; simp
    · rw [if_neg h2, if_neg h1, if_neg (by omega)]
      simp; omega
/-- Rune of the text from a place on. -/
theorem rune_at (E : REnv B R cap (some y) w0) (h : RSc B R cap (some y) w0 w a b p v) {q n : Nat} (hq : q < B.length) (hn : (if (decAt B q).1 = 65533 ∧ (decAt B q).2 = 1 then 0 else (decAt B q).2) = n) :
    Calls Tryd.prog 35 #[.slice (some (y.add q)) (B.length - q) (cap - q)] w fun e w' => e = .returned (.int .i64 n) ∧ w' = w := by
  have hl := E.len
  have := rune_any (y.add q) (B.length - q) (cap - q) (fun j => byteAt B (q + j)) w (fun j hj => by
    obtain ⟨y2, e, hc⟩ := h.byte E (q + j) (by omega)
    cases e
    rw [add_add]; exact hc) (fun j => byteAt_lt B (q + j)) (by omega) (by omega)
  rw [runeM_at, hn] at this
  exact this
theorem byteCells_one' (l : List UInt8) : ∀ u ∈ Lib.byteCells l, u.oneCell' = true := by
  intro u hu
  obtain ⟨c, _, rfl⟩ := List.mem_map.1 hu
  rfl
/-- The bytes of the text from a place on, as cells. -/
theorem news_at (E : REnv B R cap (some y) w0) (h : RSc B R cap (some y) w0 w a b p v) {q n : Nat} : ∀ j u, (Lib.byteCells ((B.drop q).take n))[j]? = some u → w.cell? ((y.add q).add j) = some u := by
  intro j u hj
  unfold Lib.byteCells at hj
  rw [List.getElem?_map, Option.map_eq_some_iff] at hj
  obtain ⟨x, hx, rfl⟩ := hj
  rw [List.getElem?_take] at hx
  split at hx
  · rw [List.getElem?_drop] at hx
    obtain ⟨hlt, hxe⟩ := List.getElem?_eq_some_iff.1 hx
    obtain ⟨y2, e, hc⟩ := h.byte E (q + j) hlt
    cases e
    rw [add_add, hc]
    unfold byteAt
    rw [List.getD_eq_getElem?_getD, hx]
    rfl
  · cases hx
/-- How a call ends: behind a fault it answers some value of its type, at most n places behind the text. -/
def DoneG {α : Type} (B : List UInt8) (R cap : Nat) (ta : Option Addr) (w0 w : World) (v : Value) (n : Nat) (val : α → Value) : Res α → Ending → World → Prop
  | .ok x q, e, w' => e = .returned (val x) ∧ RSc B R cap ta w0 w' q 0 0 v ∧ Fr R none w w'
  | .bad x c, e, w' => ∃ (x0 : α) (q : Nat), e = .returned (val x0) ∧ q ≤ B.length + n ∧ RSc B R cap ta w0 w' q c x v ∧ Fr R none w w'
theorem okG {α : Type} {n : Nat} {val : α → Value} {f : FuncId} {args : Array Value} {M : Res α} {x : α} {a1 : Nat} (H : Calls Tryd.prog f args w (DoneG B R cap ta w0 w v n val M)) (h : M = .ok x a1) :
    Calls Tryd.prog f args w fun e w' => e = .returned (val x) ∧ RSc B R cap ta w0 w' a1 0 0 v ∧ Fr R none w w' := by
  subst h; exact H
theorem badG {α : Type} {n : Nat} {val : α → Value} {f : FuncId} {args : Array Value} {M : Res α} {x c : Nat} (H : Calls Tryd.prog f args w (DoneG B R cap ta w0 w v n val M)) (h : M = .bad x c) :
    Calls Tryd.prog f args w fun e w' => ∃ (x0 : α) (q : Nat), e = .returned (val x0) ∧ q ≤ B.length + n ∧ RSc B R cap ta w0 w' q c x v ∧ Fr R none w w' := by
  subst h; exact H
/-- What stands at a round of text: the reading goes on, or is over. -/
def TextR (B : List UInt8) (R cap : Nat) (ta : Option Addr) (w0 w : World) (v : Value) (M : Res (List UInt8)) (k : Nat) (s : Value) (wr : World) : Prop :=
  (∃ p acc, quotedL B k p acc = M ∧ B.length < p + k ∧ p ≤ B.length ∧ RSc B R cap ta w0 wr p 0 0 v ∧ Fr R none w wr ∧ wr.ownsRow w.heap.size 5 1 s acc.length (Lib.byteCells acc) ∧ acc.length ≤ 4 * p) ∨
  (∃ q c x, M = .bad x c ∧ c ≠ 0 ∧ q ≤ B.length + 3 ∧ RSc B R cap ta w0 wr q c x v ∧ Fr R none w wr)
set_option maxRecDepth 100000 in
set_option maxHeartbeats 3200000 in
theorem text_good (E : REnv B R cap ta w0) (h : RSc B R cap ta w0 w a 0 0 v) (ha : a < B.length) : Calls Tryd.prog 26 #[.pointer (some ⟨R, 0, none⟩)] w (DoneG B R cap ta w0 w v 3 strv (quotedM B a)) := by
  have hl := E.len
  have HE : Hid (REnv B R cap ta w0) := E
  clear E
  have c1 := h.rd.c1; have f1 := h.rd.f 1
  have hRw := h.rd.lt
  obtain ⟨M, hM⟩ : ∃ M, Hid (quotedM B a = M) := ⟨_, rfl⟩
  have HS : Hid (TextR B R cap ta w0 w v M (B.length + 1) (.slice none 0 0) (w.setCell ⟨R, 1, none⟩ (.int .i64 ((a : Int) + 1)))) :=
    .inl ⟨a + 1, [], by rw [← hM.out]; rfl, by omega, by omega, h.stepZ (by omega) (by omega), (Fr.refl _ _ _).setR _ _, World.ownsRow_nil _ _ _ _, by simp⟩
  rw [hM.out]
  clear hM h
  go_enter Tryd.func26, Tryd.ntmps26
  go_wp2
  clear c1 f1
  go_loopg [3] (B.length + 1) (fun k s wr => TextR B R cap ta w0 w v M k s wr)
  case atStart => exact HS.out
  case round =>
    clear HS
    rcases hrel with ⟨p, acc, hq, hk, hpB, hs, hf, hown, hacc⟩ | ⟨q, c, x, hMb, hc, hqB, hs, hf⟩
    · have HQ : Hid (quotedL B gk p acc = M) := hq
      clear hq
      obtain ⟨k, rfl⟩ : ∃ k, gk = k + 1 := ⟨gk - 1, by omega⟩
      have hRb : ∀ g, u3.ownBlock = some g → R < g := fun g hg => by have := (hown.lt g hg).1; omega
      have HD : Hid (quotedL B (k + 1) p acc = (peekM B p).andThen fun c _ => if c = 34 then .ok acc (p + 1) else (letterM B p).andThen fun r a' => quotedL B k a' (acc ++ Lib.encodeRune r)) := rfl
      by_cases hlp : p < B.length
      · obtain ⟨c, hcc⟩ : ∃ c, Hid (byteAt B p = c) := ⟨_, rfl⟩
        have hc256 : c < 256 := by rw [← hcc.out]; exact byteAt_lt B p
        have H32 := hide (here_ok HE.out hs hlp)
        rw [hcc.out] at H32
        have hc0 : ¬ (c : Int) < 0 := by omega
        by_cases h34 : c = 34
        · subst h34
          have HN : Hid (M = .ok acc (p + 1)) := by show _ = _; rw [← HQ.out, HD.out]; simp [peekM, hlp, Res.andThen, hcc.out]
          have HO := hide hown
          clear hown
          go_wp2_with (go_at_call 32; refine H32.out.mono ?_; rintro e w1 ⟨rfl, hs1, hf1⟩; have d1 := hs1.rd.c1; have z1 := hs1.rd.f 1; have hconv : (convert 22 9 u3).run Tryd.prog (w1.setCell ⟨R, 1, none⟩ (.int .i64 ((p : Int) + 1))) = .ok (.string ⟨acc.toArray⟩) (w1.setCell ⟨R, 1, none⟩ (.int .i64 ((p : Int) + 1))) := conv_own acc (ownsRow_setCell_other (own_fr HO.out hf1 (fun g hg => ⟨by have := hRb g hg; omega, by simp⟩)) (fun e => by have := hRb _ e; simp at this) _))
          go_ret
          rw [HN.out]
          exact ⟨rfl, hs1.stepZ (by omega) (by omega), (hf.trans0 hf1).setR _ _⟩
        · have h34' : ((c : Int) == 34) = false := by simp; omega
          by_cases h92 : c = 92
          · subst h92
            have HL : Hid (M = (escapeM B p).andThen fun r a' => quotedL B k a' (acc ++ Lib.encodeRune r)) := by
              show _ = _; rw [← HQ.out, HD.out]; simp [peekM, hlp, Res.andThen, hcc.out, letterM]
            have HO := hide hown
            clear hown
            cases hM : escapeM B p with
            | ok r a1 =>
              have HM : Hid (escapeM B p = .ok r a1) := hM
              have HN : Hid (quotedL B k a1 (acc ++ Lib.encodeRune r) = M) := by show _ = _; rw [HL.out, hM]; rfl
              have HV := hide (esc_valid hM)
              have hfi := escape_fine (B := B) (a := p) hlp
              rw [hM] at hfi
              obtain ⟨ha1, ha2⟩ := hfi
              have hr2 : r < 2097152 := by have := HV.out.2; omega
              clear hM
              go_wp2_with (first | (go_at_call 32; refine H32.out.mono ?_; rintro e w1 ⟨rfl, hs1, hf1⟩) | (go_at_call 34; refine (okI (escape_good HE.out hs1 hlp) HM.out).mono ?_; rintro e w2 ⟨rfl, hs2, hf2⟩; have o2 := hide (own_fr HO.out (hf1.trans0 hf2) (fun g hg => ⟨by have := hRb g hg; omega, by simp⟩))) | (go_at_call 33; refine (rput_any r hr2 w2 u3 acc.length (Lib.byteCells acc) w.heap.size (Nat.le_trans hf.size (Nat.le_trans hf1.size hf2.size)) o2.out (by omega)).mono ?_; rintro e w3 ⟨v', l, rfl, o3, _, hg3, hm3, hl4, hle⟩))
              go_roundg k
              case measure => omega
              case rel =>
                have hl : l = Lib.byteCells (Lib.encodeRune r) := hle HV.out.1 HV.out.2
                subst hl
                refine .inl ⟨a1, acc ++ Lib.encodeRune r, HN.out, by omega, ha2, hs2.grown hg3 hRb, grown_fr ((hf.trans0 hf1).trans0 hf2) hg3 (fun g hg => (HO.out.lt g hg).1), ?_, ?_⟩
                · have e1 : Lib.byteCells (acc ++ Lib.encodeRune r) = Lib.byteCells acc ++ Lib.byteCells (Lib.encodeRune r) := by simp [Lib.byteCells]
                  rw [e1, List.length_append]
                  rw [Lib.byteCells_length] at o3
                  exact o3
                · rw [Lib.byteCells_length] at hl4
                  rw [List.length_append]; omega
            | bad x c2 =>
              have HM : Hid (escapeM B p = .bad x c2) := hM
              have HN : Hid (M = .bad x c2) := by show _ = _; rw [HL.out, hM]; rfl
              have HC := hide (esc_code hM)
              clear hM
              go_wp2_with (first | (go_at_call 32; refine H32.out.mono ?_; rintro e w1 ⟨rfl, hs1, hf1⟩) | (go_at_call 34; refine (escape_nat HE.out hs1 hlp HM.out).mono ?_; rintro e w2 ⟨m, q, rfl, hm2, hq, hs2, hf2⟩; have o2 := hide (own_fr HO.out (hf1.trans0 hf2) (fun g hg => ⟨by have := hRb g hg; omega, by simp⟩))) | (go_at_call 33; refine (rput_any m hm2 w2 u3 acc.length (Lib.byteCells acc) w.heap.size (Nat.le_trans hf.size (Nat.le_trans hf1.size hf2.size)) o2.out (by omega)).mono ?_; rintro e w3 ⟨v', l, rfl, o3, _, hg3, hm3, hl4, hle⟩))
              go_roundg k
              case measure => omega
              case rel => exact .inr ⟨q, c2, x, HN.out, HC.out, hq, hs2.grown hg3 hRb, grown_fr ((hf.trans0 hf1).trans0 hf2) hg3 (fun g hg => (HO.out.lt g hg).1)⟩
          · have h92' : ((c : Int) == 92) = false := by simp; omega
            obtain ⟨y, rfl, _⟩ := hs.byte HE.out p hlp
            have k1 : ¬ cap = p := by have := HE.out.cap_ge; omega
            have k2 : (p : Int) ≤ (B.length : Int) := by omega
            have HO := hide hown
            clear hown
            have hcg := HE.out.cap_ge
            have hcl := HE.out.cap_le
            obtain ⟨n, hn⟩ : ∃ n, (if (decAt B p).1 = 65533 ∧ (decAt B p).2 = 1 then 0 else (decAt B p).2) = n := ⟨_, rfl⟩
            have HRn := hide hn
            have hds := dec_size (B := B) (a := p) hlp
            have hn4 : n ≤ 65536 ∧ p + n ≤ B.length := by rw [← hn]; split <;> omega
            by_cases h32 : c < 32
            · have HN : Hid (M = .bad p 22) := by show _ = _; rw [← HQ.out, HD.out]; simp [peekM, hlp, Res.andThen, hcc.out, letterM, h34, h32]
              have k3 : (c : Int) < 32 := by omega
              clear hn hds
              go_wp2_with (go_at_call 32; refine H32.out.mono ?_; rintro e w1 ⟨rfl, hs1, hf1⟩; have d0 := hs1.rd.c0; have d1 := hs1.rd.c1)
              go_quiet ((go_at_call 35; exact Calls.quiet_of_same (rune_at HE.out (hs1.drewN _) hlp HRn.out)))
              go_wp2_with (go_at_call 18; refine (no_good (hs1.drewN nq) p 22).mono ?_; rintro e w2 ⟨rfl, hs2, hf2⟩; have e2 := hs2.rd.c2)
              go_ret
              rw [HN.out]
              exact ⟨[], p, rfl, by omega, hs2, (hf.trans0 (hf1.drewN nq)).trans0 hf2⟩
            · have k3 : ¬ (c : Int) < 32 := by omega
              by_cases hn0 : n = 0
              · have hdec : (decAt B p).1 = 65533 ∧ (decAt B p).2 = 1 := by
                  by_cases hd : (decAt B p).1 = 65533 ∧ (decAt B p).2 = 1
                  · exact hd
                  · rw [if_neg hd] at hn; omega
                have HN : Hid (M = .bad p 23) := by show _ = _; rw [← HQ.out, HD.out]; simp [peekM, hlp, Res.andThen, hcc.out, letterM, h34, h32, h92, hdec]
                subst hn0
                clear hn hds hdec
                go_wp2_with (go_at_call 32; refine H32.out.mono ?_; rintro e w1 ⟨rfl, hs1, hf1⟩; have d0 := hs1.rd.c0; have d1 := hs1.rd.c1)
                go_quiet ((go_at_call 35; exact Calls.quiet_of_same (rune_at HE.out (hs1.drewN _) hlp HRn.out)))
                go_wp2_with (go_at_call 18; refine (no_good (hs1.drewN nq) p 23).mono ?_; rintro e w2 ⟨rfl, hs2, hf2⟩; have e2 := hs2.rd.c2)
                go_ret
                rw [HN.out]
                exact ⟨[], p, rfl, by omega, hs2, (hf.trans0 (hf1.drewN nq)).trans0 hf2⟩
              · have hdec : ¬ ((decAt B p).1 = 65533 ∧ (decAt B p).2 = 1) := fun hd => by rw [if_pos hd] at hn; omega
                rw [if_neg hdec] at hn
                have HEnc := hide (dec_bytes B p hlp hdec)
                rw [hn] at HEnc
                have HN : Hid (quotedL B k (p + n) (acc ++ Lib.encodeRune ((decAt B p).1 : Nat)) = M) := by show _ = _; rw [← HQ.out, HD.out]; rw [show letterM B p = .ok (decAt B p).1 (p + n) from by unfold letterM peekM; rw [if_pos hlp]; simp only [Res.andThen]; rw [hcc.out, if_neg h32, if_neg h92, if_neg hdec, hn], show peekM B p = .ok c p from by unfold peekM; rw [if_pos hlp, hcc.out]]; simp only [Res.andThen, if_neg h34]
                rw [HEnc.out] at HN
                have k4 : ((n : Int) == 0) = false := by simpa using hn0
                obtain ⟨i5, hi5, hz0, hz1, hz2⟩ := info_parts info5'
                have x1 : IntKind.i64.wrap ((p : Int) + (n : Int)) = (p : Int) + (n : Int) := by rw [IntKind.wrap]; simp [IntKind.signed, IntKind.bits]; omega
                have x2 : ((p : Int) + (n : Int)).toNat = p + n := by omega
                have x3 : (0 : Int) ≤ (p : Int) + (n : Int) := by omega
                have x4 : (p : Int) + (n : Int) ≤ (cap : Int) := by omega
                have x5 : p + n - p = n := by omega
                have HLn : Hid ((Lib.byteCells ((B.drop p).take n)).length = n * 1) := by show _ = _; rw [Lib.byteCells_length, List.length_take, List.length_drop]; omega
                have hlen2 : ((B.drop p).take n).length = n := by rw [List.length_take, List.length_drop]; omega
                have HLt := hide hlen2
                clear hn hds hdec hlen2
                go_wp2_with (go_at_call 32; refine H32.out.mono ?_; rintro e w1 ⟨rfl, hs1, hf1⟩; have d0 := hs1.rd.c0; have d1 := hs1.rd.c1; have d2 := hs1.rd.c2; have z1 := hs1.rd.f 1)
                go_quiet ((go_at_call 35; exact Calls.quiet_of_same (rune_at HE.out (hs1.drewN _) hlp HRn.out)))
                have HO1 := hide (own_fr HO.out (hf1.drewN (nq + 1)) (fun g hg => ⟨by have := hRb g hg; omega, by simp⟩))
                have HNw := hide (news_at (n := n) HE.out (hs1.drewN (nq + 1)) (q := p))
                go_wp2
                go_region_law (refine step_append rfl (.tmp 67) (.tmp 82) 22 rfl w.heap.size 5 i5 (.int .u8 0) 1 1 Tryd.underlying22 hi5 hz0 hz1 hz2 rfl (by decide) u3 acc.length (Lib.byteCells acc) rfl HO1.out (y.add p) n (cap - p) (Lib.byteCells ((B.drop p).take n)) rfl HLn.out HNw.out (byteCells_one' _) (by unfold maxLen; omega) (by omega) (by have := hf.size; have := hf1.size; rw [drewN_heap]; omega) ?_; intro v3 w3 ho hg hm; have hs3 := (hs1.drewN (nq + 1)).grown hg hRb; have t1 := hs3.rd.c1; have t2 := hs3.rd.f 1)
                all_goals
                  go_wp2
                  go_roundg k
                  case measure => omega
                  case rel =>
                    refine .inl ⟨p + n, acc ++ (B.drop p).take n, HN.out, by omega, hn4.2, hs3.stepZ (by omega) (by omega), (grown_fr (hf.trans0 (hf1.drewN (nq + 1))) hg (fun g hg => (HO.out.lt g hg).1)).setR _ _, ?_, ?_⟩
                    · have e1 : Lib.byteCells (acc ++ (B.drop p).take n) = Lib.byteCells acc ++ Lib.byteCells ((B.drop p).take n) := by simp [Lib.byteCells]
                      rw [e1, List.length_append, HLt.out]
                      exact ownsRow_setCell_other ho (fun e => by
                        rcases hm with h | ⟨g, h, h2⟩
                        · rw [h] at e; have := hRb _ e; simp at this
                        · rw [h] at e; have e' : g = R := by simpa using e
                          have := hs1.rd.lt; rw [drewN_heap] at h2; omega) _
                    · rw [List.length_append, HLt.out]; omega
      · have hpe : p = B.length := by omega
        subst hpe
        have HN : Hid (M = .bad B.length 21) := by show _ = _; rw [← HQ.out, HD.out]; simp [peekM, Res.andThen]
        have H32 := hide (here_end HE.out hs hlp)
        clear hown
        go_wp2_with (go_at_call 32; refine H32.out.mono ?_; rintro e w1 ⟨rfl, hs1, hf1⟩)
        go_ret
        rw [HN.out]
        exact ⟨[], B.length, rfl, by omega, hs1, hf.trans0 hf1⟩
    · subst hMb
      have H32 := hide (here_bad hs hc)
      go_wp2_with (go_at_call 32; refine H32.out.mono ?_; rintro e w1 ⟨rfl, rfl⟩)
      go_ret
      exact ⟨[], q, rfl, hqB, hs, hf⟩
end
end Go.Proofs.YtkpfiopgnobcdaaDoor
