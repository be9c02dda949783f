/-
  What Parse reads of a quoted string, and what the law ShowQuotes does.
-/
import Derived.Test.YtpffhckimilppaaDoorRQuo
import Derived.Test.YtpffhckimilppaaDoorJParse
import Derived.Test.YtpffhckimilppaaDoorAwakeS
import Derived.Lib.MapLaws
namespace Go.Proofs.YtpffhckimilppaaDoor
open Go.RowKit
set_option maxRecDepth 100000
theorem quoteFrom_le (s : ByteArray) : ∀ f p, (quoteFrom s f p).length ≤ 6 * f
  | 0, _ => by simp [quoteFrom]
  | f + 1, p => by
    unfold quoteFrom
    split
    · rw [List.length_append]
      have h1 := letterM_le (Utf8.decode s p).1
      have h2 := quoteFrom_le s f (p + (Utf8.decode s p).2)
      omega
    · simp
theorem quoteM_le (l : List UInt8) : (quoteM l).length ≤ 6 * l.length + 2 := by
  unfold quoteM
  simp only [List.length_append, List.length_cons, List.length_nil]
  have := quoteFrom_le ⟨l.toArray⟩ l.length 0
  omega
theorem dec_scalar (n b0 b1 b2 b3 : Nat) : (Lib.decodeN n b0 b1 b2 b3).1 < 55296 ∨ (57344 ≤ (Lib.decodeN n b0 b1 b2 b3).1 ∧ (Lib.decodeN n b0 b1 b2 b3).1 ≤ 1114111) := by
  unfold Lib.decodeN
  repeat' split
  all_goals simp only
  all_goals omega
theorem toU8 (n : Nat) (z : Int) (h : z = n) (h1 : n < 256) : (z.toNat.toUInt8).toNat = n := by
  subst h
  simp [Nat.toUInt8]; omega
/-- Bytes of a rune decode to the rune. -/
theorem dec_enc (r : Nat) (hr : r < 55296 ∨ (57344 ≤ r ∧ r ≤ 1114111)) (rest : List UInt8) : Lib.decodeL (Lib.encodeRune (r : Int) ++ rest) = (r, (Lib.encodeRune (r : Int)).length) := by
  rw [Lib.decodeL_N]
  unfold Lib.encodeRune
  by_cases h1 : r ≤ 127
  · rw [Lib.encodeRuneZ_one (by omega) (by omega)]
    simp only [List.map_cons, List.map_nil, List.length_cons, List.length_nil, List.cons_append, List.nil_append, List.getD_cons_zero]
    rw [toU8 r _ rfl (by omega)]
    unfold Lib.decodeN
    rw [if_pos (by omega)]
  · by_cases h2 : r ≤ 2047
    · rw [Lib.encodeRuneZ_two (by omega) (by omega)]
      simp only [List.map_cons, List.map_nil, List.length_cons, List.length_nil, List.cons_append, List.nil_append, List.getD_cons_zero, List.getD_cons_succ]
      rw [toU8 (192 + r / 64) _ (by omega) (by omega), toU8 (128 + r % 64) _ (by omega) (by omega)]
      unfold Lib.decodeN
      rw [if_neg (by omega), if_pos (by omega), if_pos (by omega)]
      refine Prod.ext ?_ rfl
      show (192 + r / 64) % 32 * 64 + (128 + r % 64) % 64 = r
      omega
    · by_cases h3 : r ≤ 65535
      · rw [Lib.encodeRuneZ_three (by omega)]
        simp only [List.map_cons, List.map_nil, List.length_cons, List.length_nil, List.cons_append, List.nil_append, List.getD_cons_zero, List.getD_cons_succ]
        rw [toU8 (224 + r / 4096) _ (by omega) (by omega), toU8 (128 + r / 64 % 64) _ (by omega) (by omega), toU8 (128 + r % 64) _ (by omega) (by omega)]
        unfold Lib.decodeN
        rw [if_neg (by omega), if_neg (by omega), if_pos (by omega), if_pos (by omega)]
        refine Prod.ext ?_ rfl
        show (224 + r / 4096) % 16 * 4096 + (128 + r / 64 % 64) % 64 * 64 + (128 + r % 64) % 64 = r
        omega
      · rw [Lib.encodeRuneZ_four (by omega) (by omega)]
        simp only [List.map_cons, List.map_nil, List.length_cons, List.length_nil, List.cons_append, List.nil_append, List.getD_cons_zero, List.getD_cons_succ]
        rw [toU8 (240 + r / 262144) _ (by omega) (by omega), toU8 (128 + r / 4096 % 64) _ (by omega) (by omega), toU8 (128 + r / 64 % 64) _ (by omega) (by omega), toU8 (128 + r % 64) _ (by omega) (by omega)]
        unfold Lib.decodeN
        rw [if_neg (by omega), if_neg (by omega), if_neg (by omega), if_pos (by omega), if_pos (by omega)]
        refine Prod.ext ?_ rfl
        show (240 + r / 262144) % 8 * 262144 + (128 + r / 4096 % 64) % 64 * 4096 + (128 + r / 64 % 64) % 64 * 64 + (128 + r % 64) % 64 = r
        omega
/-- The first byte of a rune's bytes. -/
theorem enc_head (r : Nat) (hr : r < 55296 ∨ (57344 ≤ r ∧ r ≤ 1114111)) (rest : List UInt8) : (r < 128 → ((Lib.encodeRune (r : Int) ++ rest).getD 0 0).toNat = r) ∧ (128 ≤ r → 128 ≤ ((Lib.encodeRune (r : Int) ++ rest).getD 0 0).toNat) := by
  refine ⟨fun h => ?_, fun h => ?_⟩
  · unfold Lib.encodeRune
    rw [Lib.encodeRuneZ_one (by omega) (by omega)]
    simp only [List.map_cons, List.map_nil, List.cons_append, List.nil_append, List.getD_cons_zero]
    rw [toU8 r _ rfl (by omega)]
  · have := dec_enc r hr rest
    rw [Lib.decodeL_N] at this
    by_cases hc : ((Lib.encodeRune (r : Int) ++ rest).getD 0 0).toNat < 128
    · unfold Lib.decodeN at this
      rw [if_pos hc] at this
      have h2 := congrArg Prod.fst this
      simp only at h2
      omega
    · omega
theorem enc_ne (r : Nat) : 1 ≤ (Lib.encodeRune (r : Int)).length := by
  have := (Lib.encodeRuneZ_length (r : Int)).1
  unfold Lib.encodeRune
  rw [List.length_map]; exact this
section
variable {B : List UInt8}
theorem js_byte (B : List UInt8) (i : Nat) : Js.byteAt B i = byteAt B i := rfl
theorem js_dec (B : List UInt8) (i : Nat) : Js.decAt B i = decAt B i := rfl
theorem byte_drop (a j : Nat) (X : List UInt8) (h : B.drop a = X) : Js.byteAt B (a + j) = (X.getD j 0).toNat := by
  rw [← h, getD_drop]; rfl
theorem q_end {k a : Nat} {s : List UInt8} (ha : a < B.length) (h : Js.byteAt B a = 34) : Js.quotedL B (k + 1) a s = .ok s (a + 1) := by
  unfold Js.quotedL Js.peekM
  rw [if_pos ha]
  simp only [Js.Res.andThen]
  rw [if_pos h]
theorem q_step {k a r q : Nat} {s : List UInt8} (ha : a < B.length) (h : Js.byteAt B a ≠ 34) (hl : Js.letterM B a = .ok r q) : Js.quotedL B (k + 1) a s = Js.quotedL B k q (s ++ Lib.encodeRune r) := by
  conv => lhs; unfold Js.quotedL Js.peekM
  rw [if_pos ha]
  simp only [Js.Res.andThen]
  rw [if_neg h, hl]
theorem six_hex (k : Nat) (hk : k < 16) : Js.sixteenM (hexM k).toNat = (k : Int) := by
  have : ∀ k : Fin 16, Js.sixteenM (hexM k.1).toNat = (k.1 : Int) := by decide +kernel
  exact this ⟨k, hk⟩
theorem hex_four {f a : Nat} {v0 v1 v2 v3 : Nat} (ha : a + 3 < B.length) (h0 : Js.sixteenM (Js.byteAt B a) = v0) (h1 : Js.sixteenM (Js.byteAt B (a + 1)) = v1) (h2 : Js.sixteenM (Js.byteAt B (a + 2)) = v2) (h3 : Js.sixteenM (Js.byteAt B (a + 3)) = v3) :
    Js.hexM B f 4 0 a = .ok (4096 * v0 + 256 * v1 + 16 * v2 + v3) (a + 4) := by
  have h2 : Js.sixteenM (Js.byteAt B (a + 1 + 1)) = v2 := h2
  have h3 : Js.sixteenM (Js.byteAt B (a + 1 + 1 + 1)) = v3 := h3
  simp only [Js.hexM]
  rw [if_pos (by omega), if_neg (by omega), if_pos (by omega), if_neg (by omega), if_pos (by omega), if_neg (by omega), if_pos (by omega), if_neg (by omega), h0, h1, h2, h3]
  simp only [Int.toNat_natCast]
  congr 1; omega
/-- A letter, as it was quoted, is read. -/
theorem read_letter {a r : Nat} {rest : List UInt8} (hr : r < 55296 ∨ (57344 ≤ r ∧ r ≤ 1114111)) (h : B.drop a = letterM r ++ rest) : a < B.length ∧ Js.byteAt B a ≠ 34 ∧ Js.letterM B a = .ok r (a + (letterM r).length) := by
  have hlen : B.length - a = (letterM r).length + rest.length := by rw [← List.length_drop, h, List.length_append]
  have hb := fun j => byte_drop (B := B) a j _ h
  have hb0 : Js.byteAt B a = ((letterM r ++ rest).getD 0 0).toNat := hb 0
  by_cases h1 : r = 34 ∨ r = 92
  · have e : letterM r = [92, r.toUInt8] := by unfold letterM; rw [if_pos h1]
    rw [e] at hlen hb hb0
    simp only [List.length_cons, List.length_nil] at hlen
    have b1 : Js.byteAt B (a + 1) = r := by
      rw [hb 1]
      rcases h1 with rfl | rfl <;> rfl
    have b0 : Js.byteAt B a = 92 := hb0
    refine ⟨by omega, by omega, ?_⟩
    unfold Js.letterM Js.peekM
    rw [if_pos (by omega)]
    simp only [Js.Res.andThen]
    rw [if_neg (by omega), if_pos b0]
    unfold Js.escapeM Js.peekM
    rw [if_pos (by omega)]
    simp only [Js.Res.andThen]
    rw [if_pos (by omega), e, b1]
    rfl
  · by_cases h2 : r < 32
    · have e : letterM r = [92, 117, 48, 48, hexM (r / 16), hexM (r % 16)] := by unfold letterM; rw [if_neg h1, if_pos h2]
      rw [e] at hlen hb hb0
      simp only [List.length_cons, List.length_nil] at hlen
      have b0 : Js.byteAt B a = 92 := hb0
      have b1 : Js.byteAt B (a + 1) = 117 := hb 1
      have b2 : Js.byteAt B (a + 2) = 48 := hb 2
      have b3 : Js.byteAt B (a + 3) = 48 := hb 3
      have b4 : Js.byteAt B (a + 4) = (hexM (r / 16)).toNat := hb 4
      have b5 : Js.byteAt B (a + 5) = (hexM (r % 16)).toNat := hb 5
      have hx := hex_four (B := B) (f := a) (a := a + 2) (v0 := 0) (v1 := 0) (v2 := r / 16) (v3 := r % 16) (by omega) (by rw [b2]; rfl) (by rw [show a + 2 + 1 = a + 3 by omega, b3]; rfl) (by rw [show a + 2 + 2 = a + 4 by omega, b4]; exact six_hex _ (by omega)) (by rw [show a + 2 + 3 = a + 5 by omega, b5]; exact six_hex _ (by omega))
      refine ⟨by omega, by omega, ?_⟩
      unfold Js.letterM Js.peekM
      rw [if_pos (by omega)]
      simp only [Js.Res.andThen]
      rw [if_neg (by omega), if_pos b0]
      unfold Js.escapeM Js.peekM
      rw [if_pos (by omega)]
      simp only [Js.Res.andThen]
      rw [if_neg (by omega), if_neg (by omega), if_neg (by omega), if_neg (by omega), if_neg (by omega), if_neg (by omega), if_pos b1]
      unfold Js.codedM
      rw [hx]
      simp only [Js.Res.andThen]
      rw [if_pos (by omega), e]
      simp only [List.length_cons, List.length_nil]
      congr 1
      omega
    · have e : letterM r = Lib.encodeRune (r : Int) := by unfold letterM; rw [if_neg h1, if_neg h2]
      rw [e] at hlen hb hb0 h
      have hd : Js.decAt B a = (r, (Lib.encodeRune (r : Int)).length) := by rw [js_dec, decAt_L, h]; exact dec_enc r hr rest
      have hh := enc_head r hr rest
      have hn := enc_ne r
      have hbr : (Js.byteAt B a = r ∧ r < 128) ∨ 128 ≤ Js.byteAt B a := by
        rcases Nat.lt_or_ge r 128 with hc | hc
        · left; exact ⟨by rw [hb0]; exact hh.1 hc, hc⟩
        · right; rw [hb0]; exact hh.2 hc
      have hw : ¬ (r = 65533 ∧ (Lib.encodeRune (r : Int)).length = 1) := by
        rintro ⟨rfl, h5⟩
        revert h5
        decide +kernel
      refine ⟨by omega, by omega, ?_⟩
      unfold Js.letterM Js.peekM
      rw [if_pos (by omega)]
      simp only [Js.Res.andThen]
      rw [if_neg (by omega), if_neg (by omega), hd, if_neg hw, e]
def textL (s : List UInt8) : Nat → Nat → List UInt8
  | 0, _ => []
  | f + 1, p => if p < s.length then Lib.encodeRune ((decAt s p).1 : Nat) ++ textL s f (p + (decAt s p).2) else []
theorem letter_one (r : Nat) : 1 ≤ (letterM r).length := by
  unfold letterM
  split
  · simp
  · split
    · simp
    · exact enc_ne r
theorem read_quote (s : List UInt8) : ∀ (f p a k : Nat) (acc : List UInt8), s.length ≤ p + f → B.drop a = quoteL s f p ++ [34] → (quoteL s f p).length + 1 ≤ k → Js.quotedL B k a acc = .ok (acc ++ textL s f p) (a + (quoteL s f p).length + 1)
  | 0, p, a, k, acc, hf, h, hk => by
    obtain ⟨k, rfl⟩ : ∃ j, k = j + 1 := ⟨k - 1, by omega⟩
    have hlen : B.length - a = 1 := by rw [← List.length_drop, h]; rfl
    rw [q_end (by omega) (by rw [show a = a + 0 from rfl, byte_drop a 0 _ h]; rfl)]
    simp [textL, quoteL]
  | f + 1, p, a, k, acc, hf, h, hk => by
    obtain ⟨k, rfl⟩ : ∃ j, k = j + 1 := ⟨k - 1, by omega⟩
    by_cases hp : p < s.length
    · have eq : quoteL s (f + 1) p = letterM (decAt s p).1 ++ quoteL s f (p + (decAt s p).2) := by simp [quoteL, hp]
      have et : textL s (f + 1) p = Lib.encodeRune ((decAt s p).1 : Nat) ++ textL s f (p + (decAt s p).2) := by simp [textL, hp]
      rw [eq, List.append_assoc] at h
      rw [eq, List.length_append] at hk
      have hw : 1 ≤ (decAt s p).2 := by rw [decAt_L]; exact Lib.decodeL_width _
      have hsc : (decAt s p).1 < 55296 ∨ (57344 ≤ (decAt s p).1 ∧ (decAt s p).1 ≤ 1114111) := dec_scalar _ _ _ _ _
      obtain ⟨h1, h2, h3⟩ := read_letter hsc h
      have h4 := letter_one (decAt s p).1
      rw [q_step h1 h2 h3, read_quote s f (p + (decAt s p).2) (a + (letterM (decAt s p).1).length) k _ (by omega) (by rw [← List.drop_drop, h]; simp) (by omega), eq, et]
      simp only [List.length_append, List.append_assoc]
      congr 1; omega
    · have eq : quoteL s (f + 1) p = [] := by simp [quoteL, hp]
      have et : textL s (f + 1) p = [] := by simp [textL, hp]
      rw [eq] at h hk ⊢
      rw [et]
      have hlen : B.length - a = 1 := by rw [← List.length_drop, h]; rfl
      rw [q_end (by omega) (by rw [show a = a + 0 from rfl, byte_drop a 0 _ h]; rfl)]
      simp
theorem text_valid (s : List UInt8) : ∀ (f p : Nat), s.length ≤ p + f → Lib.validGoD f (s.drop p) = true → textL s f p = s.drop p
  | 0, p, hf, _ => by rw [List.drop_eq_nil_of_le (by omega)]; rfl
  | f + 1, p, hf, hv => by
    by_cases hp : p < s.length
    · rw [valid_step s f p hp] at hv
      split at hv
      · cases hv
      · rename_i hb
        have hw : 1 ≤ (decAt s p).2 := by rw [decAt_L]; exact Lib.decodeL_width _
        have et : textL s (f + 1) p = Lib.encodeRune ((decAt s p).1 : Nat) ++ textL s f (p + (decAt s p).2) := by simp [textL, hp]
        rw [et, text_valid s f _ (by omega) hv, dec_bytes s p hp hb, ← List.drop_drop]
        exact List.take_append_drop _ _
    · rw [List.drop_eq_nil_of_le (by omega)]; simp [textL, hp]
end
/-- A quoted string, read whole. -/
theorem read_quoted (s : List UInt8) : Js.readM (quoteM s) = .ok [{ kind := 4, text := textL s s.length 0 }] 0 := by
  have hq : quoteM s = [34] ++ quoteL s s.length 0 ++ [34] := by rw [quoteM, quoteL_from]
  rw [hq]
  generalize hB : [34] ++ quoteL s s.length 0 ++ [34] = B
  have hlen : B.length = (quoteL s s.length 0).length + 2 := by rw [← hB]; simp
  have b0 : Js.byteAt B 0 = 34 := by rw [← hB]; rfl
  have hd : B.drop 1 = quoteL s s.length 0 ++ [34] := by rw [← hB]; simp
  have h1 := read_quote (B := B) s s.length 0 1 (B.length + 1) [] (by omega) hd (by omega)
  have hs0 : Js.skip B 0 = 0 := Js.run_no _ _ _ (fun _ => by rw [b0]; rfl)
  have hs1 : Js.skip B B.length = B.length := Js.run_no _ _ _ (fun h => absurd h (Nat.lt_irrefl _))
  have e2 : 1 + (quoteL s s.length 0).length + 1 = B.length := by omega
  rw [e2, List.nil_append] at h1
  unfold Js.readM Js.valueM Js.valueS Js.aheadM Js.peekM
  rw [hs0, if_pos (by omega)]
  simp only [Js.Res.andThen]
  rw [b0]
  unfold Js.begunM Js.quotedM
  rw [if_neg (by omega), if_neg (by omega), if_neg (by omega), if_pos rfl, h1]
  simp only [Js.Res.andThen]
  rw [if_neg (by simp)]
  simp only [hs1]
  rw [if_neg (by omega)]
  rfl
theorem nil_row (w : World) (b : Nat) : BRow w b (.slice none 0 0) [] := brow_nil _ _
set_option maxHeartbeats 800000 in
theorem rquoteS_any (l : List UInt8) (hl : l.length ≤ 17592186044416) (w : World) :
    Calls Tryd.prog 17 #[.string ⟨l.toArray⟩] w fun e w' => e = .returned (.string ⟨(quoteM l).toArray⟩) ∧ Below w.heap.size w w' := by
  have hq := quoteM_le l
  have HC := hide (rquote_any (base := w.heap.size) (w := w) (v := .slice none 0 0) (bs := []) l hl (brow_nil _ _) (Nat.le_refl _) (by simp only [List.length_nil]; omega))
  go_enter Tryd.func17, Tryd.ntmps17
  go_wp2_with (go_at_call 29; refine HC.out.mono ?_; rintro e w1 ⟨v1, rfl, h1⟩; have H1 := hide (h1.below (brow_nil _ _) (Below.refl _ _) (Nat.le_refl _)); have g1 := conv_own h1.row; rw [List.nil_append] at g1; clear h1)
  go_ret
  exact ⟨rfl, H1.out⟩
/-- One value that was read, as it lies. -/
theorem one_own {w : World} {v : Value} {x : Js.V} {cs : List Value} (ho : w.ownsRow 0 42 6 v [x].length cs) (hr : Js.Reps w cs [x]) :
    ∃ g cap, v = .slice (some ⟨g, 0, none⟩) 1 cap ∧ w.cell? ⟨g, 0, none⟩ = some (.int .i64 x.kind) ∧ w.cell? ⟨g, 3, none⟩ = some (.string ⟨x.text.toArray⟩) := by
  obtain ⟨nv, kv, rest, rfl, _, _⟩ := hr
  rcases ho.2 with ⟨rfl, h0⟩ | ⟨g, cap, cur, rfl, _⟩
  · simp at h0
  · have hc : ∀ j u, (Js.aggL x nv kv ++ rest)[j]? = some u → w.cell? ((⟨g, 0, none⟩ : Addr).add j) = some u := World.ownsRow.cells (g := g) ho rfl
    refine ⟨g, cap, rfl, ?_, ?_⟩
    · have := hc 0 _ rfl
      rw [add0] at this; exact this
    · have := hc 3 _ rfl
      rw [add0] at this; exact this
theorem conv_cap (w : World) (l : List UInt8) (hl : l.length ≤ 100000) : ∃ cap o, l.length ≤ cap ∧ (convert 9 30 (.string ⟨l.toArray⟩)).run Tryd.prog w = .ok (.slice (some ⟨w.heap.size, 0, none⟩) l.length cap) (w.drew.alloc o) ∧ BytesIn (w.drew.alloc o) w.heap.size l ∧ cap ≤ 9223372036854775807 := by
  have hz : (⟨l.toArray⟩ : ByteArray).size = l.length := by simp [ByteArray.size]
  have h := run_bytes_of_string (P := Tryd.prog) w 9 30 5 ⟨l.toArray⟩ Tryd.underlying9 Tryd.underlying30 Tryd.underlying5
  rw [hz] at h
  refine ⟨_, _, grownCap_ge w l.length 0 5, h, fun j hj => ?_, ?_⟩
  · rw [cell_of_row _ w.heap.size j _ _ _ (show (w.drew.alloc _).heap[w.heap.size]? = _ from heap_alloc_new w.drew _)]
    unfold bytesRow byteAt
    rw [Array.getElem?_append_left (by simpa using hj)]
    simp [List.getD_eq_getElem?_getD, hj]
  · have := grownCap_le_maxLen w l.length 0 5 (by unfold maxLen; omega)
    unfold maxLen at this; exact this
set_option maxHeartbeats 3200000 in
theorem quotes_any (l : List UInt8) (hlm : l.length ≤ 9223372036854775807) (w : World) (hU : TabU w) (hP : Tab w) (h2 : 2 ≤ w.heap.size) :
    Calls Tryd.prog 5 #[.string ⟨l.toArray⟩] w fun e w' => e = .returned (.bool true) ∧ Below w.heap.size w w' := by
  have HAW := hide (awake_any w hU hP)
  have hsz : (⟨l.toArray⟩ : ByteArray).size = l.length := by simp [ByteArray.size]
  by_cases h1 : 9000 < l.length
  · have z1 : (9000 : Int) < (l.length : Int) := by omega
    clear hU hP
    go_enter Tryd.func5, Tryd.ntmps5
    go_wp2_with (first
      | (go_at_call 10; refine HAW.out.mono ?_; rintro e w1 ⟨rfl, k2⟩; have H1 := hide k2; clear k2))
    go_ret
    exact ⟨rfl, H1.out⟩
  · have z1 : ¬ (9000 : Int) < (l.length : Int) := by omega
    have HQ := hide (fun (w' : World) => quote_any l (by omega) w')
    have HR := hide (fun (w' : World) => rquoteS_any l (by omega) w')
    have HUT := hide (fun (w' : World) => utf_any l hlm w')
    have hql := quoteM_le l
    have HRD := hide (read_quoted l)
    have HTX : Hid (Lib.validD l = true → textL l l.length 0 = l) := fun hv => by
      have := text_valid l l.length 0 (by omega) (by rw [List.drop_zero]; exact hv)
      rw [List.drop_zero] at this; exact this
    generalize textL l l.length 0 = t at HRD HTX
    obtain ⟨q, hq⟩ : ∃ q, quoteM l = q := ⟨_, rfl⟩
    rw [hq] at HQ HR HRD hql
    have HPJ : Hid (∀ (w1 w' : World) (tb cap : Nat), Below w.heap.size w w1 → Below w1.heap.size w1 w' → BytesIn w' tb q → tb < w'.heap.size → q.length ≤ cap → cap ≤ 9223372036854775807 → Calls Tryd.prog 18 #[.slice (some ⟨tb, 0, none⟩) q.length cap] w' fun e w'' => ∃ g c, e = .returned (.tuple #[.slice (some ⟨g, 0, none⟩) 1 c, .int .i64 0, .int .i64 0]) ∧ w''.cell? ⟨g, 0, none⟩ = some (.int .i64 4) ∧ w''.cell? ⟨g, 3, none⟩ = some (.string ⟨t.toArray⟩) ∧ Below w'.heap.size w' w'') := fun w1 w' tb cap hb1 hb2 hby htb hc hcm => by
      have hU' : Lib.Utf8Tabs 0 1 w' := (hU.later hb1).later hb2
      have hj := Js.parse_json (B := q) (tb := tb) (toff := 0) (cap := cap) (w := w') (fun j hj => by rw [Nat.zero_add]; exact hby j hj) htb hc hcm hU' (Nat.le_trans h2 (Nat.le_trans hb1.size hb2.size))
      have hp : Js.parseM q = .ok [{ kind := 4, text := t }] 0 := by
        unfold Js.parseM; rw [if_neg (by omega), HRD.out]
      rw [hp] at hj
      refine hj.mono ?_
      rintro e w'' ⟨v, cs, rfl, ho, hr, hb⟩
      obtain ⟨g, c, rfl, c0, c3⟩ := one_own ho hr
      exact ⟨g, c, rfl, c0, c3, hb⟩
    have HW2 : Hid (∀ w1 : World, Below w.heap.size w w1 → ∃ cap o, (convert 9 30 (.string ⟨q.toArray⟩)).run Tryd.prog w1 = .ok (.slice (some ⟨w1.heap.size, 0, none⟩) q.length cap) (w1.drew.alloc o) ∧ Calls Tryd.prog 18 #[.slice (some ⟨w1.heap.size, 0, none⟩) q.length cap] (w1.drew.alloc o) fun e w'' => ∃ g c, e = .returned (.tuple #[.slice (some ⟨g, 0, none⟩) 1 c, .int .i64 0, .int .i64 0]) ∧ w''.cell? ⟨g, 0, none⟩ = some (.int .i64 4) ∧ w''.cell? ⟨g, 3, none⟩ = some (.string ⟨t.toArray⟩) ∧ Below w.heap.size w w'') := fun w1 hb => by
      obtain ⟨cap, o, hcap, hcv, hby, hcm⟩ := conv_cap w1 q (by omega)
      have hb2 : Below w1.heap.size w1 (w1.drew.alloc o) := (Below.refl w1.heap.size w1).drew.alloc (Nat.le_refl _) o
      refine ⟨cap, o, hcv, (HPJ.out w1 _ w1.heap.size cap hb hb2 hby (by simp) hcap hcm).mono ?_⟩
      rintro e w'' ⟨g, c, rfl, c0, c3, hb3⟩
      exact ⟨g, c, rfl, c0, c3, below_on (below_on hb hb2) hb3⟩
    clear HPJ hU hP HRD hql hq
    cases hv : Lib.validD l
    · rw [hv] at HUT
      clear hv HTX
      go_enter Tryd.func5, Tryd.ntmps5
      go_wp2_with (first
        | (go_at_call 10; refine HAW.out.mono ?_; rintro e w1 ⟨rfl, k2⟩; have H1 := hide k2; clear k2)
        | (go_at_call 16; refine (HQ.out _).mono ?_; rintro e w2 ⟨rfl, k2⟩; have H2 := hide (below_on H1.out k2); clear k2)
        | (go_at_call 17; refine (HR.out _).mono ?_; rintro e w3 ⟨rfl, k2⟩; have H3 := hide (below_on H2.out k2); obtain ⟨cap, o, hcv, hpj⟩ := HW2.out w3 H3.out; have HPJ := hide hpj; clear k2 hpj)
        | (go_at_call 18; refine HPJ.out.mono ?_; rintro e w4 ⟨g, c, rfl, c0, c3, k4⟩; have H4 := hide k4; clear k4)
        | (go_at_call 19; refine (HUT.out _).mono ?_; rintro e w5 ⟨rfl, k2⟩; have H5 := hide (below_on H4.out k2); clear k2))
      go_ret
      exact ⟨rfl, H5.out⟩
    · rw [hv] at HUT
      have htx := HTX.out hv
      subst htx
      clear hv HTX
      go_enter Tryd.func5, Tryd.ntmps5
      go_wp2_with (first
        | (go_at_call 10; refine HAW.out.mono ?_; rintro e w1 ⟨rfl, k2⟩; have H1 := hide k2; clear k2)
        | (go_at_call 16; refine (HQ.out _).mono ?_; rintro e w2 ⟨rfl, k2⟩; have H2 := hide (below_on H1.out k2); clear k2)
        | (go_at_call 17; refine (HR.out _).mono ?_; rintro e w3 ⟨rfl, k2⟩; have H3 := hide (below_on H2.out k2); obtain ⟨cap, o, hcv, hpj⟩ := HW2.out w3 H3.out; have HPJ := hide hpj; clear k2 hpj)
        | (go_at_call 18; refine HPJ.out.mono ?_; rintro e w4 ⟨g, c, rfl, c0, c3, k4⟩; have H4 := hide k4; have hgl := block_lt_of_cell c3; clear k4)
        | (go_at_call 19; refine (HUT.out _).mono ?_; rintro e w5 ⟨rfl, k2⟩; have H5 := hide (below_on H4.out k2); have d3 := (k2.cell (p := ⟨g, 3, none⟩) hgl).trans c3; clear k2))
      go_ret
      exact ⟨rfl, H5.out⟩
end Go.Proofs.YtpffhckimilppaaDoor
