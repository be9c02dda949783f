/-
  What reading a string with one escape, or two, between two letters answers; no program in it.
-/
import Derived.Test.YtedhglphnmheiabDoorPlaces
namespace Go.Proofs.YtedhglphnmheiabDoor
open Go.RowKit

section
variable {B : List UInt8}
theorem st_end {k a : Nat} {s : List UInt8} (ha : a < B.length) (h : byteAt B a = 34) : quotedL B (k + 1) a s = .ok s (a + 1) := by
  unfold quotedL peekM
  rw [if_pos ha]
  simp only [Res.andThen]
  rw [if_pos h]
theorem st_step {k a r q : Nat} {s : List UInt8} (ha : a < B.length) (h : byteAt B a ≠ 34) (hl : letterM B a = .ok r q) : quotedL B (k + 1) a s = quotedL B k q (s ++ Lib.encodeRune r) := by
  conv => lhs; unfold quotedL peekM
  rw [if_pos ha]
  simp only [Res.andThen]
  rw [if_neg h, hl]
theorem st_bad {k a p c : Nat} {s : List UInt8} (ha : a < B.length) (h : byteAt B a ≠ 34) (hl : letterM B a = .bad p c) : quotedL B (k + 1) a s = .bad p c := by
  conv => lhs; unfold quotedL peekM
  rw [if_pos ha]
  simp only [Res.andThen]
  rw [if_neg h, hl]
theorem letter_plain {a : Nat} (ha : a < B.length) (h1 : 32 ≤ byteAt B a) (h2 : byteAt B a < 128) (h3 : byteAt B a ≠ 92) : letterM B a = .ok (byteAt B a) (a + 1) := by
  have hd : decAt B a = (byteAt B a, 1) := by unfold decAt Lib.decodeN; rw [if_pos h2]
  unfold letterM peekM
  rw [if_pos ha]
  simp only [Res.andThen]
  rw [if_neg (by omega), if_neg h3, hd, if_neg (by simp only; omega)]
theorem letter_escape {a : Nat} (ha : a < B.length) (h : byteAt B a = 92) : letterM B a = escapeM B a := by
  unfold letterM peekM
  rw [if_pos ha]
  simp only [Res.andThen]
  rw [if_neg (by omega), if_pos h]
theorem escape_u {a : Nat} (ha : a + 1 < B.length) (h : byteAt B (a + 1) = 117) : escapeM B a = codedM B a (a + 2) := by
  unfold escapeM peekM
  rw [if_pos ha]
  simp only [Res.andThen, h]
  rfl
theorem hex_four {f a : Nat} {v0 v1 v2 v3 : Nat} (ha : a + 3 < B.length) (h0 : sixteenM (byteAt B a) = v0) (h1 : sixteenM (byteAt B (a + 1)) = v1) (h2 : sixteenM (byteAt B (a + 2)) = v2) (h3 : sixteenM (byteAt B (a + 3)) = v3) :
    hexM B f 4 0 a = .ok (4096 * v0 + 256 * v1 + 16 * v2 + v3) (a + 4) := by
  have h2 : sixteenM (byteAt B (a + 1 + 1)) = v2 := h2
  have h3 : sixteenM (byteAt B (a + 1 + 1 + 1)) = v3 := h3
  unfold hexM
  rw [if_pos (by omega), if_neg (by omega)]
  unfold hexM
  rw [if_pos (by omega), if_neg (by omega)]
  unfold hexM
  rw [if_pos (by omega), if_neg (by omega)]
  unfold hexM
  rw [if_pos (by omega), if_neg (by omega)]
  unfold hexM
  rw [h0, h1, h2, h3]
  simp only [Int.toNat_natCast]
  congr 1; omega
theorem coded_one {f a l : Nat} (h : hexM B f 4 0 a = .ok l (a + 4)) (hl : l < 55296 ∨ 57344 ≤ l) : codedM B f a = .ok l (a + 4) := by
  unfold codedM; rw [h]; simp only [Res.andThen]; rw [if_pos hl]
theorem coded_half {f a l : Nat} (h : hexM B f 4 0 a = .ok l (a + 4)) (hl : 55296 ≤ l ∧ l < 57344) (he : 56320 ≤ l ∨ escapedB B (a + 4) = false) : codedM B f a = .bad f 24 := by
  unfold codedM; rw [h]; simp only [Res.andThen]; rw [if_neg (by omega), if_pos he]
theorem coded_two {f a l s : Nat} (h : hexM B f 4 0 a = .ok l (a + 4)) (hl : 55296 ≤ l ∧ l < 56320) (he : escapedB B (a + 4) = true) (h2 : hexM B f 4 0 (a + 6) = .ok s (a + 10)) (hs : 56320 ≤ s ∧ s < 57344) : codedM B f a = .ok (65536 + (l - 55296) * 1024 + (s - 56320)) (a + 10) := by
  unfold codedM; rw [h]; simp only [Res.andThen]; rw [if_neg (by omega), if_neg (by rw [he]; simp; omega), show a + 4 + 2 = a + 6 by omega, h2]; simp only; rw [if_neg (by omega)]
/-- A text that is one string. -/
theorem read_string {s : List UInt8} (h0 : byteAt B 0 = 34) (hl : 0 < B.length) (h : quotedM B 0 = .ok s B.length) : readM B = .ok [{ kind := 4, text := s }] 0 := by
  have hs0 : skip B 0 = 0 := run_no _ _ _ (fun _ => by rw [h0]; rfl)
  have hsl : skip B B.length = B.length := run_no _ _ _ (fun h => by omega)
  have hv : valueM B 16 [] 0 = .ok (0, [{ kind := 4, text := s }]) B.length := by
    show valueS _ _ _ _ = _
    unfold valueS aheadM peekM
    rw [hs0, if_pos hl]
    simp only [Res.andThen, h0]
    unfold begunM
    rw [if_neg (by decide), if_neg (by decide), if_neg (by decide), if_pos rfl, h]
    rfl
  unfold readM
  rw [hv]
  simp only [Res.andThen]
  rw [hsl, if_neg (by omega)]
theorem read_string_bad {p c : Nat} (h0 : byteAt B 0 = 34) (hl : 0 < B.length) (h : quotedM B 0 = .bad p c) : readM B = .bad p c := by
  have hs0 : skip B 0 = 0 := run_no _ _ _ (fun _ => by rw [h0]; rfl)
  have hv : valueM B 16 [] 0 = .bad p c := by
    show valueS _ _ _ _ = _
    unfold valueS aheadM peekM
    rw [hs0, if_pos hl]
    simp only [Res.andThen, h0]
    unfold begunM
    rw [if_neg (by decide), if_neg (by decide), if_neg (by decide), if_pos rfl, h]
    rfl
  unfold readM
  rw [hv]
  rfl
end
def hexD (small : Bool) (d : Nat) : UInt8 := if d < 10 then (48 + d).toUInt8 else if small then (87 + d).toUInt8 else (55 + d).toUInt8
theorem hexD_val : ∀ (small : Bool) (d : Nat), d < 16 → sixteenM (hexD small d).toNat = d := by
  intro small d hd
  have : ([true, false].all fun b => (List.range 16).all fun d => sixteenM (hexD b d).toNat == d) = true := by decide +kernel
  have h1 := List.all_eq_true.1 (List.all_eq_true.1 this small (by cases small <;> simp)) d (List.mem_range.2 hd)
  simpa using h1
/-- One escape of a number below 65536. -/
def halfL (small : Bool) (n : Nat) : List UInt8 := [92, 117, hexD small (n / 4096 % 16), hexD small (n / 256 % 16), hexD small (n / 16 % 16), hexD small (n % 16)]
def escL (small : Bool) (x : Nat) : List UInt8 := if 65536 ≤ x then halfL small (55296 + (x - 65536) / 1024) ++ halfL small (56320 + (x - 65536) % 1024) else halfL small x
def escText (small : Bool) (x : Nat) : List UInt8 := [34, 97] ++ escL small x ++ [98, 34]
theorem hex_half {B : List UInt8} {small : Bool} {n f a : Nat} (ha : a + 3 < B.length) (hn : n < 65536) (h0 : byteAt B a = (hexD small (n / 4096 % 16)).toNat) (h1 : byteAt B (a + 1) = (hexD small (n / 256 % 16)).toNat) (h2 : byteAt B (a + 2) = (hexD small (n / 16 % 16)).toNat) (h3 : byteAt B (a + 3) = (hexD small (n % 16)).toNat) :
    hexM B f 4 0 a = .ok n (a + 4) := by
  rw [hex_four ha (by rw [h0]; exact hexD_val _ _ (by omega)) (by rw [h1]; exact hexD_val _ _ (by omega)) (by rw [h2]; exact hexD_val _ _ (by omega)) (by rw [h3]; exact hexD_val _ _ (by omega))]
  congr 1; omega
theorem enc_a : Lib.encodeRune ((97 : Nat) : Int) = [97] := by decide +kernel
theorem enc_b : Lib.encodeRune ((98 : Nat) : Int) = [98] := by decide +kernel
theorem esc_read (small : Bool) (x : Nat) (hx : x < 1114112) : readM (escText small x) = if 55296 ≤ x ∧ x < 57344 then .bad 2 24 else .ok [{ kind := 4, text := [97] ++ Lib.encodeRune (x : Int) ++ [98] }] 0 := by
  by_cases h2 : 65536 ≤ x
  · rw [if_neg (by omega)]
    obtain ⟨l, hl⟩ : ∃ l, l = 55296 + (x - 65536) / 1024 := ⟨_, rfl⟩
    obtain ⟨s, hs⟩ : ∃ s, s = 56320 + (x - 65536) % 1024 := ⟨_, rfl⟩
    have e : escText small x = [34, 97, 92, 117, hexD small (l / 4096 % 16), hexD small (l / 256 % 16), hexD small (l / 16 % 16), hexD small (l % 16), 92, 117, hexD small (s / 4096 % 16), hexD small (s / 256 % 16), hexD small (s / 16 % 16), hexD small (s % 16), 98, 34] := by
      unfold escText escL; rw [if_pos h2, ← hl, ← hs]; rfl
    rw [e]
    generalize hB : ([34, 97, 92, 117, hexD small (l / 4096 % 16), hexD small (l / 256 % 16), hexD small (l / 16 % 16), hexD small (l % 16), 92, 117, hexD small (s / 4096 % 16), hexD small (s / 256 % 16), hexD small (s / 16 % 16), hexD small (s % 16), 98, 34] : List UInt8) = B
    have hlen : B.length = 16 := by rw [← hB]; rfl
    have b0 : byteAt B 0 = 34 := by rw [← hB]; rfl
    have b1 : byteAt B 1 = 97 := by rw [← hB]; rfl
    have b2 : byteAt B 2 = 92 := by rw [← hB]; rfl
    have b3 : byteAt B (2 + 1) = 117 := by rw [← hB]; rfl
    have b8 : byteAt B 8 = 92 := by rw [← hB]; rfl
    have b9 : byteAt B (8 + 1) = 117 := by rw [← hB]; rfl
    have b14 : byteAt B 14 = 98 := by rw [← hB]; rfl
    have b15 : byteAt B 15 = 34 := by rw [← hB]; rfl
    have H1 : hexM B 2 4 0 (2 + 2) = .ok l (2 + 2 + 4) := hex_half (small := small) (by omega) (by omega) (by rw [← hB]; rfl) (by rw [← hB]; rfl) (by rw [← hB]; rfl) (by rw [← hB]; rfl)
    have H2 : hexM B 2 4 0 (2 + 2 + 6) = .ok s (2 + 2 + 10) := hex_half (small := small) (by omega) (by omega) (by rw [← hB]; rfl) (by rw [← hB]; rfl) (by rw [← hB]; rfl) (by rw [← hB]; rfl)
    have hE : escapedB B (2 + 2 + 4) = true := by unfold escapedB; rw [b8, b9, hlen]; rfl
    have HC := coded_two H1 (by omega) hE H2 (by omega)
    rw [show 65536 + (l - 55296) * 1024 + (s - 56320) = x by omega] at HC
    have l2 : letterM B 2 = .ok x 14 := by rw [letter_escape (by omega) b2, escape_u (by omega) b3, HC]
    refine read_string b0 (by omega) ?_
    unfold quotedM
    rw [hlen]
    rw [st_step (a := 0 + 1) (by omega) (by rw [b1]; decide) (letter_plain (by omega) (by rw [b1]; decide) (by rw [b1]; decide) (by rw [b1]; decide)), b1]
    rw [st_step (a := 0 + 1 + 1) (by omega) (by rw [b2]; decide) l2]
    rw [st_step (a := 14) (by omega) (by rw [b14]; decide) (letter_plain (by omega) (by rw [b14]; decide) (by rw [b14]; decide) (by rw [b14]; decide)), b14]
    rw [st_end (a := 14 + 1) (by omega) b15, enc_a, enc_b]
    rfl
  · have e : escText small x = [34, 97, 92, 117, hexD small (x / 4096 % 16), hexD small (x / 256 % 16), hexD small (x / 16 % 16), hexD small (x % 16), 98, 34] := by
      unfold escText escL; rw [if_neg h2]; rfl
    rw [e]
    generalize hB : ([34, 97, 92, 117, hexD small (x / 4096 % 16), hexD small (x / 256 % 16), hexD small (x / 16 % 16), hexD small (x % 16), 98, 34] : List UInt8) = B
    have hlen : B.length = 10 := by rw [← hB]; rfl
    have b0 : byteAt B 0 = 34 := by rw [← hB]; rfl
    have b1 : byteAt B 1 = 97 := by rw [← hB]; rfl
    have b2 : byteAt B 2 = 92 := by rw [← hB]; rfl
    have b3 : byteAt B (2 + 1) = 117 := by rw [← hB]; rfl
    have b8 : byteAt B 8 = 98 := by rw [← hB]; rfl
    have b9 : byteAt B 9 = 34 := by rw [← hB]; rfl
    have H1 : hexM B 2 4 0 (2 + 2) = .ok x (2 + 2 + 4) := hex_half (small := small) (by omega) (by omega) (by rw [← hB]; rfl) (by rw [← hB]; rfl) (by rw [← hB]; rfl) (by rw [← hB]; rfl)
    by_cases hs : 55296 ≤ x ∧ x < 57344
    · rw [if_pos hs]
      have hE : escapedB B (2 + 2 + 4) = false := by unfold escapedB; rw [b8]; simp
      have l2 : letterM B 2 = .bad 2 24 := by rw [letter_escape (by omega) b2, escape_u (by omega) b3, coded_half H1 hs (.inr hE)]
      refine read_string_bad b0 (by omega) ?_
      unfold quotedM
      rw [hlen]
      rw [st_step (a := 0 + 1) (by omega) (by rw [b1]; decide) (letter_plain (by omega) (by rw [b1]; decide) (by rw [b1]; decide) (by rw [b1]; decide)), b1]
      rw [st_bad (a := 0 + 1 + 1) (by omega) (by rw [b2]; decide) l2]
    · rw [if_neg hs]
      have l2 : letterM B 2 = .ok x 8 := by rw [letter_escape (by omega) b2, escape_u (by omega) b3, coded_one H1 (by omega)]
      refine read_string b0 (by omega) ?_
      unfold quotedM
      rw [hlen]
      rw [st_step (a := 0 + 1) (by omega) (by rw [b1]; decide) (letter_plain (by omega) (by rw [b1]; decide) (by rw [b1]; decide) (by rw [b1]; decide)), b1]
      rw [st_step (a := 0 + 1 + 1) (by omega) (by rw [b2]; decide) l2]
      rw [st_step (a := 8) (by omega) (by rw [b8]; decide) (letter_plain (by omega) (by rw [b8]; decide) (by rw [b8]; decide) (by rw [b8]; decide)), b8]
      rw [st_end (a := 8 + 1) (by omega) b9, enc_a, enc_b]
      rfl
end Go.Proofs.YtedhglphnmheiabDoor
