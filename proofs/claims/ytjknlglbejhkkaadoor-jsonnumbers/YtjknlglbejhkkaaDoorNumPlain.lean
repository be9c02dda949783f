/-
  What reading a number between brackets answers; no program in it.
-/
import Derived.Test.YtjknlglbejhkkaaDoorSevens
import Derived.Test.YtjknlglbejhkkaaDoorNumeral
namespace Go.Proofs.YtjknlglbejhkkaaDoor
open Go.RowKit

theorem byteAt_mid (pre l : List UInt8) (c : UInt8) : byteAt (pre ++ c :: l) pre.length = c.toNat := by
  unfold byteAt
  rw [List.getD_eq_getElem?_getD, List.getElem?_append_right (Nat.le_refl _)]
  simp
theorem takeWhile_all (p : UInt8 → Bool) (z : UInt8) (r : List UInt8) (hz : p z = false) : ∀ t : List UInt8, t.all p = true → (t ++ z :: r).takeWhile p = t
  | [], _ => by simp [hz]
  | c :: t, h => by
    simp only [List.all_cons, Bool.and_eq_true] at h
    rw [List.cons_append, List.takeWhile_cons, h.1, if_pos rfl, takeWhile_all p z r hz t h.2]
/-- A numeral, or what might be one, that stands behind pre. -/
theorem value_num (pre t : List UInt8) (c z : UInt8) (r : List UInt8) (sub : Option Sub) (T : List V) (hall : (c :: t).all (fun x => numeralB x.toNat) = true) (hc : c.toNat = 45 ∨ digN c.toNat = true) (hz : numeralB z.toNat = false) :
    valueS (pre ++ (c :: t) ++ z :: r) sub T pre.length = if parE (c :: t) = 0 then (if T.length = 8192 then .bad pre.length 27 else .ok (T.length, T ++ [{ kind := 3, num := parV (c :: t) }]) (pre.length + (c :: t).length)) else .bad pre.length 25 := by
  obtain ⟨B, hB⟩ : ∃ B, B = pre ++ (c :: t) ++ z :: r := ⟨_, rfl⟩
  rw [← hB]
  have hd : B.drop pre.length = (c :: t) ++ z :: r := by rw [hB, List.append_assoc, List.drop_left]
  have hb : byteAt B pre.length = c.toNat := by rw [hB, List.append_assoc]; exact byteAt_mid pre _ c
  have hlt : pre.length < B.length := by rw [hB]; simp
  have hE : numEnd B pre.length = pre.length + (c :: t).length := by
    unfold numEnd run
    rw [hd, takeWhile_all (fun x => numeralB x.toNat) z r hz _ hall]
  have hX : numTxt B pre.length = c :: t := by
    unfold numTxt
    rw [hE, hd, Nat.add_sub_cancel_left, List.take_left]
  have hbl : blankB c.toNat = false := by
    rcases hc with h | h
    · rw [h]; rfl
    · simp only [digN, Bool.and_eq_true, decide_eq_true_eq] at h
      unfold blankB
      rw [Bool.or_eq_false_iff, Bool.or_eq_false_iff, Bool.or_eq_false_iff]
      simp; omega
  have hbeg : begunM B sub c.toNat T pre.length = (numberM B pre.length).andThen fun n a' => .ok ({ kind := 3, num := n }, T) a' := by
    have hcs : c.toNat = 45 ∨ (48 ≤ c.toNat ∧ c.toNat ≤ 57) := by
      rcases hc with h | h
      · exact .inl h
      · simp only [digN, Bool.and_eq_true, decide_eq_true_eq] at h; exact .inr h
    unfold begunM
    rw [if_neg (by omega), if_neg (by omega), if_neg (by omega), if_neg (by omega), if_pos hc]
  unfold valueS
  rw [ahead_at (by rw [hb]; exact hbl) hlt, hb]
  simp only [Res.andThen]
  rw [hbeg]
  unfold numberM
  rw [hX, hE]
  by_cases hp : parE (c :: t) = 0
  · rw [if_pos hp, if_pos hp]; rfl
  · rw [if_neg hp, if_neg hp]; rfl

theorem read_one (t : List UInt8) (c : UInt8) (hl : t.length ≤ 60000) (hall : (c :: t).all (fun x => numeralB x.toNat) = true) (hc : c.toNat = 45 ∨ digN c.toNat = true) :
    readM ([91] ++ (c :: t) ++ [93]) = if parE (c :: t) = 0 then .ok [{ kind := 3, num := parV (c :: t) }, { kind := 5, kids := [0] }] 0 else .bad 1 25 := by
  obtain ⟨B, hB⟩ : ∃ B, B = [91] ++ (c :: t) ++ [93] := ⟨_, rfl⟩
  have hk := value_num [91] t c 93 [] (some (valueM B 14)) [] hall hc (by decide)
  rw [← hB] at hk ⊢
  have hlen : B.length = t.length + 3 := by rw [hB]; simp
  have b0 : byteAt B 0 = 91 := by rw [hB]; rfl
  have b1 : byteAt B 1 = c.toNat := by rw [hB]; rfl
  have bl : byteAt B (1 + (c :: t).length) = 93 := by
    rw [hB]
    have := byteAt_mid ([91] ++ (c :: t)) [] 93
    simpa [Nat.add_comm] using this
  have hcs : c.toNat = 45 ∨ (48 ≤ c.toNat ∧ c.toNat ≤ 57) := by
    rcases hc with h | h
    · exact .inl h
    · simp only [digN, Bool.and_eq_true, decide_eq_true_eq] at h; exact .inr h
  have hbl : blankB c.toNat = false := by
    unfold blankB
    rw [Bool.or_eq_false_iff, Bool.or_eq_false_iff, Bool.or_eq_false_iff]
    simp; omega
  have hk1 : listK (valueM B 15) ([], []) 1 = if parE (c :: t) = 0 then .ok ([0], [{ kind := 3, num := parV (c :: t) }]) (1 + (c :: t).length) else .bad 1 25 := by
    unfold listK
    have : valueM B 15 [] 1 = _ := hk
    rw [this]
    split <;> rfl
  have he : eachL B 93 (listK (valueM B 15)) (B.length + 1) ([], []) 1 = if parE (c :: t) = 0 then .ok ([0], [{ kind := 3, num := parV (c :: t) }]) (2 + (c :: t).length) else .bad 1 25 := by
    unfold eachL
    rw [hk1]
    split
    · simp only [Res.andThen]
      rw [ahead_at (by rw [bl]; rfl) (by rw [hlen]; simp; omega), bl]
      simp only
      rw [if_pos trivial]
      congr 1; omega
    · rfl
  have hend : skip B (2 + (c :: t).length) = 2 + (c :: t).length := run_no _ _ _ (fun h => by rw [hlen] at h; simp at h; omega)
  unfold readM
  have hv : valueM B 16 [] 0 = if parE (c :: t) = 0 then .ok (1, [{ kind := 3, num := parV (c :: t) }, { kind := 5, kids := [0] }]) (2 + (c :: t).length) else .bad 1 25 := by
    show valueS B (some (valueM B 15)) [] 0 = _
    unfold valueS
    rw [ahead_at (by rw [b0]; rfl) (by omega), b0]
    simp only [Res.andThen]
    have : begunM B (some (valueM B 15)) 91 [] 0 = listM B (some (valueM B 15)) [] 0 := by
      unfold begunM
      rw [if_neg (by decide), if_neg (by decide), if_neg (by decide), if_neg (by decide), if_neg (by decide), if_pos rfl]
    rw [this]
    unfold listM eachM
    rw [show (0 + 1 : Nat) = 1 from rfl, ahead_at (by rw [b1]; exact hbl) (by omega), b1]
    simp only [Res.andThen]
    rw [if_neg (by omega), he]
    by_cases hp : parE (c :: t) = 0
    · rw [if_pos hp, if_pos hp]; rfl
    · rw [if_neg hp, if_neg hp]
  rw [hv]
  by_cases hp : parE (c :: t) = 0
  · rw [if_pos hp, if_pos hp]
    simp only [Res.andThen]
    rw [hend, if_neg (by rw [hlen]; simp; omega)]
  · rw [if_neg hp, if_neg hp]; rfl

theorem read_two (t : List UInt8) (c : UInt8) (hall : (c :: t).all (fun x => numeralB x.toNat) = true) (hc : c.toNat = 45 ∨ digN c.toNat = true) (hp : ¬ parE (c :: t) = 0) :
    readM ([91, 55, 44] ++ (c :: t) ++ [93]) = .bad 3 25 := by
  obtain ⟨B, hB⟩ : ∃ B, B = [91, 55, 44] ++ (c :: t) ++ [93] := ⟨_, rfl⟩
  have hB2 : B = [91] ++ [55] ++ 44 :: (c :: t ++ [93]) := by rw [hB]; rfl
  have hk1 := value_num [91] [] 55 44 (c :: t ++ [93]) (some (valueM B 14)) [] (by decide) (by decide) (by decide)
  have hk2 := value_num [91, 55, 44] t c 93 [] (some (valueM B 14)) [{ kind := 3, num := 7 }] hall hc (by decide)
  rw [← hB2] at hk1
  rw [← hB, if_neg hp] at hk2
  rw [← hB]
  have hlen : B.length = t.length + 5 := by rw [hB]; simp
  have b0 : byteAt B 0 = 91 := by rw [hB]; rfl
  have b1 : byteAt B 1 = 55 := by rw [hB]; rfl
  have b2 : byteAt B 2 = 44 := by rw [hB]; rfl
  have h1 : listK (valueM B 15) ([], []) 1 = .ok ([0], [{ kind := 3, num := 7 }]) 2 := by
    unfold listK
    have : valueM B 15 [] 1 = _ := hk1
    rw [this]; rfl
  have h2 : listK (valueM B 15) ([0], [{ kind := 3, num := 7 }]) 3 = .bad 3 25 := by
    unfold listK
    have : valueM B 15 [{ kind := 3, num := 7 }] 3 = _ := hk2
    rw [this]; rfl
  have hw : wantM B 44 2 = .ok () 3 := by unfold wantM; rw [if_pos (by omega), if_pos b2]
  have he : eachL B 93 (listK (valueM B 15)) (B.length + 1) ([], []) 1 = .bad 3 25 := by
    unfold eachL
    rw [h1]
    simp only [Res.andThen]
    rw [ahead_at (by rw [b2]; rfl) (by omega), b2]
    simp only
    rw [if_neg (by decide), hw]
    simp only
    rw [show B.length = (B.length - 1) + 1 by omega]
    unfold eachL
    rw [h2]; rfl
  unfold readM
  have hv : valueM B 16 [] 0 = .bad 3 25 := by
    show valueS B (some (valueM B 15)) [] 0 = _
    unfold valueS
    rw [ahead_at (by rw [b0]; rfl) (by omega), b0]
    simp only [Res.andThen]
    have : begunM B (some (valueM B 15)) 91 [] 0 = listM B (some (valueM B 15)) [] 0 := by
      unfold begunM
      rw [if_neg (by decide), if_neg (by decide), if_neg (by decide), if_neg (by decide), if_neg (by decide), if_pos rfl]
    rw [this]
    unfold listM eachM
    rw [show (0 + 1 : Nat) = 1 from rfl, ahead_at (by rw [b1]; rfl) (by omega), b1]
    simp only [Res.andThen]
    rw [if_neg (by decide), he]
  rw [hv]; rfl
theorem plain_odd (l : List UInt8) (x : UInt8) (hx : x ∈ l) (hd : digB x = false) : plainB l = false := by
  have : l.all digB = false := by rw [List.all_eq_false]; exact ⟨x, hx, by simp [hd]⟩
  simp [plainB, this]
theorem odd_bad (c : UInt8) (t suf : List UInt8) (x : UInt8) (hx : x ∈ suf) (hd : digB x = false) : parE (c :: t ++ suf) = 11 := by
  have h : plainB (digitsL (c :: t ++ suf)) = false := by
    unfold digitsL
    cases belowB (c :: t ++ suf)
    · exact plain_odd _ x (by simp [hx]) hd
    · exact plain_odd _ x (by simp [hx]) hd
  unfold parE parOk
  rw [h]; rfl
theorem dec_short : ∀ (k u : Nat), u < 10 ^ (k + 1) → (Lib.decDigits u).length ≤ k + 1
  | 0, u, h => by rw [decS u (by simpa using h)]; simp
  | k + 1, u, h => by
    by_cases hz : u < 10
    · rw [decS u hz]; simp
    · rw [decT u hz, List.length_append]
      have := dec_short k (u / 10) (by rw [Nat.pow_succ] at h; omega)
      simp; omega
theorem itoa_short (n : Int) (h0 : -9223372036854775808 ≤ n) (h1 : n ≤ 9223372036854775807) : (Lib.itoa n).length ≤ 20 := by
  have h := dec_short 18 n.natAbs (by simp; omega)
  by_cases hn : n < 0
  · rw [Lib.itoa, if_pos hn]; simp; omega
  · rw [Lib.itoa, if_neg hn, show n.toNat = n.natAbs by omega]; omega
theorem itoa_shape (n : Int) : ∃ c t, Lib.itoa n = c :: t ∧ (c :: t).all (fun x => numeralB x.toNat) = true ∧ (c.toNat = 45 ∨ digN c.toNat = true) := by
  have hdig : ∀ l : List UInt8, l.all digB = true → l.all (fun x => numeralB x.toNat) = true := fun l h => by
    rw [List.all_eq_true] at h ⊢
    intro x hx
    have := h x hx
    simp only [digB, decide_eq_true_eq] at this
    have : digN x.toNat = true := by simp [digN]; omega
    unfold numeralB; rw [this]; rfl
  have hd := dec_all n.natAbs
  have hl := (dec_len n.natAbs).1
  by_cases h : n < 0
  · refine ⟨45, Lib.decDigits n.natAbs, by rw [Lib.itoa, if_pos h], ?_, .inl rfl⟩
    rw [List.all_cons, hdig _ hd]; rfl
  · have e : Lib.itoa n = Lib.decDigits n.natAbs := by rw [Lib.itoa, if_neg h]; congr 1; omega
    cases hL : Lib.decDigits n.natAbs with
    | nil => rw [hL] at hl; simp at hl
    | cons c t =>
      rw [hL] at hd
      refine ⟨c, t, by rw [e, hL], hdig _ hd, .inr ?_⟩
      rw [List.all_cons, Bool.and_eq_true] at hd
      have := hd.1
      simp only [digB, decide_eq_true_eq] at this
      simp [digN]; omega
end Go.Proofs.YtjknlglbejhkkaaDoor
