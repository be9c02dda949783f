/-
  What the document's plain does: is a value such as there may be?
-/
import Derived.Test.YtpffhckimilppaaDoorUtf
import Derived.Test.YtpffhckimilppaaDoorApart
namespace Go.Proofs.YtpffhckimilppaaDoor
open Go.RowKit
set_option maxRecDepth 100000

theorem valid_nil : Lib.validD [] = true := rfl
theorem fits_zero : fitsB 0 = true := by decide
section
variable {x : VI} {na ka : Option Addr} {nc kc : Nat} {w : World}
set_option maxHeartbeats 6400000 in
theorem rplain_out (h : (x.truth = true ∧ x.kind ≠ 2) ∨ (x.truth = false ∧ x.num ≠ 0 ∧ x.kind ≠ 3) ∨ (x.truth = false ∧ x.num = 0 ∧ x.text ≠ [] ∧ x.kind ≠ 4) ∨ (x.truth = false ∧ x.num = 0 ∧ x.text = [] ∧ x.kids.length ≠ 0 ∧ x.kind ≠ 5 ∧ x.kind ≠ 6)) :
    Calls Tryd.prog 25 #[.agg (aggI x (.slice na x.names.length nc) (.slice ka x.kids.length kc)).toArray] w fun e w' => e = .returned (.bool (plainB x)) ∧ Below w.heap.size w w' := by
  unfold aggI
  have HF : Hid (plainB x = false) := by
    show _ = _
    rcases h with ⟨h1, h2⟩ | ⟨h1, h2, h3⟩ | ⟨h1, h2, h3, h4⟩ | ⟨h1, h2, h3, h4, h5, h6⟩
    · simp [plainB, spareB, h1, h2]
    · simp [plainB, spareB, h2, h3]
    · simp [plainB, spareB, h3, h4]
    · simp only [plainB, spareB, Bool.and_eq_false_iff]
      refine .inl (.inr ?_)
      simp [h5, h6]
      intro e; apply h4; rw [e]; rfl
  rcases h with ⟨h1, h2⟩ | ⟨h1, h2, h3⟩ | ⟨h1, h2, h3, h4⟩ | ⟨h1, h2, h3, h4, h5, h6⟩
  · have z2 : (x.kind != 2) = true := by simpa using h2
    go_enter Tryd.func25, Tryd.ntmps25
    go_wp2
    go_ret
    exact ⟨by rw [HF.out]; rfl, (Below.refl _ _).alloc (Nat.le_refl _) _⟩
  · have z2 : (x.num != 0) = true := by simpa using h2
    have z3 : (x.kind != 3) = true := by simpa using h3
    go_enter Tryd.func25, Tryd.ntmps25
    go_wp2
    go_ret
    exact ⟨by rw [HF.out]; rfl, (Below.refl _ _).alloc (Nat.le_refl _) _⟩
  · have z3 : (x.kind != 4) = true := by simpa using h4
    go_enter Tryd.func25, Tryd.ntmps25
    go_wp2
    go_ret
    exact ⟨by rw [HF.out]; rfl, (Below.refl _ _).alloc (Nat.le_refl _) _⟩
  · have z5 : (x.kind != 5) = true := by simpa using h5
    have z6 : (x.kind != 6) = true := by simpa using h6
    have z7 : (0 : Int) < (x.kids.length : Int) := by omega
    rw [h3]
    go_enter Tryd.func25, Tryd.ntmps25
    go_wp2
    go_ret
    exact ⟨by rw [HF.out]; rfl, (Below.refl _ _).alloc (Nat.le_refl _) _⟩
/-- The call's own copy of the value, as it stays. -/
structure Bxx (x : VI) (na ka : Option Addr) (nc kc : Nat) (w w' : World) : Prop where
  b0 : w'.cell? ⟨w.heap.size, 0, none⟩ = some (.int .i64 x.kind)
  b4 : w'.cell? ⟨w.heap.size, 4, none⟩ = some (.slice na x.names.length nc)
  b5 : w'.cell? ⟨w.heap.size, 5, none⟩ = some (.slice ka x.kids.length kc)
  below : Below w.heap.size w w'
theorem Bxx.later {w' w'' : World} (h : Bxx x na ka nc kc w w') (hb : Below w'.heap.size w' w'') : Bxx x na ka nc kc w w'' :=
  ⟨(hb.cell (block_lt_of_cell h.b0)).trans h.b0, (hb.cell (block_lt_of_cell h.b4)).trans h.b4, (hb.cell (block_lt_of_cell h.b5)).trans h.b5, below_on h.below hb⟩
theorem bxx_made : Bxx x na ka nc kc w (w.alloc (.cells #[.int .i64 x.kind, .bool x.truth, .int .i64 x.num, .string ⟨x.text.toArray⟩, .slice na x.names.length nc, .slice ka x.kids.length kc] 42)) :=
  ⟨box6 _ _ 0 _ rfl, box6 _ _ 4 _ rfl, box6 _ _ 5 _ rfl, (Below.refl _ _).alloc (Nat.le_refl _) _⟩
/-- What the first test lets pass. -/
def Rest (x : VI) : Prop := (x.truth = true → x.kind = 2) ∧ (x.num ≠ 0 → x.kind = 3) ∧ (x.text ≠ [] → x.kind = 4) ∧ (x.kids.length ≠ 0 → x.kind = 5 ∨ x.kind = 6)
theorem rplain_cases (x : VI) : (¬ Rest x) ∨ Rest x := (Classical.em _).symm
theorem spare_rest {x : VI} (h : Rest x) : spareB x = (x.kind == 6 || x.names.length == 0) := by
  obtain ⟨h1, h2, h3, h4⟩ := h
  have a1 : (x.kind == 2 || !x.truth) = true := by cases ht : x.truth <;> simp [h1, ht]
  have a2 : (x.kind == 3 || x.num == 0) = true := by by_cases hn : x.num = 0 <;> simp [hn, h2]
  have a3 : (x.kind == 4 || x.text.isEmpty) = true := by by_cases hn : x.text = [] <;> simp [hn, h3]
  have a5 : (x.kind == 6 || x.kind == 5 || x.kids.length == 0) = true := by
    by_cases hn : x.kids.length = 0
    · rw [hn]; simp
    · rcases h4 hn with h | h <;> rw [h] <;> rfl
  unfold spareB
  rw [a1, a2, a3, a5]
  simp
theorem bxx_gen {k n : Int} {b : Bool} {t : ByteArray} {kl : Nat} (hk : x.kind = k) (hkl : x.kids.length = kl) : Bxx x na ka nc kc w (w.alloc (.cells #[.int .i64 k, .bool b, .int .i64 n, .string t, .slice na x.names.length nc, .slice ka kl kc] 42)) := by
  subst hk hkl
  exact ⟨box6 _ _ 0 _ rfl, box6 _ _ 4 _ rfl, box6 _ _ 5 _ rfl, (Below.refl _ _).alloc (Nat.le_refl _) _⟩
set_option maxHeartbeats 6400000 in
/-- A value of no kind that there is, that passed the first test. -/
theorem rplain_none (hr : Rest x) (hk : x.kind < 1 ∨ 6 < x.kind) :
    Calls Tryd.prog 25 #[.agg (aggI x (.slice na x.names.length nc) (.slice ka x.kids.length kc)).toArray] w fun e w' => e = .returned (.bool (plainB x)) ∧ Below w.heap.size w w' := by
  obtain ⟨h1, h2, h3, h4⟩ := hr
  have HF : Hid (plainB x = false) := by
    show _ = _
    rw [plainB, if_neg (by omega), if_neg (by omega), if_neg (by omega), if_neg (by omega)]; simp
  have tr : x.truth = false := by cases h : x.truth with | false => rfl | true => have := h1 h; omega
  have nm : x.num = 0 := Classical.byContradiction fun h => by have := h2 h; omega
  have tx : x.text = [] := Classical.byContradiction fun h => by have := h3 h; omega
  have kd : x.kids.length = 0 := Classical.byContradiction fun h => by have := h4 h; omega
  clear h1 h2 h3 h4
  unfold aggI
  rw [tr, nm, tx, kd]
  rcases hk with r1 | r2
  all_goals
    go_enter Tryd.func25, Tryd.ntmps25
    go_wp2
    go_ret
    exact ⟨by rw [HF.out]; rfl, (Below.refl _ _).alloc (Nat.le_refl _) _⟩
set_option maxHeartbeats 6400000 in
/-- A value of a kind that isn't an object, that passed the first test. -/
theorem rplain_low (hr : Rest x) (hk : x.kind = 1 ∨ x.kind = 2 ∨ x.kind = 3 ∨ x.kind = 4 ∨ x.kind = 5) (hz : SzV x) :
    Calls Tryd.prog 25 #[.agg (aggI x (.slice na x.names.length nc) (.slice ka x.kids.length kc)).toArray] w fun e w' => e = .returned (.bool (plainB x)) ∧ Below w.heap.size w w' := by
  have HSR := hide (spare_rest hr)
  unfold aggI
  obtain ⟨h1, h2, h3, h4⟩ := hr
  have HN : Hid (((x.names.length : Int) == 0) = (x.names.length == 0)) := cast_beq _
  rcases hk with hk | hk | hk | hk | hk
  · have tr : x.truth = false := by cases h : x.truth with | false => rfl | true => have := h1 h; omega
    have nm : x.num = 0 := Classical.byContradiction fun h => by have := h2 h; omega
    have tx : x.text = [] := Classical.byContradiction fun h => by have := h3 h; omega
    have kd : x.kids.length = 0 := Classical.byContradiction fun h => by have := h4 h; omega
    have HF : Hid (plainB x = (x.names.length == 0)) := by show _ = _; rw [plainB, HSR.out, hk]; simp
    have HKE := hide hk
    clear h1 h2 h3 h4
    rw [hk, tr, nm, tx, kd]
    have HKD := hide kd
    clear hk tr nm tx kd
    have zf : fitsB 0 = true := fits_zero
    have zv : Lib.validD [] = true := valid_nil
    go_enter Tryd.func25, Tryd.ntmps25
    go_wp2_with (first
      | (go_at_call 34; refine (rfits_any _ _).mono ?_; rintro e w1 ⟨rfl, hw⟩; rw [hw]; clear hw)
      | (go_at_call 19; refine (utf_any [] (by simp) _).mono ?_; rintro e w1 ⟨rfl, k2⟩; have B2 := (bxx_gen (x := x) (nc := nc) (kc := kc) HKE.out HKD.out).later k2; have c0 := B2.b0; have c4 := B2.b4; rw [HKE.out] at c0; have H1 := hide B2.below; clear B2 k2))
    go_ret
    exact ⟨by rw [HF.out, ← HN.out]; rfl, H1.out⟩
  · have nm : x.num = 0 := Classical.byContradiction fun h => by have := h2 h; omega
    have tx : x.text = [] := Classical.byContradiction fun h => by have := h3 h; omega
    have kd : x.kids.length = 0 := Classical.byContradiction fun h => by have := h4 h; omega
    have HF : Hid (plainB x = (x.names.length == 0)) := by show _ = _; rw [plainB, HSR.out, hk]; simp
    have HKE := hide hk
    clear h1 h2 h3 h4
    rw [hk, nm, tx, kd]
    have HKD := hide kd
    clear hk nm tx kd
    have zf : fitsB 0 = true := fits_zero
    have zv : Lib.validD [] = true := valid_nil
    cases x.truth
    all_goals
      go_enter Tryd.func25, Tryd.ntmps25
      go_wp2_with (first
        | (go_at_call 34; refine (rfits_any _ _).mono ?_; rintro e w1 ⟨rfl, hw⟩; rw [hw]; clear hw)
        | (go_at_call 19; refine (utf_any [] (by simp) _).mono ?_; rintro e w1 ⟨rfl, k2⟩; have B2 := (bxx_gen (x := x) (nc := nc) (kc := kc) HKE.out HKD.out).later k2; have c0 := B2.b0; have c4 := B2.b4; rw [HKE.out] at c0; have H1 := hide B2.below; clear B2 k2))
      go_ret
      exact ⟨by rw [HF.out, ← HN.out]; rfl, H1.out⟩
  · have tr : x.truth = false := by cases h : x.truth with | false => rfl | true => have := h1 h; omega
    have tx : x.text = [] := Classical.byContradiction fun h => by have := h3 h; omega
    have kd : x.kids.length = 0 := Classical.byContradiction fun h => by have := h4 h; omega
    have HF : Hid (plainB x = ((x.names.length == 0) && fitsB x.num)) := by show _ = _; rw [plainB, HSR.out, hk]; simp
    have HKE := hide hk
    clear h1 h2 h3 h4
    rw [hk, tr, tx, kd]
    have HKD := hide kd
    clear hk tr tx kd
    have zf : fitsB 0 = true := fits_zero
    have zv : Lib.validD [] = true := valid_nil
    by_cases hn0 : x.num = 0
    · rw [hn0] at HF ⊢
      rw [zf, Bool.and_true] at HF
      go_enter Tryd.func25, Tryd.ntmps25
      go_wp2_with (first
        | (go_at_call 34; refine (rfits_any _ _).mono ?_; rintro e w1 ⟨rfl, hw⟩; rw [hw]; clear hw)
        | (go_at_call 19; refine (utf_any [] (by simp) _).mono ?_; rintro e w1 ⟨rfl, k2⟩; have B2 := (bxx_gen (x := x) (nc := nc) (kc := kc) HKE.out HKD.out).later k2; have c0 := B2.b0; have c4 := B2.b4; rw [HKE.out] at c0; have H1 := hide B2.below; clear B2 k2))
      go_ret
      exact ⟨by rw [HF.out, ← HN.out]; rfl, H1.out⟩
    · have y1 : (x.num != 0) = true := by simpa using hn0
      cases hf : fitsB x.num
      · rw [hf, Bool.and_false] at HF
        have HFT : Hid (fitsB x.num = false) := hf
        clear hf
        go_enter Tryd.func25, Tryd.ntmps25
        go_wp2_with (go_at_call 34; refine (rfits_any _ _).mono ?_; rintro e w1 ⟨rfl, hw⟩; rw [hw, HFT.out]; clear hw)
        go_ret
        exact ⟨by rw [HF.out]; rfl, (Below.refl _ _).alloc (Nat.le_refl _) _⟩
      · rw [hf, Bool.and_true] at HF
        have HFT : Hid (fitsB x.num = true) := hf
        clear hf
        go_enter Tryd.func25, Tryd.ntmps25
        go_wp2_with (first
          | (go_at_call 34; refine (rfits_any _ _).mono ?_; rintro e w1 ⟨rfl, hw⟩; rw [hw, HFT.out]; clear hw)
          | (go_at_call 19; refine (utf_any [] (by simp) _).mono ?_; rintro e w1 ⟨rfl, k2⟩; have B2 := (bxx_gen (x := x) (nc := nc) (kc := kc) HKE.out HKD.out).later k2; have c0 := B2.b0; have c4 := B2.b4; rw [HKE.out] at c0; have H1 := hide B2.below; clear B2 k2))
        go_ret
        exact ⟨by rw [HF.out, ← HN.out]; rfl, H1.out⟩
  · have tr : x.truth = false := by cases h : x.truth with | false => rfl | true => have := h1 h; omega
    have nm : x.num = 0 := Classical.byContradiction fun h => by have := h2 h; omega
    have kd : x.kids.length = 0 := Classical.byContradiction fun h => by have := h4 h; omega
    have HF : Hid (plainB x = ((x.names.length == 0) && Lib.validD x.text)) := by show _ = _; rw [plainB, HSR.out, hk]; simp
    have HKE := hide hk
    clear h1 h2 h3 h4
    rw [hk, tr, nm, kd]
    have HKD := hide kd
    clear hk tr nm kd
    have zf : fitsB 0 = true := fits_zero
    have zv : Lib.validD [] = true := valid_nil
    by_cases ht0 : x.text = []
    · rw [ht0] at HF ⊢
      rw [zv, Bool.and_true] at HF
      go_enter Tryd.func25, Tryd.ntmps25
      go_wp2_with (first
        | (go_at_call 34; refine (rfits_any _ _).mono ?_; rintro e w1 ⟨rfl, hw⟩; rw [hw]; clear hw)
        | (go_at_call 19; refine (utf_any [] (by simp) _).mono ?_; rintro e w1 ⟨rfl, k2⟩; have B2 := (bxx_gen (x := x) (nc := nc) (kc := kc) HKE.out HKD.out).later k2; have c0 := B2.b0; have c4 := B2.b4; rw [HKE.out] at c0; have H1 := hide B2.below; clear B2 k2))
      go_ret
      exact ⟨by rw [HF.out, ← HN.out]; rfl, H1.out⟩
    · cases hv : Lib.validD x.text
      · rw [hv, Bool.and_false] at HF
        have HVT : Hid (Lib.validD x.text = false) := hv
        clear hv
        go_enter Tryd.func25, Tryd.ntmps25
        go_wp2_with (first
          | (go_at_call 34; refine (rfits_any _ _).mono ?_; rintro e w1 ⟨rfl, hw⟩; rw [hw]; clear hw)
          | (go_at_call 19; refine (utf_any x.text hz.text _).mono ?_; rintro e w1 ⟨rfl, k2⟩; rw [HVT.out]; have B2 := (bxx_gen (x := x) (nc := nc) (kc := kc) HKE.out HKD.out).later k2; have c0 := B2.b0; have c4 := B2.b4; rw [HKE.out] at c0; have H1 := hide B2.below; clear B2 k2))
        go_ret
        exact ⟨by rw [HF.out]; rfl, H1.out⟩
      · rw [hv, Bool.and_true] at HF
        have HVT : Hid (Lib.validD x.text = true) := hv
        clear hv
        go_enter Tryd.func25, Tryd.ntmps25
        go_wp2_with (first
          | (go_at_call 34; refine (rfits_any _ _).mono ?_; rintro e w1 ⟨rfl, hw⟩; rw [hw]; clear hw)
          | (go_at_call 19; refine (utf_any x.text hz.text _).mono ?_; rintro e w1 ⟨rfl, k2⟩; rw [HVT.out]; have B2 := (bxx_gen (x := x) (nc := nc) (kc := kc) HKE.out HKD.out).later k2; have c0 := B2.b0; have c4 := B2.b4; rw [HKE.out] at c0; have H1 := hide B2.below; clear B2 k2))
        go_ret
        exact ⟨by rw [HF.out, ← HN.out]; rfl, H1.out⟩
  · have tr : x.truth = false := by cases h : x.truth with | false => rfl | true => have := h1 h; omega
    have nm : x.num = 0 := Classical.byContradiction fun h => by have := h2 h; omega
    have tx : x.text = [] := Classical.byContradiction fun h => by have := h3 h; omega
    have HF : Hid (plainB x = (x.names.length == 0)) := by show _ = _; rw [plainB, HSR.out, hk]; simp
    have HKE := hide hk
    clear h1 h2 h3 h4
    rw [hk, tr, nm, tx]
    clear hk tr nm tx
    have zf : fitsB 0 = true := fits_zero
    have zv : Lib.validD [] = true := valid_nil
    by_cases kk : (0 : Int) < (x.kids.length : Int)
    all_goals
      go_enter Tryd.func25, Tryd.ntmps25
      go_wp2_with (first
        | (go_at_call 34; refine (rfits_any _ _).mono ?_; rintro e w1 ⟨rfl, hw⟩; rw [hw]; clear hw)
        | (go_at_call 19; refine (utf_any [] (by simp) _).mono ?_; rintro e w1 ⟨rfl, k2⟩; have B2 := (bxx_gen (x := x) (nc := nc) (kc := kc) HKE.out rfl).later k2; have c0 := B2.b0; have c4 := B2.b4; rw [HKE.out] at c0; have H1 := hide B2.below; clear B2 k2))
      go_ret
      exact ⟨by rw [HF.out, ← HN.out]; rfl, H1.out⟩
end
end Go.Proofs.YtpffhckimilppaaDoor
