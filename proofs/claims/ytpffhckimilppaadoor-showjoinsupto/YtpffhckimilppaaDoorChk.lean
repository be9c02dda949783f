/-
  What show.Check and Print do.
-/
import Derived.Test.YtpffhckimilppaaDoorWri
import Derived.Test.YtpffhckimilppaaDoorApart
namespace Go.Proofs.YtpffhckimilppaaDoor
open Go.RowKit
set_option maxRecDepth 100000

/-- What is wrong with a tree. -/
def checkE (T : List VI) : Int :=
  if T.length = 0 then 29 else if 8192 < T.length then 27 else if joinedB (T.map VI.kids) = true ∧ T.all plainB = true then (if 16 < (dpT T).getD (T.length - 1) 0 then 26 else 0) else 29
theorem inR_at : ∀ (T : List VI) (i0 : Nat), InR i0 (T.map VI.kids) → ∀ (i : Nat) x, T[i]? = some x → ∀ k ∈ x.kids, 0 ≤ k ∧ k < ((i0 + i : Nat) : Int)
  | [], _, _, i, x, hx, _, _ => by simp at hx
  | y :: r, i0, h, 0, x, hx, k, hk => by
    simp at hx; subst hx
    exact h.1 k hk
  | y :: r, i0, h, i + 1, x, hx, k, hk => by
    have := inR_at r (i0 + 1) h.2 i x (by simpa using hx) k hk
    rw [show i0 + 1 + i = i0 + (i + 1) by omega] at this
    exact this
/-- Strings and numbers of a size that a program may meet. -/
structure Sml (T : List VI) : Prop where
  nums : ∀ x ∈ T, -9223372036854775808 ≤ x.num ∧ x.num ≤ 9223372036854775807
  texts : ∀ x ∈ T, x.text.length ≤ 17592186044416
  namesS : ∀ x ∈ T, ∀ n ∈ x.names, n.length ≤ 17592186044416
theorem okay_of {T : List VI} (hs : Sml T) (h : checkE T = 0) : Okay T := by
  unfold checkE at h
  split at h
  · cases h
  · rename_i h0
    split at h
    · cases h
    · split at h
      · rename_i hj
        obtain ⟨hj, hp⟩ := hj
        have hin := ((joined_iff (K := T.map VI.kids) (by intro e; apply h0; simpa using congrArg List.length e)).1 hj).1
        rw [List.all_eq_true] at hp
        have hpk : ∀ x ∈ T, (x.kind = 1 ∨ x.kind = 2 ∨ x.kind = 3 ∨ x.kind = 4 ∨ x.kind = 5 ∨ x.kind = 6) ∧ (x.kind = 6 → x.names.length = x.kids.length) := fun x hx => by
          have := hp x hx
          unfold plainB at this
          rw [Bool.and_eq_true] at this
          have h2 := this.2
          split at h2
          · rename_i hk; refine ⟨by omega, fun e => by omega⟩
          · split at h2
            · rename_i hk; exact ⟨by omega, fun e => by omega⟩
            · split at h2
              · rename_i hk; exact ⟨by omega, fun e => by omega⟩
              · split at h2
                · rename_i hk
                  rw [Bool.and_eq_true] at h2
                  exact ⟨by omega, fun _ => by simpa using h2.1⟩
                · cases h2
        refine ⟨fun i x hx k hk => ?_, fun i x hx => ?_, fun i x hx => (hpk x (List.mem_of_getElem? hx)).2, fun i x hx => hs.nums x (List.mem_of_getElem? hx), fun i x hx => hs.texts x (List.mem_of_getElem? hx), fun i x hx => hs.namesS x (List.mem_of_getElem? hx)⟩
        · have := inR_at T 0 hin i x hx k hk
          simpa using this
        · have := (hpk x (List.mem_of_getElem? hx)).1
          omega
      · cases h
theorem tree_len {w : World} {v : Value} {T : List VI} (h : TreeAt w v T) : ∃ a c, v = .slice a T.length c := by
  obtain ⟨a, c, e, _⟩ := h
  exact ⟨a, c, e⟩
set_option maxHeartbeats 1600000 in
theorem check_any {T : List VI} {v : Value} {w : World} (hT : TreeAt w v T) (hz : ∀ x ∈ T, SzV x) (hU : TabU w) :
    Calls Tryd.prog 11 #[v] w fun e w' => e = .returned (.int .i64 (checkE T)) ∧ Below w.heap.size w w' := by
  have hlm : T.length ≤ 9223372036854775807 := by obtain ⟨_, _, _, h, _⟩ := hT; exact h
  obtain ⟨a, c, rfl⟩ := tree_len hT
  have HTR := hide hT
  have HZ := hide hz
  have HU := hide hU
  have HB0 := hide (Below.refl w.heap.size w)
  clear hT hz hU
  unfold checkE
  by_cases h0 : T.length = 0
  · rw [if_pos h0]
    have z0 : ((T.length : Int) == 0) = true := by rw [h0]; rfl
    rw [h0]
    go_enter Tryd.func11, Tryd.ntmps11
    go_wp2
    go_ret
    exact ⟨rfl, HB0.out⟩
  · rw [if_neg h0]
    have z0 : ((T.length : Int) == 0) = false := beq_eq_false_iff_ne.2 (by omega)
    have z00 : ¬ (T.length : Int) = 0 := by omega
    by_cases h1 : 8192 < T.length
    · rw [if_pos h1]
      have z1 : (8192 : Int) < (T.length : Int) := by omega
      go_enter Tryd.func11, Tryd.ntmps11
      go_wp2
      go_ret
      exact ⟨rfl, HB0.out⟩
    · rw [if_neg h1]
      have z1 : ¬ (8192 : Int) < (T.length : Int) := by omega
      have HJ := hide (fun (w' : World) (h : Below w.heap.size w w') => joined_any (HTR.out.later h) (by omega) (by omega))
      have HP := hide (fun (w' : World) (h : Below w.heap.size w w') => allPlain_any (HTR.out.later h) HZ.out (HU.out.later h))
      have HJI := hide (joined_iff (K := T.map VI.kids) (by intro e; apply h0; simpa using congrArg List.length e))
      cases hj : joinedB (T.map VI.kids)
      · rw [if_neg (by rintro ⟨h, _⟩; cases h)]
        have HJ2 : Hid (joinedB (T.map VI.kids) = false) := hj
        clear hj HJI
        go_enter Tryd.func11, Tryd.ntmps11
        go_wp2_with (first
          | (go_at_call 22; refine (HJ.out _ HB0.out).mono ?_; rintro e w1 ⟨rfl, k2⟩; rw [HJ2.out]; have H1 := hide k2; clear k2))
        go_ret
        exact ⟨rfl, H1.out⟩
      · have HJ2 : Hid (joinedB (T.map VI.kids) = true) := hj
        have HIN := hide (HJI.out.1 hj).1
        clear hj HJI
        cases hp : T.all plainB
        · rw [if_neg (by rintro ⟨_, h⟩; cases h)]
          have HP2 : Hid (T.all plainB = false) := hp
          clear hp
          go_enter Tryd.func11, Tryd.ntmps11
          go_wp2_with (first
            | (go_at_call 22; refine (HJ.out _ HB0.out).mono ?_; rintro e w1 ⟨rfl, k2⟩; rw [HJ2.out]; have H1 := hide k2; clear k2)
            | (go_at_call 23; refine (HP.out _ H1.out).mono ?_; rintro e w2 ⟨rfl, k3⟩; rw [HP2.out]; have H2 := hide (below_on H1.out k3); clear k3))
          go_ret
          exact ⟨rfl, H2.out⟩
        · rw [if_pos ⟨rfl, rfl⟩]
          have HP2 : Hid (T.all plainB = true) := hp
          clear hp
          have HD := hide (fun (w' : World) (h : Below w.heap.size w w') => deep_any (HTR.out.later h) (by omega) (by omega) HIN.out)
          generalize (dpT T).getD (T.length - 1) 0 = d at HD ⊢
          by_cases hd : 16 < d
          · rw [if_pos hd]
            go_enter Tryd.func11, Tryd.ntmps11
            go_wp2_with (first
              | (go_at_call 22; refine (HJ.out _ HB0.out).mono ?_; rintro e w1 ⟨rfl, k2⟩; rw [HJ2.out]; have H1 := hide k2; clear k2)
              | (go_at_call 23; refine (HP.out _ H1.out).mono ?_; rintro e w2 ⟨rfl, k3⟩; rw [HP2.out]; have H2 := hide (below_on H1.out k3); clear k3)
              | (go_at_call 24; refine (HD.out _ H2.out).mono ?_; rintro e w3 ⟨rfl, k3⟩; have H3 := hide (below_on H2.out k3); clear k3))
            go_ret
            exact ⟨rfl, H3.out⟩
          · rw [if_neg hd]
            go_enter Tryd.func11, Tryd.ntmps11
            go_wp2_with (first
              | (go_at_call 22; refine (HJ.out _ HB0.out).mono ?_; rintro e w1 ⟨rfl, k2⟩; rw [HJ2.out]; have H1 := hide k2; clear k2)
              | (go_at_call 23; refine (HP.out _ H1.out).mono ?_; rintro e w2 ⟨rfl, k3⟩; rw [HP2.out]; have H2 := hide (below_on H1.out k3); clear k3)
              | (go_at_call 24; refine (HD.out _ H2.out).mono ?_; rintro e w3 ⟨rfl, k3⟩; have H3 := hide (below_on H2.out k3); clear k3))
            go_ret
            exact ⟨rfl, H3.out⟩
/-- The text of a tree, or no text, and the error. -/
def textM (T : List VI) : List UInt8 := if checkE T = 0 then writeF T T.length ((T.length : Int) - 1) else []
set_option maxHeartbeats 1600000 in
theorem print_any {T : List VI} {v : Value} {w : World} (hT : TreeAt w v T) (hs : Sml T) (hU : TabU w) (hP : Tab w) (hl : (textM T).length ≤ 140737487000000) :
    Calls Tryd.prog 14 #[v] w fun e w' => ∃ v', e = .returned (.tuple #[v', .int .i64 (checkE T)]) ∧ BRow w' w.heap.size v' (textM T) ∧ Below w.heap.size w w' := by
  have hlm : T.length ≤ 9223372036854775807 := by obtain ⟨_, _, _, h, _⟩ := hT; exact h
  obtain ⟨a, c, rfl⟩ := tree_len hT
  have HC := hide (check_any hT (fun x hx => ⟨Nat.le_trans (hs.texts x hx) (by decide), fun s h => Nat.le_trans (hs.namesS x hx s h) (by decide)⟩) hU)
  by_cases hc : checkE T = 0
  · have ho := okay_of hs hc
    have h0 : T.length ≠ 0 := fun e => by simp [checkE, e] at hc
    have e1 : (T.length : Int) - 1 = ((T.length - 1 : Nat) : Int) := by omega
    have et : textM T = writeF T T.length ((T.length - 1 : Nat) : Int) := by rw [textM, if_pos hc, e1]
    rw [et] at hl ⊢
    have HW := hide (write_all hT ho hP T.length (T.length - 1) (by omega) (by omega))
    have HLL := hide hl
    generalize hk : T.length - 1 = k at HW hl HLL e1
    rw [hc] at HC ⊢
    clear hk et ho hc
    go_enter Tryd.func14, Tryd.ntmps14
    go_wp2_with (first
      | (go_at_call 11; refine HC.out.mono ?_; rintro e w1 ⟨rfl, k2⟩; have H1 := hide k2; clear k2)
      | (go_at_call 26; refine (HW.out.use H1.out (brow_nil _ _) (by have := HLL.out; simp only [List.length_nil]; omega)).mono ?_; rintro e w2 ⟨v2, rfl, h2⟩; have H2 := hide h2.row; have H3 := hide (h2.below (brow_nil _ _) H1.out H1.out.size); clear h2))
    go_ret2
    exact ⟨_, rfl, by simpa using H2.out, H3.out⟩
  · have et : textM T = [] := by rw [textM, if_neg hc]
    rw [et]
    have z1 : (checkE T != 0) = true := by simpa using hc
    go_enter Tryd.func14, Tryd.ntmps14
    go_wp2_with (first
      | (go_at_call 11; refine HC.out.mono ?_; rintro e w1 ⟨rfl, k2⟩; have H1 := hide k2; clear k2))
    go_ret2
    exact ⟨_, rfl, brow_nil _ _, H1.out⟩
end Go.Proofs.YtpffhckimilppaaDoor
