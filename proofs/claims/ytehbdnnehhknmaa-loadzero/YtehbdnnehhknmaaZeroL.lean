/-
  What the law LoadZero does.
-/
import Derived.Test.YtehbdnnehhknmaaIs
namespace Go.Proofs.Ytehbdnnehhknmaa
open Go.RowKit

theorem IRow.addr {w : World} {base m c : Nat} {a : Option Addr} {xs : List Int} (h : IRow w base (.slice a m c) xs) (hn : 0 < xs.length) : ∃ g, a = some ⟨g, 0, none⟩ ∧ base ≤ g ∧ g < w.heap.size := by
  rcases h.2 with ⟨_, h0⟩ | ⟨g, cap, cur, hv, hb, _⟩
  · omega
  · cases hv
    exact ⟨g, rfl, hb, (h.lt g rfl).2⟩
theorem IRow.setNe {w : World} {base m c g b j : Nat} {xs : List Int} (h : IRow w base (.slice (some ⟨g, 0, none⟩) m c) xs) (hne : g ≠ b) (u : Value) : IRow (w.setCell ⟨b, j, none⟩ u) base (.slice (some ⟨g, 0, none⟩) m c) xs :=
  own_of_block h (fun k hk => by
    cases hk
    exact heap_setCell_other w _ g u (fun e => hne e))
theorem rep_get (k i : Nat) (h : i < k) : (List.replicate k (0 : Int))[i]! = 0 := by
  rw [getElem!_pos _ i (by simpa using h)]; simp
theorem eachM_id {f : Int → Int → Int × Int} {xs : List Int} {k : Nat} (hl : xs.length = k) (hf : ∀ i, i < k → f xs[i]! 0 = (xs[i]!, 0)) : eachM f xs (List.replicate k 0) = (xs, 0) := by
  subst hl
  have key : ∀ i, i < xs.length → f xs[i]! (List.replicate xs.length (0 : Int))[i]! = (xs[i]!, 0) := fun i hi => by rw [rep_get _ _ hi]; exact hf i hi
  rw [eachM_ok (by simp) (fun i hi => by rw [key i hi])]
  congr 1
  apply list_ext (by simp)
  intro i hi
  have hi' : i < xs.length := by simpa using hi
  rw [range_get _ _ _ hi', key i hi']
theorem addF_zero {x : Int} (h : 0 ≤ x ∧ x ≤ 1000000) : addF x 0 = (x, 0) := by
  have h1 : fitsB x = true := by rw [fitsB_iff]; omega
  have h2 : fitsB 0 = true := by decide
  simp [addF, addV, addE, addOk, h1, h2]
theorem subF_zero {x : Int} (h : 0 ≤ x ∧ x ≤ 1000000) : subF x 0 = (x, 0) := by
  rw [subF_neg]; exact addF_zero h
theorem mostF_zero {x : Int} (h : 0 ≤ x ∧ x ≤ 1000000) : mostF x 0 = (x, 0) := by
  unfold mostF
  split
  · rfl
  · rw [show x = 0 by omega]
theorem checkE_yes {xs : List Int} {n : Int} (h : checkE xs n = 0) : (xs.length : Int) = n ∧ ∀ i, i < xs.length → 0 ≤ xs[i]! ∧ xs[i]! ≤ 1000000 := by
  unfold checkE at h
  split at h
  · rename_i h1
    split at h
    · rename_i h2; exact ⟨h1, h2⟩
    · cases h
  · cases h
theorem wrap_nonneg (x : Int) : 0 ≤ IntKind.u64.wrap x := by rw [IntKind.wrap_u64]; omega
theorem zero_row (k : Nat) (w : World) (h : k ≤ 3) : Calls Try.prog 15 #[.int .i64 k] w fun e w' => ∃ a, e = .returned (.slice a k k) ∧ IRow w' w.heap.size (.slice a k k) (List.replicate k 0) ∧ Below w.heap.size w w' := by
  refine (zero_in k w h).mono ?_
  rintro e' w' ⟨rfl, rfl⟩
  exact ⟨some ⟨w.heap.size, 0, none⟩, rfl, irow_made w (Nat.le_refl w.heap.size) (show k ≤ 1000 by omega), (Below.refl _ _).alloc (Nat.le_refl _) _⟩
/-- Two rows of zeros that are just made are the same. -/
theorem zz_same (k : Nat) (hk : k ≤ 3) (W : World) : (Calls Try.prog 20 #[.slice (some ⟨W.heap.size, 0, none⟩) k k, .slice (some ⟨W.heap.size + 1, 0, none⟩) k k] ((W.alloc (.cells (Array.replicate k (.int .i64 0)) 3)).alloc (.cells (Array.replicate k (.int .i64 0)) 3)) fun e w' => e = .returned (.bool true) ∧ Below W.heap.size W w') ∧
    (Calls Try.prog 20 #[.slice (some ⟨W.heap.size + 1, 0, none⟩) k k, .slice (some ⟨W.heap.size, 0, none⟩) k k] ((W.alloc (.cells (Array.replicate k (.int .i64 0)) 3)).alloc (.cells (Array.replicate k (.int .i64 0)) 3)) fun e w' => e = .returned (.bool true) ∧ Below W.heap.size W w') := by
  have h1 := (irow_made W (base := W.heap.size) (n := k) (Nat.le_refl _) (by omega)).ints
  have h2 := (irow_made (W.alloc (.cells (Array.replicate k (.int .i64 0)) 3)) (base := W.heap.size + 1) (n := k) (by simp) (by omega)).ints
  rw [show (W.alloc (.cells (Array.replicate k (.int .i64 0)) 3)).heap.size = W.heap.size + 1 by simp] at h2
  have h3 := h1.alloc (.cells (Array.replicate k (.int .i64 0)) 3)
  have hb : Below W.heap.size W ((W.alloc (.cells (Array.replicate k (.int .i64 0)) 3)).alloc (.cells (Array.replicate k (.int .i64 0)) 3)) := ((Below.refl _ _).alloc (Nat.le_refl _) _).alloc (by simp) _
  exact ⟨(same_any h3 h2 (by simp) (by simp) (by omega) (by omega)).mono fun e w' h => ⟨by rw [h.1, sameB_self], below_on hb h.2⟩,
    (same_any h2 h3 (by simp) (by simp) (by omega) (by omega)).mono fun e w' h => ⟨by rw [h.1, sameB_self], below_on hb h.2⟩⟩
/-- The five rows, in blocks of their own. -/
structure Z5 (w : World) (k gz gi gs gd gm cz ci cs cd cm : Nat) (za Z S D M : List Int) (wr : World) : Prop where
  below : Below w.heap.size w wr
  rz : IRow wr w.heap.size (.slice (some ⟨gz, 0, none⟩) k cz) Z
  ri : IRow wr w.heap.size (.slice (some ⟨gi, 0, none⟩) k ci) za
  rs : IRow wr w.heap.size (.slice (some ⟨gs, 0, none⟩) k cs) S
  rd : IRow wr w.heap.size (.slice (some ⟨gd, 0, none⟩) k cd) D
  rm : IRow wr w.heap.size (.slice (some ⟨gm, 0, none⟩) k cm) M
  lz : Z.length = k
  ls : S.length = k
  ld : D.length = k
  lm : M.length = k
section
variable {w wr w' : World} {k gz gi gs gd gm cz ci cs cd cm : Nat} {za Z S D M : List Int}
theorem Z5.later (h : Z5 w k gz gi gs gd gm cz ci cs cd cm za Z S D M wr) (f : Below wr.heap.size wr w') : Z5 w k gz gi gs gd gm cz ci cs cd cm za Z S D M w' :=
  ⟨below_on h.below f, h.rz.later (Nat.le_refl _) f, h.ri.later (Nat.le_refl _) f, h.rs.later (Nat.le_refl _) f, h.rd.later (Nat.le_refl _) f, h.rm.later (Nat.le_refl _) f, h.lz, h.ls, h.ld, h.lm⟩
theorem Z5.setZ (h : Z5 w k gz gi gs gd gm cz ci cs cd cm za Z S D M wr) (hi : gi ≠ gz) (hs : gs ≠ gz) (hd : gd ≠ gz) (hm : gm ≠ gz) (j : Nat) (x : Int) : Z5 w k gz gi gs gd gm cz ci cs cd cm za (Z.set j x) S D M (wr.setCell ⟨gz, j, none⟩ (.int .i64 x)) :=
  ⟨h.below.setCell (h.rz.lt gz rfl).1 _, h.rz.set j x, h.ri.setNe hi _, h.rs.setNe hs _, h.rd.setNe hd _, h.rm.setNe hm _, by rw [List.length_set]; exact h.lz, h.ls, h.ld, h.lm⟩
theorem Z5.setS (h : Z5 w k gz gi gs gd gm cz ci cs cd cm za Z S D M wr) (hi : gi ≠ gs) (hz : gz ≠ gs) (hd : gd ≠ gs) (hm : gm ≠ gs) (j : Nat) (x : Int) : Z5 w k gz gi gs gd gm cz ci cs cd cm za Z (S.set j x) D M (wr.setCell ⟨gs, j, none⟩ (.int .i64 x)) :=
  ⟨h.below.setCell (h.rs.lt gs rfl).1 _, h.rz.setNe hz _, h.ri.setNe hi _, h.rs.set j x, h.rd.setNe hd _, h.rm.setNe hm _, h.lz, by rw [List.length_set]; exact h.ls, h.ld, h.lm⟩
theorem Z5.setD (h : Z5 w k gz gi gs gd gm cz ci cs cd cm za Z S D M wr) (hi : gi ≠ gd) (hz : gz ≠ gd) (hs : gs ≠ gd) (hm : gm ≠ gd) (j : Nat) (x : Int) : Z5 w k gz gi gs gd gm cz ci cs cd cm za Z S (D.set j x) M (wr.setCell ⟨gd, j, none⟩ (.int .i64 x)) :=
  ⟨h.below.setCell (h.rd.lt gd rfl).1 _, h.rz.setNe hz _, h.ri.setNe hi _, h.rs.setNe hs _, h.rd.set j x, h.rm.setNe hm _, h.lz, h.ls, by rw [List.length_set]; exact h.ld, h.lm⟩
theorem Z5.setM (h : Z5 w k gz gi gs gd gm cz ci cs cd cm za Z S D M wr) (hi : gi ≠ gm) (hz : gz ≠ gm) (hs : gs ≠ gm) (hd : gd ≠ gm) (j : Nat) (x : Int) : Z5 w k gz gi gs gd gm cz ci cs cd cm za Z S D (M.set j x) (wr.setCell ⟨gm, j, none⟩ (.int .i64 x)) :=
  ⟨h.below.setCell (h.rm.lt gm rfl).1 _, h.rz.setNe hz _, h.ri.setNe hi _, h.rs.setNe hs _, h.rd.setNe hd _, h.rm.set j x, h.lz, h.ls, h.ld, by rw [List.length_set]; exact h.lm⟩
end

set_option maxRecDepth 100000 in
set_option maxHeartbeats 6400000 in
theorem lawZero_any {w : World} {a : Option Addr} {na ca : Nat} {za : List Int} (x : Int) (ha : IntsAt w a za) (la : za.length = na)
    (ca0 : a = none → ca = 0) (ma : na * 8 ≤ 140737488351232) :
    Calls Try.prog 6 #[.slice a na ca, .int .i64 x] w fun e w' => e = .returned (.bool true) ∧ Below w.heap.size w w' := by
  have R0_a := hide ha
  have HL_a := hide la
  have HC_a := hide ca0
  have HB0 := hide (Below.refl w.heap.size w)
  clear ha la ca0
  obtain ⟨u, hu⟩ : ∃ u : Nat, IntKind.u64.wrap x = (u : Int) := ⟨(IntKind.u64.wrap x).toNat, by have := wrap_nonneg x; omega⟩
  obtain ⟨k, hk⟩ : ∃ k : Nat, u % 4 = k := ⟨_, rfl⟩
  have hk3 : k ≤ 3 := by omega
  have hm1 : Int.tmod (u : Int) 4 = (k : Int) := by rw [Int.tmod_eq_emod_of_nonneg (by omega)]; omega
  have hm2 : (u : Int) % 4 = (k : Int) := by omega
  have hm3 : IntKind.u64.wrap (k : Int) = (k : Int) := by rw [IntKind.wrap_u64]; omega
  have hm4 : IntKind.i64.wrap (k : Int) = (k : Int) := by rw [IntKind.wrap_i64]; omega
  clear hk
  have HLZ : Hid ((List.replicate k (0 : Int)).length = k) := by show _ = _; simp
  have HCZ : Hid (checkE (List.replicate k 0) (k : Int) = 0) := by
    show _ = _
    refine checkE_ok (by simp) fun i hi => ?_
    rw [rep_get _ _ (by simpa using hi)]; omega
  have HFZ : Hid (Fit (List.replicate k 0)) := fun i hi => by
    rw [rep_get _ _ (by simpa using hi)]; exact ⟨by decide, by decide⟩
  have kk : ((k : Int) != (k : Int)) = false := by simp
  obtain ⟨ce, HX⟩ : ∃ ce, Hid (checkE za (k : Int) = ce) := ⟨_, rfl⟩
  by_cases hz : ¬ ce = 0
  · have z1 : (ce != 0) = true := by simpa using hz
    have z0 : ((0 : Int) != 0) = false := rfl
    go_enter Try.func6, Try.ntmps6
    go_wp2_with (first
      | (go_at_call 16; refine (check_any _ R4_x.out HL_a.out (by omega)).mono ?_; rintro e w5 ⟨rfl, k0⟩; have k2 : Below w4.heap.size w4 w5 := (by rw [k0]; exact Below.refl _ _); clear k0; rw [HX.out]; have HB5 := hide (below_on HB4.out k2); have R5_a := hide (R4_a.out.later k2); have R5_z := hide (R4_z.out.later k2); have R5_x := hide (R4_x.out.later k2); have O5_z := hide (O4_z.out.later (Nat.le_refl _) k2); have O5_x := hide (O4_x.out.later (Nat.le_refl _) k2); clear k2)
      | (at_builtin; refine app_ints (.tmp 33) (.tmp 34) rfl rfl rfl rfl HL_a.out R3_a.out HC_a.out (by omega) HB3.out ?_; intro a_x c_x w4 k1 k2 k3; have HB4 := hide k3; have R4_x := hide k1.ints; have O4_x := hide k1; have R4_a := hide (R3_a.out.later k2); have R4_z := hide (R3_z.out.later k2); have O4_z := hide (O3_z.out.later (Nat.le_refl _) k2); clear k1 k2 k3)
      | (go_at_call 16; refine (check_any _ R2_z.out HLZ.out (by omega)).mono ?_; rintro e w3 ⟨rfl, k0⟩; have k2 : Below w2.heap.size w2 w3 := (by rw [k0]; exact Below.refl _ _); clear k0; rw [HCZ.out]; have HB3 := hide (below_on HB2.out k2); have R3_a := hide (R2_a.out.later k2); have R3_z := hide (R2_z.out.later k2); have O3_z := hide (O2_z.out.later (Nat.le_refl _) k2); clear k2)
      | (go_at_call 15; refine (zero_row _ _ hk3).mono ?_; rintro e w2 ⟨a_z, rfl, k1, k2⟩; have HB2 := hide (below_on HB1.out k2); have R2_z := hide k1.ints; have O2_z := hide k1; have R2_a := hide (R1_a.out.later k2); clear k1 k2)
      | (go_at_call 7; refine (awake_any _).mono ?_; rintro e w1 ⟨rfl, k2⟩; have HB1 := hide (below_on HB0.out k2); have R1_a := hide (R0_a.out.later k2); clear k2))
    go_ret
    exact ⟨rfl, HB5.out⟩
  replace hz := Decidable.not_not.1 hz
  subst hz
  have z0 : ((0 : Int) != 0) = false := rfl
  obtain ⟨hlk, hr⟩ := checkE_yes HX.out
  have hnk : na = k := by have := HL_a.out; omega
  subst hnk
  have HV1 := hide (eachM_id (f := addF) HL_a.out (fun i hi => addF_zero (hr i (by rw [HL_a.out]; exact hi))))
  have HV2 := hide (eachM_id (f := subF) HL_a.out (fun i hi => subF_zero (hr i (by rw [HL_a.out]; exact hi))))
  have HV3 := hide (eachM_id (f := mostF) HL_a.out (fun i hi => mostF_zero (hr i (by rw [HL_a.out]; exact hi))))
  have aself := sameB_self za
  have HZS := hide (sameB_self (List.replicate na 0))
  clear hlk hr
  go_enter Try.func6, Try.ntmps6
  go_wp2_with (first
    | (go_at_call 13; refine (most_is HV3 HL_a R8_i.out R8_z.out HL_a.out HLZ.out (by omega) (by omega)).mono ?_; rintro e w9 ⟨a_m, c_m, rfl, k1, k2⟩; have HB9 := hide (below_on HB8.out k2); have R9_m := hide k1.ints; have O9_m := hide k1; have R9_a := hide (R8_a.out.later k2); have R9_z := hide (R8_z.out.later k2); have R9_x := hide (R8_x.out.later k2); have R9_i := hide (R8_i.out.later k2); have R9_s := hide (R8_s.out.later k2); have R9_d := hide (R8_d.out.later k2); have O9_z := hide (O8_z.out.later (Nat.le_refl _) k2); have O9_x := hide (O8_x.out.later (Nat.le_refl _) k2); have O9_i := hide (O8_i.out.later (Nat.le_refl _) k2); have O9_s := hide (O8_s.out.later (Nat.le_refl _) k2); have O9_d := hide (O8_d.out.later (Nat.le_refl _) k2); clear k1 k2)
    | (go_at_call 12; refine (sub_is HV2 HL_a R7_i.out R7_z.out HL_a.out HLZ.out (by omega) (by omega) HFZ.out).mono ?_; rintro e w8 ⟨a_d, c_d, rfl, k1, k2⟩; have HB8 := hide (below_on HB7.out k2); have R8_d := hide k1.ints; have O8_d := hide k1; have R8_a := hide (R7_a.out.later k2); have R8_z := hide (R7_z.out.later k2); have R8_x := hide (R7_x.out.later k2); have R8_i := hide (R7_i.out.later k2); have R8_s := hide (R7_s.out.later k2); have O8_z := hide (O7_z.out.later (Nat.le_refl _) k2); have O8_x := hide (O7_x.out.later (Nat.le_refl _) k2); have O8_i := hide (O7_i.out.later (Nat.le_refl _) k2); have O8_s := hide (O7_s.out.later (Nat.le_refl _) k2); clear k1 k2)
    | (go_at_call 8; refine (add_is HV1 HL_a R6_i.out R6_z.out HL_a.out HLZ.out (by omega) (by omega)).mono ?_; rintro e w7 ⟨a_s, c_s, rfl, k1, k2⟩; have HB7 := hide (below_on HB6.out k2); have R7_s := hide k1.ints; have O7_s := hide k1; have R7_a := hide (R6_a.out.later k2); have R7_z := hide (R6_z.out.later k2); have R7_x := hide (R6_x.out.later k2); have R7_i := hide (R6_i.out.later k2); have O7_z := hide (O6_z.out.later (Nat.le_refl _) k2); have O7_x := hide (O6_x.out.later (Nat.le_refl _) k2); have O7_i := hide (O6_i.out.later (Nat.le_refl _) k2); clear k1 k2)
    | (at_builtin; refine app_ints (.tmp 39) (.tmp 40) rfl rfl rfl rfl HL_a.out R5_a.out HC_a.out (by omega) HB5.out ?_; intro a_i c_i w6 k1 k2 k3; have HB6 := hide k3; have R6_i := hide k1.ints; have O6_i := hide k1; have R6_a := hide (R5_a.out.later k2); have R6_z := hide (R5_z.out.later k2); have R6_x := hide (R5_x.out.later k2); have O6_z := hide (O5_z.out.later (Nat.le_refl _) k2); have O6_x := hide (O5_x.out.later (Nat.le_refl _) k2); clear k1 k2 k3)
    | (go_at_call 16; refine (check_any _ R4_x.out HL_a.out (by omega)).mono ?_; rintro e w5 ⟨rfl, k0⟩; have k2 : Below w4.heap.size w4 w5 := (by rw [k0]; exact Below.refl _ _); clear k0; rw [HX.out]; have HB5 := hide (below_on HB4.out k2); have R5_a := hide (R4_a.out.later k2); have R5_z := hide (R4_z.out.later k2); have R5_x := hide (R4_x.out.later k2); have O5_z := hide (O4_z.out.later (Nat.le_refl _) k2); have O5_x := hide (O4_x.out.later (Nat.le_refl _) k2); clear k2)
    | (at_builtin; refine app_ints (.tmp 33) (.tmp 34) rfl rfl rfl rfl HL_a.out R3_a.out HC_a.out (by omega) HB3.out ?_; intro a_x c_x w4 k1 k2 k3; have HB4 := hide k3; have R4_x := hide k1.ints; have O4_x := hide k1; have R4_a := hide (R3_a.out.later k2); have R4_z := hide (R3_z.out.later k2); have O4_z := hide (O3_z.out.later (Nat.le_refl _) k2); clear k1 k2 k3)
    | (go_at_call 16; refine (check_any _ R2_z.out HLZ.out (by omega)).mono ?_; rintro e w3 ⟨rfl, k0⟩; have k2 : Below w2.heap.size w2 w3 := (by rw [k0]; exact Below.refl _ _); clear k0; rw [HCZ.out]; have HB3 := hide (below_on HB2.out k2); have R3_a := hide (R2_a.out.later k2); have R3_z := hide (R2_z.out.later k2); have O3_z := hide (O2_z.out.later (Nat.le_refl _) k2); clear k2)
    | (go_at_call 15; refine (zero_row _ _ hk3).mono ?_; rintro e w2 ⟨a_z, rfl, k1, k2⟩; have HB2 := hide (below_on HB1.out k2); have R2_z := hide k1.ints; have O2_z := hide k1; have R2_a := hide (R1_a.out.later k2); clear k1 k2)
    | (go_at_call 7; refine (awake_any _).mono ?_; rintro e w1 ⟨rfl, k2⟩; have HB1 := hide (below_on HB0.out k2); have R1_a := hide (R0_a.out.later k2); clear k2))
  by_cases hk0 : na = 0
  · have n0 : ¬ (0 : Int) < (na : Int) := by omega
    clear hk0
    refine wp_loop_rounds 1 ?_
    rw [rounds_succ]
    go_wp2_with (first
      | (go_at_call 20; refine (same_any R11_m.out R11_a.out HL_a.out HL_a.out (by omega) (by omega)).mono ?_; rintro e w12 ⟨rfl, k2⟩; have HB12 := hide (below_on HB11.out k2); have R12_a := hide (R11_a.out.later k2); have R12_z := hide (R11_z.out.later k2); have R12_x := hide (R11_x.out.later k2); have R12_i := hide (R11_i.out.later k2); have R12_s := hide (R11_s.out.later k2); have R12_d := hide (R11_d.out.later k2); have R12_m := hide (R11_m.out.later k2); have O12_z := hide (O11_z.out.later (Nat.le_refl _) k2); have O12_x := hide (O11_x.out.later (Nat.le_refl _) k2); have O12_i := hide (O11_i.out.later (Nat.le_refl _) k2); have O12_s := hide (O11_s.out.later (Nat.le_refl _) k2); have O12_d := hide (O11_d.out.later (Nat.le_refl _) k2); have O12_m := hide (O11_m.out.later (Nat.le_refl _) k2); clear k2)
      | (go_at_call 20; refine (same_any R10_d.out R10_a.out HL_a.out HL_a.out (by omega) (by omega)).mono ?_; rintro e w11 ⟨rfl, k2⟩; have HB11 := hide (below_on HB10.out k2); have R11_a := hide (R10_a.out.later k2); have R11_z := hide (R10_z.out.later k2); have R11_x := hide (R10_x.out.later k2); have R11_i := hide (R10_i.out.later k2); have R11_s := hide (R10_s.out.later k2); have R11_d := hide (R10_d.out.later k2); have R11_m := hide (R10_m.out.later k2); have O11_z := hide (O10_z.out.later (Nat.le_refl _) k2); have O11_x := hide (O10_x.out.later (Nat.le_refl _) k2); have O11_i := hide (O10_i.out.later (Nat.le_refl _) k2); have O11_s := hide (O10_s.out.later (Nat.le_refl _) k2); have O11_d := hide (O10_d.out.later (Nat.le_refl _) k2); have O11_m := hide (O10_m.out.later (Nat.le_refl _) k2); clear k2)
      | (go_at_call 20; refine (same_any R9_s.out R9_a.out HL_a.out HL_a.out (by omega) (by omega)).mono ?_; rintro e w10 ⟨rfl, k2⟩; have HB10 := hide (below_on HB9.out k2); have R10_a := hide (R9_a.out.later k2); have R10_z := hide (R9_z.out.later k2); have R10_x := hide (R9_x.out.later k2); have R10_i := hide (R9_i.out.later k2); have R10_s := hide (R9_s.out.later k2); have R10_d := hide (R9_d.out.later k2); have R10_m := hide (R9_m.out.later k2); have O10_z := hide (O9_z.out.later (Nat.le_refl _) k2); have O10_x := hide (O9_x.out.later (Nat.le_refl _) k2); have O10_i := hide (O9_i.out.later (Nat.le_refl _) k2); have O10_s := hide (O9_s.out.later (Nat.le_refl _) k2); have O10_d := hide (O9_d.out.later (Nat.le_refl _) k2); have O10_m := hide (O9_m.out.later (Nat.le_refl _) k2); clear k2))
    refine wp_loop_rounds 1 ?_
    rw [rounds_succ]
    go_wp2
    have HBD := hide (below_on HB12.out (Below.refl _ _).drew)
    have HS1 := hide ((same_any (w := w12.drew) (ca := c_i) (cb := ca) R12_i.out.drew R12_a.out.drew HL_a.out HL_a.out (by omega) (by omega)).mono (fun e w' h => And.intro h.1 (below_on HBD.out h.2)))
    have hmk := fun w' => made_ints na (by omega) w'
    go_region_with (first | (go_at_call 15; refine (zero_in _ _ hk3).mono ?_; rintro e w15 ⟨rfl, hw⟩; rw [hw]; clear hw) | (go_at_call 20; refine ((zz_same _ hk3 w14).1).mono ?_; rintro e w16 ⟨rfl, k2⟩; have H6 := hide (below_on H4.out k2); clear k2) | (go_at_call 20; refine ((zz_same _ hk3 w14).2).mono ?_; rintro e w16 ⟨rfl, k2⟩; have H6 := hide (below_on H4.out k2); clear k2) | (go_at_call 20; refine HS1.out.mono ?_; rintro e w14 ⟨rfl, k2⟩; have H4 := hide k2; clear k2 HS1))
    all_goals
      go_wp2
      go_ret
      exact ⟨rfl, H6.out⟩
  · have hpos : 0 < za.length := by rw [HL_a.out]; omega
    obtain ⟨gz, rfl, _, _⟩ := O9_z.out.addr (by rw [HLZ.out]; omega)
    obtain ⟨gi, rfl, _, _⟩ := O9_i.out.addr hpos
    obtain ⟨gs, rfl, _, _⟩ := O9_s.out.addr hpos
    obtain ⟨gd, rfl, _, _⟩ := O9_d.out.addr hpos
    obtain ⟨gm, rfl, _, _⟩ := O9_m.out.addr hpos
    have HO : Hid (gz < gi ∧ gi < gs ∧ gs < gd ∧ gd < gm) := by
      have a1 := (O5_z.out.lt gz rfl).2
      have a2 := (O6_i.out.lt gi rfl)
      have a3 := (O7_s.out.lt gs rfl)
      have a4 := (O8_d.out.lt gd rfl)
      have a5 := (O9_m.out.lt gm rfl)
      exact ⟨by omega, by omega, by omega, by omega⟩
    have HY : Hid (Z5 w na gz gi gs gd gm na c_i c_s c_d c_m za (List.replicate na 0) za za za w9) :=
      ⟨HB9.out, O9_z.out.mono HB1.out.size, O9_i.out.mono HB5.out.size, O9_s.out.mono HB6.out.size, O9_d.out.mono HB7.out.size, O9_m.out.mono HB8.out.size, HLZ.out, HL_a.out, HL_a.out, HL_a.out⟩
    clear R1_a R2_a R2_z R3_a R3_z R4_a R4_z R4_x R5_a R5_z R5_x R6_a R6_z R6_x R6_i R7_a R7_z R7_x R7_i R7_s R8_a R8_z R8_x R8_i R8_s R8_d R9_a R9_z R9_x R9_i R9_s R9_d R9_m O2_z O3_z O4_z O4_x O5_z O5_x O6_z O6_x O6_i O7_z O7_x O7_i O7_s O8_z O8_x O8_i O8_s O8_d O9_z O9_x O9_i O9_s O9_d O9_m HB0 HB1 HB2 HB3 HB4 HB5 HB6 HB7 HB8 HB9
    go_loopw [62] (fun vi wr => ∃ i : Nat, vi = .int .i64 i ∧ i ≤ na ∧ Hid (∃ Z, Z5 w na gz gi gs gd gm na c_i c_s c_d c_m za Z za za za wr)) (fun vi _ => na - (intOf vi).toNat)
    case atStart => exact ⟨0, rfl, Nat.zero_le _, _, HY.out⟩
    case round =>
      clear HY
      obtain ⟨i, rfl, hi, HR⟩ := hrel
      by_cases hil : i < na
      · have i1 : (i : Int) < (na : Int) := by omega
        obtain ⟨Z, hZ⟩ := HR.out
        have HZ := hide hZ
        have c1 := hZ.rz.cell i (by rw [hZ.lz]; exact hil)
        have f1 := hZ.rz.frozen i
        generalize Z[i]! = zi at c1
        clear hZ HR
        go_wp2
        go_roundw
        case rel => exact ⟨i + 1, by go_num, by omega, _, HZ.out.setZ (by have := HO.out; omega) (by have := HO.out; omega) (by have := HO.out; omega) (by have := HO.out; omega) i 7⟩
        case measure => simp [intOf]; omega
      · have i1 : ¬ (i : Int) < (na : Int) := by omega
        obtain ⟨Z, hZ⟩ := HR.out
        have HY0 := hide hZ
        clear hZ HR
        go_wp2_with (first
        | (go_at_call 20; refine (same_any HY2.out.rm.ints (R0_a.out.later HY2.out.below) HL_a.out HL_a.out (by omega) (by omega)).mono ?_; rintro e y3 ⟨rfl, k2⟩; have HY3 := hide (HY2.out.later k2); clear k2)
        | (go_at_call 20; refine (same_any HY1.out.rd.ints (R0_a.out.later HY1.out.below) HL_a.out HL_a.out (by omega) (by omega)).mono ?_; rintro e y2 ⟨rfl, k2⟩; have HY2 := hide (HY1.out.later k2); clear k2)
        | (go_at_call 20; refine (same_any HY0.out.rs.ints (R0_a.out.later HY0.out.below) HL_a.out HL_a.out (by omega) (by omega)).mono ?_; rintro e y1 ⟨rfl, k2⟩; have HY1 := hide (HY0.out.later k2); clear k2))
        go_loopw [99] (fun vi wr => ∃ i : Nat, vi = .int .i64 i ∧ i ≤ na ∧ Hid (∃ S D M, Z5 w na gz gi gs gd gm na c_i c_s c_d c_m za Z S D M wr)) (fun vi _ => na - (intOf vi).toNat)
        case atStart => exact ⟨0, rfl, Nat.zero_le _, _, _, _, HY3.out⟩
        case round =>
          clear HY0 HY1 HY2 HY3
          obtain ⟨j, rfl, hj, HR⟩ := hrel
          obtain ⟨S, D, M, hZ⟩ := HR.out
          have HZ := hide hZ
          clear hZ HR
          by_cases hjl : j < na
          · have j1 : (j : Int) < (na : Int) := by omega
            have h1 := HZ.out
            have h2 := h1.setS (by have := HO.out; omega) (by have := HO.out; omega) (by have := HO.out; omega) (by have := HO.out; omega) j (-1)
            have h3 := h2.setD (by have := HO.out; omega) (by have := HO.out; omega) (by have := HO.out; omega) (by have := HO.out; omega) j (-2)
            have h4 := h3.setM (by have := HO.out; omega) (by have := HO.out; omega) (by have := HO.out; omega) (by have := HO.out; omega) j (-3)
            have H4 := hide h4
            have c1 := h1.rs.cell j (by rw [h1.ls]; exact hjl)
            have f1 := h1.rs.frozen j
            have c2 := h2.rd.cell j (by rw [h2.ld]; exact hjl)
            have f2 := h2.rd.frozen j
            have c3 := h3.rm.cell j (by rw [h3.lm]; exact hjl)
            have f3 := h3.rm.frozen j
            clear h1 h2 h3 h4
            generalize S[j]! = sj at c1
            generalize D[j]! = dj at c2
            generalize M[j]! = mj at c3
            go_wp2
            go_roundw
            case rel => exact ⟨j + 1, by go_num, by omega, _, _, _, H4.out⟩
            case measure => simp [intOf]; omega
          · have j1 : ¬ (j : Int) < (na : Int) := by omega
            have HS1 := hide ((same_any ((HZ.out.later (Below.refl _ _).drew).ri.ints) (R0_a.out.later (HZ.out.later (Below.refl _ _).drew).below) HL_a.out HL_a.out (by omega) (by omega) (ca := c_i) (cb := ca) (w := wr.drew)).mono (fun e w' h => And.intro h.1 (below_on (HZ.out.later (Below.refl _ _).drew).below h.2)))
            have hmk := fun w' => made_ints na (by omega) w'
            go_wp2
            go_region_with (first | (go_at_call 15; refine (zero_in _ _ hk3).mono ?_; rintro e w15 ⟨rfl, hw⟩; rw [hw]; clear hw) | (go_at_call 20; refine ((zz_same _ hk3 w14).1).mono ?_; rintro e w16 ⟨rfl, k2⟩; have H6 := hide (below_on H4.out k2); clear k2) | (go_at_call 20; refine ((zz_same _ hk3 w14).2).mono ?_; rintro e w16 ⟨rfl, k2⟩; have H6 := hide (below_on H4.out k2); clear k2) | (go_at_call 20; refine HS1.out.mono ?_; rintro e w14 ⟨rfl, k2⟩; have H4 := hide k2; clear k2 HS1))
            all_goals
              go_wp2
              go_ret
              exact ⟨rfl, H6.out⟩
end Go.Proofs.Ytehbdnnehhknmaa
