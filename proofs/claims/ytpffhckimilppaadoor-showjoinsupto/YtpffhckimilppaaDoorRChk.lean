/-
  What the document's Check does.
-/
import Derived.Test.YtpffhckimilppaaDoorRPlainO
import Derived.Test.YtpffhckimilppaaDoorChk
namespace Go.Proofs.YtpffhckimilppaaDoor
open Go.RowKit
set_option maxRecDepth 100000

theorem Cells.other {w : World} {g g2 n k : Nat} {e : TypeId} {f : Nat → Value} (h : Cells w g n e f) (v : Value) (hne : g ≠ g2) : Cells (w.setCell ⟨g2, k, none⟩ v) g n e f := by
  obtain ⟨cs, h1, h2, h3⟩ := h.row
  exact ⟨cs, (heap_setCell_other w ⟨g2, k, none⟩ g v hne).trans h1, h2, h3⟩
theorem Cells.alloc {w : World} {g n : Nat} {e : TypeId} {f : Nat → Value} (h : Cells w g n e f) (o : Obj) : Cells (w.alloc o) g n e f := h.later ((Below.refl w.heap.size w).alloc (Nat.le_refl _) o) h.lt
/-- How often each place is a kid. -/
def cntV (L : List Int) : Nat → Value := fun j => .int .i64 (L.count (j : Int))
theorem cntV_set (L : List Int) (n j : Nat) : (if j = n then Value.int .i64 ((L.count (n : Int) : Int) + 1) else cntV L j) = cntV (L ++ [(n : Int)]) j := by
  unfold cntV
  by_cases e : j = n
  · subst e; simp
  · rw [if_neg e, List.count_append]
    have : ([(n : Int)] : List Int).count (j : Int) = 0 := List.count_eq_zero.2 (by simp; omega)
    rw [this]; simp
/-- The kids of the first values. -/
def flatK (T : List VI) (i : Nat) : List Int := ((T.take i).map VI.kids).flatten
theorem flatK_next {T : List VI} {i : Nat} {x : VI} (h : T[i]? = some x) : flatK T (i + 1) = flatK T i ++ x.kids := by
  unfold flatK; rw [List.take_add_one, h]; simp
theorem flatK_len {T : List VI} {b : Nat} (h : ∀ x ∈ T, x.kids.length ≤ b) : ∀ i, (flatK T i).length ≤ i * b
  | 0 => by simp [flatK]
  | i + 1 => by
    have ih := flatK_len h i
    rcases hx : T[i]? with _ | x
    · have : flatK T (i + 1) = flatK T i := by unfold flatK; rw [List.take_add_one, hx]; simp
      rw [this]; exact Nat.le_trans ih (Nat.mul_le_mul_right _ (by omega))
    · rw [flatK_next hx, List.length_append, Nat.succ_mul]
      have := h x (List.mem_of_getElem? hx)
      omega
/-- What stands behind the first i values. -/
structure Good (T : List VI) (i : Nat) : Prop where
  plain : ∀ x ∈ T.take i, plainB x = true
  ahead : ∀ (j : Nat) x, j < i → T[j]? = some x → ∀ k ∈ x.kids, 0 ≤ k ∧ k < (j : Int)
theorem inR_of : ∀ (T : List VI) (i0 : Nat), (∀ (j : Nat) x, T[j]? = some x → ∀ k ∈ x.kids, 0 ≤ k ∧ k < ((i0 + j : Nat) : Int)) → InR i0 (T.map VI.kids)
  | [], _, _ => trivial
  | y :: r, i0, h => ⟨fun k hk => by have := h 0 y rfl k hk; simpa using this, inR_of r (i0 + 1) fun j x hx k hk => by
      have := h (j + 1) x (by simpa using hx) k hk
      rw [show i0 + (j + 1) = i0 + 1 + j by omega] at this
      exact this⟩
theorem check_bad {T : List VI} (h0 : T.length ≠ 0) (h1 : ¬ 8192 < T.length) (h : ¬ (joinedB (T.map VI.kids) = true ∧ T.all plainB = true)) : checkE T = 29 := by
  unfold checkE; rw [if_neg h0, if_neg h1, if_neg h]
theorem check_plain {T : List VI} {i : Nat} {x : VI} (h0 : T.length ≠ 0) (h1 : ¬ 8192 < T.length) (hx : T[i]? = some x) (hp : plainB x = false) : checkE T = 29 := check_bad h0 h1 fun h => by
  have := h.2
  rw [List.all_eq_true] at this
  rw [this x (List.mem_of_getElem? hx)] at hp; cases hp
theorem ne_map {T : List VI} (h0 : T.length ≠ 0) : T.map VI.kids ≠ [] := by intro e; apply h0; simpa using congrArg List.length e
theorem check_kid {T : List VI} {i : Nat} {x : VI} {y : Int} (h0 : T.length ≠ 0) (h1 : ¬ 8192 < T.length) (hx : T[i]? = some x) (hy : y ∈ x.kids) (hb : y < 0 ∨ (i : Int) ≤ y) : checkE T = 29 := check_bad h0 h1 fun h => by
  have := inR_at T 0 ((joined_iff (ne_map h0)).1 h.1).1 i x hx y hy
  simp at this; omega
theorem check_count {T : List VI} {i : Nat} (h0 : T.length ≠ 0) (h1 : ¬ 8192 < T.length) (hi : i + 1 < T.length) (hc : (flatK T T.length).count (i : Int) ≠ 1) : checkE T = 29 := check_bad h0 h1 fun h => by
  have := ((joined_iff (ne_map h0)).1 h.1).2 i (by simpa using hi)
  apply hc
  rw [← this]; unfold flatK; rw [List.take_length]
theorem check_good {T : List VI} (h0 : T.length ≠ 0) (h1 : ¬ 8192 < T.length) (hg : Good T T.length) (hc : ∀ i : Nat, i + 1 < T.length → (flatK T T.length).count (i : Int) = 1) : checkE T = if 16 < (dpT T).getD (T.length - 1) 0 then 26 else 0 := by
  unfold checkE
  rw [if_neg h0, if_neg h1, if_pos]
  refine ⟨(joined_iff (ne_map h0)).2 ⟨inR_of T 0 fun j x hx k hk => ?_, fun i hi => ?_⟩, ?_⟩
  · have := hg.ahead j x (List.getElem?_eq_some_iff.1 hx).1 hx k hk
    simpa using this
  · have := hc i (by simpa using hi)
    unfold flatK at this; rwa [List.take_length] at this
  · rw [List.all_eq_true]; intro x hx
    exact hg.plain x (by rw [List.take_length]; exact hx)
/-- The depth, as the document reckons it. -/
theorem depth_doc {x : VI} {ds : List Int} (hp : plainB x = true) : dpV1 ds x = if 5 ≤ x.kind then dpK ds x.kids + 1 else dpK ds x.kids := by
  unfold plainB at hp
  rw [Bool.and_eq_true] at hp
  obtain ⟨hs, hk⟩ := hp
  have h6 : 1 ≤ x.kind ∧ x.kind ≤ 6 := by
    split at hk
    · omega
    · split at hk
      · omega
      · split at hk
        · omega
        · split at hk
          · omega
          · cases hk
  unfold dpV1
  by_cases h5 : 5 ≤ x.kind
  · rw [if_pos (by omega), if_pos h5]
  · rw [if_neg (by omega), if_neg h5]
    unfold spareB at hs
    simp only [Bool.and_eq_true, Bool.or_eq_true, beq_iff_eq] at hs
    have : x.kids.length = 0 := by rcases hs.2 with h | h <;> omega
    rw [List.eq_nil_of_length_eq_zero this]; rfl
set_option maxHeartbeats 6400000 in
theorem rcheck_any {T : List VI} {v : Value} {w : World} (hT : TreeAt w v T) (hz : ∀ x ∈ T, SzV x) (hkz : ∀ x ∈ T, x.kids.length ≤ 17592186044416) :
    Calls Tryd.prog 13 #[v] w fun e w' => e = .returned (.int .i64 (checkE T)) ∧ Below w.heap.size w w' := by
  have hlm : T.length ≤ 9223372036854775807 := by obtain ⟨_, _, _, h, _⟩ := hT; exact h
  obtain ⟨a, ca, rfl, hl, ha⟩ := hT
  have HA : Hid (∀ i x, T[i]? = some x → ∃ g o nv kv, a = some ⟨g, o, none⟩ ∧ VAt w x nv kv ∧ ∀ j u, (aggI x nv kv)[j]? = some u → w.cell? ⟨g, o + i * 6 + j, none⟩ = some u) := ha
  have HZ := hide hz
  have HB0 := hide (Below.refl w.heap.size w)
  have HFL := hide (flatK_len hkz)
  clear ha hz hkz hl
  by_cases h0 : T.length = 0
  · have HF : Hid (checkE T = 29) := by show _ = _; unfold checkE; rw [if_pos h0]
    rw [h0]
    go_enter Tryd.func13, Tryd.ntmps13
    go_wp2
    go_ret
    exact ⟨by rw [HF.out]; rfl, HB0.out⟩
  have z0 : ((T.length : Int) == 0) = false := beq_eq_false_iff_ne.2 (by omega)
  have z00 : ¬ (T.length : Int) = 0 := by omega
  by_cases h1 : 8192 < T.length
  · have HF : Hid (checkE T = 27) := by show _ = _; unfold checkE; rw [if_neg h0, if_pos h1]
    have z1 : (8192 : Int) < (T.length : Int) := by omega
    go_enter Tryd.func13, Tryd.ntmps13
    go_wp2
    go_ret
    exact ⟨by rw [HF.out]; rfl, HB0.out⟩
  have z1 : ¬ (8192 : Int) < (T.length : Int) := by omega
  have r1 := made_ints T.length (by omega) w
  have hc0 : Cells (w.alloc (.cells (Array.replicate T.length (.int .i64 0)) 3)) w.heap.size T.length 3 (fun _ => .int .i64 0) := cells_made _ _ _ _
  have hb0 : Below w.heap.size w (w.alloc (.cells (Array.replicate T.length (.int .i64 0)) 3)) := (Below.refl w.heap.size w).alloc (Nat.le_refl _) _
  have hs1 : (w.alloc (.cells (Array.replicate T.length (.int .i64 0)) 3)).heap.size = w.heap.size + 1 := by simp
  generalize w.alloc (.cells (Array.replicate T.length (.int .i64 0)) 3) = w1 at r1 hc0 hb0 hs1
  have r2 := made_ints T.length (by omega) w1
  have hc1 : Cells (w1.alloc (.cells (Array.replicate T.length (.int .i64 0)) 3)) w1.heap.size T.length 3 (fun _ => .int .i64 0) := cells_made _ _ _ _
  have hc0' := hc0.alloc (.cells (Array.replicate T.length (.int .i64 0)) 3)
  have hb1 := hb0.alloc hb0.size (.cells (Array.replicate T.length (.int .i64 0)) 3)
  generalize w1.alloc (.cells (Array.replicate T.length (.int .i64 0)) 3) = w2 at r2 hc0' hb1 hc1
  rw [hs1] at r2 hc1
  obtain ⟨U, hU⟩ : ∃ U, w.heap.size = U := ⟨_, rfl⟩
  have HU : Hid (w.heap.size = U) := hU
  rw [hU] at r1 r2 hc0' hc1
  have HC0 := hide hc0'
  have HC1 := hide hc1
  have HB1 := hide hb1
  clear hc0 hb0 hc0' hb1 hc1 hs1 hU
  have uD : ¬ U = U + 1 := by omega
  have uD2 : ¬ U + 1 = U := by omega
  go_enter Tryd.func13, Tryd.ntmps13
  go_wp2
  go_loopw [5] (fun vi wr => ∃ i : Nat, vi = .int .i64 i ∧ i ≤ T.length ∧ Hid (Good T i) ∧ Hid (Cells wr U T.length 3 (cntV (flatK T i))) ∧ Hid (Cells wr (U + 1) T.length 3 (dpV (dpT (T.take i)))) ∧ Hid (Below w.heap.size w wr)) (fun vi _ => T.length - (intOf vi).toNat)
  case atStart => exact ⟨0, rfl, Nat.zero_le _, ⟨fun x h => by simp at h, fun j x h => absurd h (Nat.not_lt_zero _)⟩, HC0.out.eq (fun j _ => by simp [cntV, flatK]), HC1.out.eq (fun j _ => by simp [dpV, dpT]), HB1.out⟩
  case round =>
    clear HC0 HC1 HB1 r1 r2
    obtain ⟨i, rfl, hi, HG, HCU, HCD, HB⟩ := hrel
    by_cases hil : i < T.length
    · have i1 : (i : Int) < (T.length : Int) := by omega
      obtain ⟨x, hx⟩ : ∃ x, T[i]? = some x := ⟨_, List.getElem?_eq_getElem hil⟩
      obtain ⟨g, o, nv, kv, rfl, hva, hc⟩ := HA.out i x hx
      have hva2 := hva
      obtain ⟨⟨na, nc, rfl, hnl, _⟩, ⟨ka, kc, rfl, hkl, hkk⟩⟩ := hva
      rw [List.length_map, List.length_map] at hva2
      have hkl2 : x.kids.length ≤ 9223372036854775807 := by simpa using hkl
      have HSIX : Hid (∀ w', Below w.heap.size w w' → w'.cell? ⟨g, o + i * 6, none⟩ = some (.int .i64 x.kind) ∧ w'.cell? ⟨g, o + i * 6 + 5, none⟩ = some (.slice ka x.kids.length kc)) := fun w' hb' => by
        obtain ⟨c0, c1, c2, c3, c4, c5⟩ := six_cells (w := w') (o := o + i * 6) (fun j u hj => (hb'.cell (block_lt_of_cell (hc j u hj))).trans (hc j u hj))
        rw [List.length_map] at c5
        exact ⟨c0, c5⟩
      obtain ⟨c0, c1, c2, c3, c4, c5⟩ := six_cells (w := wr) (o := o + i * 6) (fun j u hj => (HB.out.cell (block_lt_of_cell (hc j u hj))).trans (hc j u hj))
      rw [List.length_map] at c4 c5
      have HPV := hide (rplain_any (x := x) (w := wr) (HZ.out x (List.mem_of_getElem? hx)) (hva2.later HB.out))
      simp only [aggI] at HPV
      have HTK : Hid (T.take (i + 1) = T.take i ++ [x]) := by show _ = _; rw [List.take_add_one, hx]; rfl
      have HKK := hide hkk
      have HX := hide hx
      clear hc hva2 hnl hkl hkk hx
      cases hp : plainB x
      · have HF := hide (check_plain h0 h1 HX.out hp)
        have HP2 : Hid (plainB x = false) := hp
        clear hp
        go_wp2_with (first
          | (go_at_call 25; refine HPV.out.mono ?_; rintro e w3 ⟨rfl, k2⟩; rw [HP2.out]; have H1 := hide (below_on HB.out k2); clear k2))
        go_ret
        exact ⟨by rw [HF.out]; rfl, H1.out⟩
      · have HP2 : Hid (plainB x = true) := hp
        have HDD := hide (depth_doc (ds := dpT (T.take i)) hp)
        have hall := dpT_all (T.take i)
        rw [List.length_take, Nat.min_eq_left hi] at hall
        have HALL := hide hall
        clear hp hall
        go_wp2_with (first
          | (go_at_call 25; refine HPV.out.mono ?_; rintro e w3 ⟨rfl, k2⟩; rw [HP2.out]; have HB3 := hide (below_on HB.out k2); have HCU3 := hide (HCU.out.later k2 HCU.out.lt); have HCD3 := hide (HCD.out.later k2 HCD.out.lt); clear k2))
        clear c0 c1 c2 c3 c4 c5
        go_loopw [6, 7] (fun vm vk wq => ∃ m : Nat, vk = .int .i64 m ∧ vm = .int .i64 (dpK (dpT (T.take i)) (x.kids.take m)) ∧ m ≤ x.kids.length ∧ Hid (∀ y ∈ x.kids.take m, 0 ≤ y ∧ y < (i : Int)) ∧ Hid (Cells wq U T.length 3 (cntV (flatK T i ++ x.kids.take m))) ∧ Hid (Cells wq (U + 1) T.length 3 (dpV (dpT (T.take i)))) ∧ Hid (Below w.heap.size w wq)) (fun _ vk _ => x.kids.length - (intOf vk).toNat)
        case atStart => exact ⟨0, rfl, by rw [List.take_zero]; rfl, Nat.zero_le _, fun y h => by simp at h, by rw [List.take_zero, List.append_nil]; exact HCU3.out, HCD3.out, HB3.out⟩
        case round =>
          clear HB3 HCU3 HCD3
          obtain ⟨m, rfl, rfl, hm, HIN, HU3, HD3, HB3⟩ := hrel
          obtain ⟨c0, c5⟩ := HSIX.out _ HB3.out
          obtain ⟨c, hcE⟩ : ∃ c, dpK (dpT (T.take i)) (x.kids.take m) = c := ⟨_, rfl⟩
          have hcB : 0 ≤ c ∧ c ≤ (i : Int) := by rw [← hcE]; exact dpK_le HALL.out.2 _ 0 (by omega)
          obtain ⟨hcb1, hcb2⟩ := hcB
          rw [hcE]
          by_cases hlm : m < x.kids.length
          · have m1 : (m : Int) < (x.kids.length : Int) := by omega
            obtain ⟨y, hy⟩ : ∃ y, x.kids[m]? = some y := ⟨_, List.getElem?_eq_getElem hlm⟩
            obtain ⟨gk, rfl, hck⟩ := HKK.out m (intv y) (by rw [List.getElem?_map, hy]; rfl)
            have e1 := (HB3.out.cell (block_lt_of_cell hck)).trans hck
            unfold intv at e1
            clear hck
            by_cases y0 : y < 0
            · have HF := hide (check_kid h0 h1 HX.out (List.mem_of_getElem? hy) (.inl y0))
              clear hy
              go_wp2
              go_ret
              exact ⟨by rw [HF.out]; rfl, HB3.out⟩
            by_cases y1 : (i : Int) ≤ y
            · have HF := hide (check_kid h0 h1 HX.out (List.mem_of_getElem? hy) (.inr y1))
              clear hy
              go_wp2
              go_ret
              exact ⟨by rw [HF.out]; rfl, HB3.out⟩
            obtain ⟨n, rfl⟩ : ∃ n : Nat, y = (n : Int) := ⟨y.toNat, by omega⟩
            have hnT : n < T.length := by omega
            have n1 : (n : Int) < (T.length : Int) := by omega
            have hu := HU3.out.cell n hnT
            have hf := HU3.out.frozen n
            have hd := HD3.out.cell n hnT
            unfold cntV at hu
            unfold dpV at hd
            have hlen : (flatK T i ++ x.kids.take m).count (n : Int) ≤ 9000000000000000000 := by
              have h2 := HFL.out (i + 1)
              rw [flatK_next HX.out, List.length_append] at h2
              have h3 := List.count_le_length (a := (n : Int)) (l := flatK T i ++ x.kids.take m)
              rw [List.length_append, List.length_take] at h3
              have h4 : (i + 1) * 17592186044416 ≤ 8192 * 17592186044416 := Nat.mul_le_mul_right _ (by omega)
              omega
            have htk : x.kids.take (m + 1) = x.kids.take m ++ [(n : Int)] := by rw [List.take_add_one, hy]; rfl
            have HIN2 : Hid (∀ z ∈ x.kids.take (m + 1), 0 ≤ z ∧ z < (i : Int)) := fun z hz => by
              rw [htk] at hz
              rcases List.mem_append.1 hz with h | h
              · exact HIN.out z h
              · simp at h; omega
            have HNX : Hid (dpK (dpT (T.take i)) (x.kids.take (m + 1)) = max c ((dpT (T.take i)).getD n 0)) := by
              show _ = _
              rw [htk, dpK_next, hcE]; rfl
            have HUN : Hid (∀ wq' : World, Cells wq' U T.length 3 (fun j => if j = n then .int .i64 (((flatK T i ++ x.kids.take m).count (n : Int) : Int) + 1) else cntV (flatK T i ++ x.kids.take m) j) → Cells wq' U T.length 3 (cntV (flatK T i ++ x.kids.take (m + 1)))) := fun wq' h => by
              rw [htk, ← List.append_assoc]; exact h.eq fun j _ => cntV_set _ n j
            generalize hcn : (flatK T i ++ x.kids.take m).count (n : Int) = q at hu hlen HUN
            generalize (dpT (T.take i)).getD n 0 = d at hd HNX
            have HUS := hide (HUN.out _ (HU3.out.set n (.int .i64 ((q : Int) + 1))))
            have HDS := hide (HD3.out.other (g2 := U) (k := n) (.int .i64 ((q : Int) + 1)) uD2)
            have HBS := hide (HB3.out.setCell (p := ⟨U, n, none⟩) (by rw [← HU.out]; exact Nat.le_refl _) (.int .i64 ((q : Int) + 1)))
            clear hy htk hcn hcE
            by_cases hdc : c < d
            · have HM : Hid (max c d = d) := by show _ = _; omega
              go_wp2
              go_roundw
              case rel => exact ⟨m + 1, by go_num, by rw [HNX.out, HM.out], by omega, HIN2.out, HUS.out, HDS.out, HBS.out⟩
              case measure => simp [intOf]; omega
            · have HM : Hid (max c d = c) := by show _ = _; omega
              go_wp2
              go_roundw
              case rel => exact ⟨m + 1, by go_num, by rw [HNX.out, HM.out], by omega, HIN2.out, HUS.out, HDS.out, HBS.out⟩
              case measure => simp [intOf]; omega
          · have m1 : ¬ (m : Int) < (x.kids.length : Int) := by omega
            obtain rfl : m = x.kids.length := by omega
            rw [List.take_length] at hcE HIN HU3
            have HG2 : Hid (Good T (i + 1)) := ⟨fun z hz => by
              rw [HTK.out] at hz
              rcases List.mem_append.1 hz with h | h
              · exact HG.out.plain z h
              · simp at h; rw [h]; exact HP2.out, fun j z hj hz k hk => by
              by_cases e : j = i
              · subst e
                rw [HX.out] at hz; cases hz
                exact HIN.out k hk
              · exact HG.out.ahead j z (by omega) hz k hk⟩
            have HUF : Hid (Cells wr U T.length 3 (cntV (flatK T (i + 1)))) := by rw [flatK_next HX.out]; exact HU3.out
            have hf := HD3.out.frozen i
            have hq := HD3.out.cell i hil
            have HST : Hid (∀ e, dpV1 (dpT (T.take i)) x = e → Cells (wr.setCell ⟨U + 1, i, none⟩ (.int .i64 e)) (U + 1) T.length 3 (dpV (dpT (T.take (i + 1))))) := fun e he => by
              refine ((HD3.out.eq (fun j _ => dpV_pad j)).set i (.int .i64 e)).eq fun j _ => ?_
              rw [HTK.out, dpT_next, he]
              exact dpV_set HALL.out.1 0 e j
            by_cases h5 : 5 ≤ x.kind
            · have HE := hide (HST.out (c + 1) (by rw [HDD.out, if_pos h5, hcE]))
              have HUE := hide (HUF.out.other (g2 := U + 1) (k := i) (.int .i64 (c + 1)) uD)
              have HBE := hide (HB3.out.setCell (p := ⟨U + 1, i, none⟩) (by rw [← HU.out]; exact Nat.le_succ _) (.int .i64 (c + 1)))
              clear hcE
              go_wp2
              go_roundw
              case rel => exact ⟨i + 1, by go_num, by omega, HG2.out, HUE.out, HE.out, HBE.out⟩
              case measure => simp [intOf]; omega
            · have HE := hide (HST.out c (by rw [HDD.out, if_neg h5, hcE]))
              have HUE := hide (HUF.out.other (g2 := U + 1) (k := i) (.int .i64 c) uD)
              have HBE := hide (HB3.out.setCell (p := ⟨U + 1, i, none⟩) (by rw [← HU.out]; exact Nat.le_succ _) (.int .i64 c))
              clear hcE
              go_wp2
              go_roundw
              case rel => exact ⟨i + 1, by go_num, by omega, HG2.out, HUE.out, HE.out, HBE.out⟩
              case measure => simp [intOf]; omega
    · have i1 : ¬ (i : Int) < (T.length : Int) := by omega
      obtain rfl : i = T.length := by omega
      rw [List.take_length] at HCD
      go_wp2
      go_loopw [9] (fun vi wq => ∃ j : Nat, vi = .int .i64 j ∧ j + 1 ≤ T.length ∧ Hid (∀ k : Nat, k < j → (flatK T T.length).count (k : Int) = 1) ∧ Hid (wq = wr)) (fun vi _ => T.length - (intOf vi).toNat)
      case atStart => exact ⟨0, rfl, by omega, fun k h => absurd h (Nat.not_lt_zero _), rfl⟩
      case round =>
        obtain ⟨j, rfl, hj, HJ, HW⟩ := hrel
        have hw := HW.out
        subst hw
        clear HW
        by_cases hjl : j + 1 < T.length
        · have j1 : (j : Int) < (T.length : Int) - 1 := by omega
          have j2 : (j : Int) < (T.length : Int) := by omega
          have hu := HCU.out.cell j (by omega)
          unfold cntV at hu
          by_cases hc1 : (flatK T T.length).count (j : Int) = 1
          · have HJ2 : Hid (∀ k : Nat, k < j + 1 → (flatK T T.length).count (k : Int) = 1) := fun k hk => by
              by_cases e : k = j
              · rw [e]; exact hc1
              · exact HJ.out k (by omega)
            rw [hc1] at hu
            clear hc1
            go_wp2
            go_roundw
            case rel => exact ⟨j + 1, by go_num, by omega, HJ2.out, hide trivial⟩
            case measure => simp [intOf]; omega
          · have HF := hide (check_count h0 h1 hjl hc1)
            generalize (flatK T T.length).count (j : Int) = q at hu hc1
            have y1 : ((q : Int) != 1) = true := by simp; omega
            go_wp2
            go_ret
            exact ⟨by rw [HF.out]; rfl, HB.out⟩
        · have j1 : ¬ (j : Int) < (T.length : Int) - 1 := by omega
          have HF := hide (check_good h0 h1 HG.out (fun k hk => HJ.out k (by omega)))
          have hcl := HCD.out.cell (T.length - 1) (by omega)
          unfold dpV at hcl
          have i1 : ((T.length - 1 : Nat) : Int) = (T.length : Int) - 1 := by omega
          have i2 : ((T.length : Int) - 1).toNat = T.length - 1 := by omega
          have i3 : (0 : Int) ≤ (T.length : Int) - 1 := by omega
          have i4 : (T.length : Int) - 1 < (T.length : Int) := by omega
          have i5 : T.length - 1 < T.length := by omega
          have i6 : ¬ (T.length : Int) - 1 < 0 := by omega
          generalize (dpT T).getD (T.length - 1) 0 = d at hcl HF
          by_cases hd : 16 < d
          · rw [if_pos hd] at HF
            go_wp2
            go_ret
            exact ⟨by rw [HF.out]; rfl, HB.out⟩
          · rw [if_neg hd] at HF
            go_wp2
            go_ret
            exact ⟨by rw [HF.out]; rfl, HB.out⟩
end Go.Proofs.YtpffhckimilppaaDoor
