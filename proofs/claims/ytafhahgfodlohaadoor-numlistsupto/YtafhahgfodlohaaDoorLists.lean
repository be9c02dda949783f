/-
  NumLists is proved where the two lists hold together at most 1048576 numbers (spare places counted): the law returns true (the sum of a list that goes on is the sum of its beginning with the rest added one by one), and the lists read as they did; the conditions besides are the card's own: the library's listed tables hold what the program's text lays.
-/
import Derived.Test.YtafhahgfodlohaaDoorRowsOf
import Derived.Test.YtafhahgfodlohaaDoorCards
import Derived.Test.YtafhahgfodlohaaDoorTie
import Derived.SevenTiedAt
namespace Go.Proofs.YtafhahgfodlohaaDoor
open Go.ChangeShapes Go.WideShapes Go.ChangeAt Go.WideMaps Go.WideElems Go.RowKit
set_option maxRecDepth 100000

/-- An append of a slice that came in onto a row that the call owns. -/
theorem app_row {w : World} {ops : Array Oper} {rest : List Oper} {o : Oper} {a : Act} {Q : Exit → Act → World → Prop} (s x : Operand) (i0 : TypeInfo) (hi : Tryd.prog.info? 3 = some i0) (hz0 : i0.zero = some (.int .i64 0)) (hz1 : i0.size = 1) (hz2 : i0.bytes = 8)
    (hgd : o.guard = none) (ho : o.op = .call { callee := .builtin .append, args := #[s, x], argTypes := #[30, 30] }) (base : Nat) (v : Value) (n : Nat) (ys : List Int) (hs : a.eval s = v) (hown : w.ownsRow base 3 1 v n (ys.map (Value.int .i64)))
    (ad : Option Addr) (m c : Nat) (zs : List Int) (hx : a.eval x = .slice ad m c) (hr : IsRow w ad m c zs) (hbytes : (n + m) * 8 ≤ 140737488351232) (hbase : base ≤ w.heap.size)
    (h : ∀ v' w', w'.ownsRow base 3 1 v' (n + m) ((ys ++ zs).map (Value.int .i64)) → w.grownBy w' v.ownBlock → wpList Tryd.prog ops Q rest (a.put o.dst v') w') : wpList Tryd.prog ops Q (o :: rest) a w := by
  rcases hr with ⟨rfl, rfl, rfl, rfl⟩ | ⟨y, rfl, hm, hl, hc⟩
  · refine wpList_append_own_none hgd s x 30 ho base 3 i0 1 Tryd.underlying30 hi v n _ hs hown hx ?_
    refine h v w ?_ ⟨rfl, rfl, rfl, Nat.le_refl _, fun _ _ _ => rfl⟩
    rw [List.append_nil]; exact hown
  · refine wpList_append_own _ hgd s x 30 ho base 3 i0 (.int .i64 0) 1 8 Tryd.underlying30 hi hz0 hz1 hz2 rfl (by decide) v n _ hs hown y m c (zs.map (Value.int .i64)) hx (by simp [hl]) (row_news hl hc) (ints_oneCell _ _) (by unfold maxLen; omega) (by omega) hbase ?_
    intro v' w' h1 h2 _
    refine h v' w' ?_ h2
    rw [List.map_append]; exact h1

theorem below_own {w w1 w2 : World} {n : Nat} {v : Value} {xs : List Value} (hb : Below w.heap.size w w1) (hown : w1.ownsRow w.heap.size 3 1 v n xs) (hg : w1.grownBy w2 v.ownBlock) : Below w.heap.size w w2 :=
  hb.grown hg hb.size fun k hk => (hown.lt k hk).1
theorem made_own {w w1 : World} (hb : Below w.heap.size w w1) : (w1.alloc (.cells #[] 3)).ownsRow w.heap.size 3 1 (.slice (some ⟨w1.heap.size, 0, none⟩) 0 0) 0 (([] : List Int).map (Value.int .i64)) :=
  World.ownsRow_made w1 #[] 0 hb.size (by decide) rfl
theorem base_alloc {w w1 : World} (hb : Below w.heap.size w w1) (o : Obj) : w.heap.size ≤ (w1.alloc o).heap.size := by
  have := hb.size; simp; omega

theorem sum_more (za zb : List Int) (k : Nat) (v x z : Int) (hk : k < zb.length) (hz : zb.getD k 0 = z) (h : sumL (za ++ zb.take k) = (v, x)) (hx : x = 0) : sumL (za ++ zb.take (k + 1)) = (addV v z, addE v z) := by
  rw [List.take_succ_eq_append_getElem hk, ← List.append_assoc, sumL_snoc, h, hx]
  have e : zb[k] = z := by rw [← hz]; simp [List.getD, hk]
  rw [e]; rfl
theorem sum_stop (za zb : List Int) (k : Nat) (v x : Int) (h : sumL (za ++ zb.take k) = (v, x)) (hk : k = zb.length ∨ ¬ x = 0) : sumL (za ++ zb) = (v, x) := by
  rcases hk with rfl | hx
  · rwa [List.take_length] at h
  · have e : za ++ zb = (za ++ zb.take k) ++ zb.drop k := by rw [List.append_assoc, List.take_append_drop]
    have h2 : sumL (za ++ zb) = (zb.drop k).foldl sumStep (sumL (za ++ zb.take k)) := by
      conv => lhs; rw [e]
      unfold sumL; rw [List.foldl_append]
    rw [h2, h, foldl_stuck _ _ hx]

set_option maxHeartbeats 1600000 in
theorem lists_row (A : Option Addr) (la ca b off lb cb : Nat) (za zb : List Int) (w : World) (ht : Tab w) (hA : IsRow w A la ca za) (hm : lb ≤ maxLen) (hl : zb.length = lb)
    (hc : ∀ k, k < lb → w.cell? ⟨b, off + k, none⟩ = some (.int .i64 (zb.getD k 0))) (h47 : (la + lb) * 8 ≤ 140737488351232) :
    Calls Tryd.prog 8 #[.slice A la ca, .slice (some ⟨b, off, none⟩) lb cb] w fun e w' => e = .returned (.bool true) ∧ Below w.heap.size w w' := by
  have HT : Hid (Tab w) := ht
  clear ht
  have HA : Hid (IsRow w A la ca za) := hA
  have HB : Hid (IsRow w (some ⟨b, off, none⟩) lb cb zb) := .inr ⟨_, rfl, hm, hl, fun k hk => by rw [addr_add]; exact hc k hk⟩
  have HC : Hid (∀ k, k < lb → w.cell? ⟨b, off + k, none⟩ = some (.int .i64 (zb.getD k 0))) := hc
  have HL : Hid (zb.length = lb) := hl
  clear hc hl hA
  unfold maxLen at hm
  obtain ⟨v, x, hv⟩ : ∃ v x, Hid (sumL za = (v, x)) := ⟨_, _, rfl⟩
  obtain ⟨t, f, ht⟩ : ∃ t f, Hid (sumL (za ++ zb) = (t, f)) := ⟨_, _, rfl⟩
  obtain ⟨i0, hi, hz0, hz1, hz2⟩ := info_parts info3
  have HI : Hid (Tryd.prog.info? 3 = some i0 ∧ i0.zero = some (.int .i64 0) ∧ i0.size = 1 ∧ i0.bytes = 8) := ⟨hi, hz0, hz1, hz2⟩
  clear hi hz0 hz1 hz2
  go_enter Tryd.func8, Tryd.ntmps8
  go_wp2_with (first | (go_at_call 9; refine (awake_any _ HT.out).mono ?_; rintro e w1 ⟨rfl, hb1⟩) | (at_builtin; refine app_row (.tmp 13) (.tmp 14) i0 HI.out.1 HI.out.2.1 HI.out.2.2.1 HI.out.2.2.2 rfl rfl w.heap.size _ 0 [] rfl (made_own hb1) A la ca za rfl (HA.out.later (hb1.alloc hb1.size _)) (by omega) (base_alloc hb1 _) ?_))
  intro v1 w2 hown1 hg1
  have hb2 := below_own (hb1.alloc hb1.size _) (made_own hb1) hg1
  obtain ⟨a1, c1, rfl, hr1⟩ := own_isrow hown1
  have HR1 : Hid (IsRow w2 a1 la c1 za) := hr1
  clear hown1 hg1 hb1 hr1
  go_wp2_with (first | (go_at_call 16; refine (nsum_is v x _ _ _ za _ HR1.out hv).mono ?_; rintro e w3 ⟨rfl, rfl⟩) | (at_builtin; refine app_row (.tmp 20) (.tmp 21) i0 HI.out.1 HI.out.2.1 HI.out.2.2.1 HI.out.2.2.2 rfl rfl w.heap.size _ 0 [] rfl (made_own hb2) A la ca za rfl (HA.out.later (hb2.alloc hb2.size _)) (by omega) (base_alloc hb2 _) ?_))
  intro v2 w4 hown2 hg2
  have hb4 := below_own (hb2.alloc hb2.size _) (made_own hb2) hg2
  have HO2 : Hid (w4.ownsRow w.heap.size 3 1 v2 la (za.map (Value.int .i64))) := hown2
  clear hown2 hg2 hb2 HR1
  go_wp2_with (first | (at_builtin; refine app_row (.tmp 22) (.tmp 23) i0 HI.out.1 HI.out.2.1 HI.out.2.2.1 HI.out.2.2.2 rfl rfl w.heap.size _ la za rfl HO2.out (some ⟨b, off, none⟩) lb cb zb rfl (HB.out.later hb4) (by omega) hb4.size ?_))
  intro v3 w5 hown3 hg3
  have hb5 := below_own hb4 HO2.out hg3
  try rw [← List.map_append] at hown3
  obtain ⟨a3, c3, rfl, hr3⟩ := own_isrow hown3
  have HR3 : Hid (IsRow w5 a3 (la + lb) c3 (za ++ zb)) := hr3
  have HC5 : Hid (∀ k, k < lb → w5.cell? ⟨b, off + k, none⟩ = some (.int .i64 (zb.getD k 0))) := fun k hk => cell_later hb5 (HC.out k hk)
  have H5 : Hid (Below w.heap.size w w5) := hb5
  clear hown3 hg3 hb4 HO2 hr3 HC hb5 HA HB
  go_wp2_with (go_at_call 16; refine (nsum_is t f _ _ _ (za ++ zb) _ HR3.out ht).mono ?_; rintro e w6 ⟨rfl, rfl⟩)
  clear HR3
  go_loop [5, 6, 9] (fun s e i => ∃ (k : Nat) (v x : Int), k ≤ lb ∧ i = .int .i64 k ∧ s = .int .i64 v ∧ e = .int .i64 x ∧ sumL (za ++ zb.take k) = (v, x)) (fun _ _ i => lb - (intOf i).toNat)
  case atStart => exact ⟨0, v, x, Nat.zero_le _, rfl, rfl, rfl, by rw [List.take_zero, List.append_nil]; exact hv.out⟩
  case round =>
    clear hv
    obtain ⟨k, v, x, hk, rfl, rfl, rfl, hvx⟩ := hrel
    have HV : Hid (sumL (za ++ zb.take k) = (v, x)) := hvx
    clear hvx
    by_cases hlt : k < lb
    · cases hx : (x == 0)
      · have HS : Hid (t = v ∧ f = x) := by
          have h := sum_stop za zb k v x HV.out (.inr (by simpa using hx))
          rw [ht.out] at h
          exact ⟨congrArg Prod.fst h, congrArg Prod.snd h⟩
        obtain ⟨rfl, rfl⟩ := HS.out
        go_wp2
        go_ret
        exact ⟨by simp, H5.out⟩
      · obtain ⟨z, hz⟩ : ∃ z, Hid (zb.getD k 0 = z) := ⟨_, rfl⟩
        have hcell := HC5.out k hlt
        rw [hz.out] at hcell
        have HS : Hid (sumL (za ++ zb.take (k + 1)) = (addV v z, addE v z)) := sum_more za zb k v x z (by rw [HL.out]; exact hlt) hz.out HV.out (by simpa using hx)
        go_wp2_with (go_at_call 10; refine (nadd_any _ _ _).mono ?_; rintro e w7 ⟨rfl, rfl⟩)
        go_round
        case rel => exact ⟨k + 1, addV v z, addE v z, by omega, by go_num, rfl, rfl, HS.out⟩
        case measure => simp [intOf]; omega
    · have HS : Hid (t = v ∧ f = x) := by
        have h := sum_stop za zb k v x HV.out (.inl (by rw [HL.out]; omega))
        rw [ht.out] at h
        exact ⟨congrArg Prod.fst h, congrArg Prod.snd h⟩
      obtain ⟨rfl, rfl⟩ := HS.out
      go_wp2
      go_ret
      exact ⟨by simp, H5.out⟩

set_option maxHeartbeats 1600000 in
theorem lists_zero (A B : Option Addr) (la ca cb : Nat) (za : List Int) (w : World) (ht : Tab w) (hA : IsRow w A la ca za) (hB : IsRow w B 0 cb []) (h47 : (la + 0) * 8 ≤ 140737488351232) :
    Calls Tryd.prog 8 #[.slice A la ca, .slice B 0 cb] w fun e w' => e = .returned (.bool true) ∧ Below w.heap.size w w' := by
  have HT : Hid (Tab w) := ht
  clear ht
  have HA : Hid (IsRow w A la ca za) := hA
  have HB : Hid (IsRow w B 0 cb []) := hB
  clear hA hB
  obtain ⟨v, x, hv⟩ : ∃ v x, Hid (sumL za = (v, x)) := ⟨_, _, rfl⟩
  obtain ⟨i0, hi, hz0, hz1, hz2⟩ := info_parts info3
  have HI : Hid (Tryd.prog.info? 3 = some i0 ∧ i0.zero = some (.int .i64 0) ∧ i0.size = 1 ∧ i0.bytes = 8) := ⟨hi, hz0, hz1, hz2⟩
  clear hi hz0 hz1 hz2
  go_enter Tryd.func8, Tryd.ntmps8
  go_wp2_with (first | (go_at_call 9; refine (awake_any _ HT.out).mono ?_; rintro e w1 ⟨rfl, hb1⟩) | (at_builtin; refine app_row (.tmp 13) (.tmp 14) i0 HI.out.1 HI.out.2.1 HI.out.2.2.1 HI.out.2.2.2 rfl rfl w.heap.size _ 0 [] rfl (made_own hb1) A la ca za rfl (HA.out.later (hb1.alloc hb1.size _)) (by omega) (base_alloc hb1 _) ?_))
  intro v1 w2 hown1 hg1
  have hb2 := below_own (hb1.alloc hb1.size _) (made_own hb1) hg1
  obtain ⟨a1, c1, rfl, hr1⟩ := own_isrow hown1
  have HR1 : Hid (IsRow w2 a1 la c1 za) := hr1
  clear hown1 hg1 hb1 hr1
  go_wp2_with (first | (go_at_call 16; refine (nsum_is v x _ _ _ za _ HR1.out hv).mono ?_; rintro e w3 ⟨rfl, rfl⟩) | (at_builtin; refine app_row (.tmp 20) (.tmp 21) i0 HI.out.1 HI.out.2.1 HI.out.2.2.1 HI.out.2.2.2 rfl rfl w.heap.size _ 0 [] rfl (made_own hb2) A la ca za rfl (HA.out.later (hb2.alloc hb2.size _)) (by omega) (base_alloc hb2 _) ?_))
  intro v2 w4 hown2 hg2
  have hb4 := below_own (hb2.alloc hb2.size _) (made_own hb2) hg2
  have HO2 : Hid (w4.ownsRow w.heap.size 3 1 v2 la (za.map (Value.int .i64))) := hown2
  clear hown2 hg2 hb2 HR1
  go_wp2_with (first | (at_builtin; refine app_row (.tmp 22) (.tmp 23) i0 HI.out.1 HI.out.2.1 HI.out.2.2.1 HI.out.2.2.2 rfl rfl w.heap.size _ la za rfl HO2.out B 0 cb [] rfl (HB.out.later hb4) (by omega) hb4.size ?_))
  intro v3 w5 hown3 hg3
  have hb5 := below_own hb4 HO2.out hg3
  have hown4 : w5.ownsRow w.heap.size 3 1 v3 la (za.map (Value.int .i64)) := by simpa using hown3
  obtain ⟨a3, c3, rfl, hr3⟩ := own_isrow hown4
  have HR3 : Hid (IsRow w5 a3 la c3 za) := hr3
  have H5 : Hid (Below w.heap.size w w5) := hb5
  clear hown3 hown4 hg3 hb4 HO2 hr3 hb5 HA HB
  go_wp2_with (go_at_call 16; refine (nsum_is v x _ _ _ za _ HR3.out hv).mono ?_; rintro e w6 ⟨rfl, rfl⟩)
  clear HR3
  refine wp_loop_rounds 1 ?_
  rw [rounds_succ]
  go_wp2
  go_ret
  exact ⟨by simp, H5.out⟩

theorem lists_any (A B : Option Addr) (la ca lb cb : Nat) (za zb : List Int) (w : World) (ht : Tab w) (hA : IsRow w A la ca za) (hB : IsRow w B lb cb zb) (h47 : (la + lb) * 8 ≤ 140737488351232) :
    Calls Tryd.prog 8 #[.slice A la ca, .slice B lb cb] w fun e w' => e = .returned (.bool true) ∧ Below w.heap.size w w' := by
  by_cases h0 : lb = 0
  · subst h0
    have hz : zb = [] := by
      rcases hB with ⟨_, _, _, h⟩ | ⟨_, _, _, h, _⟩
      · exact h
      · exact List.length_eq_zero_iff.1 h
    subst hz
    exact lists_zero A B la ca cb za w ht hA hB h47
  · rcases hB with ⟨_, h, _⟩ | ⟨y, rfl, hm, hl, hc⟩
    · exact absurd h h0
    · obtain ⟨b, off, rfl, _⟩ := ints_at (w := w) (k := .i64) (a := y) (zs := zb) (fun i hi => hc i (by omega)) (by omega)
      exact lists_row A la ca b off lb cb za zb w ht hA hm hl (fun k hk => by rw [← addr_add]; exact hc k hk) h47

end Go.Proofs.YtafhahgfodlohaaDoor
