/-
  What the statements' Copied does: a tree of its own memory that reads as the one that came in.
-/
import Derived.Test.YtpffhckimilppaaDoorCopyA
import Derived.Test.YtpffhckimilppaaDoorBrow
import Derived.Test.YtpffhckimilppaaDoorApart
import Derived.Deep.RegionLaw
namespace Go.Proofs.YtpffhckimilppaaDoor
open Go.RowKit
set_option maxRecDepth 100000

theorem info9 : (Tryd.prog.info? 9).map (fun i => (i.zero, i.size, i.bytes)) = some (some (.string ⟨#[]⟩), 1, 16) := by kernel_rfl
theorem info42 : (Tryd.prog.info? 42).map (fun i => (i.zero, i.size, i.bytes)) = some (some (.agg #[.int .i64 0, .bool false, .int .i64 0, .string ⟨#[]⟩, .slice none 0 0, .slice none 0 0]), 6, 88) := by kernel_rfl
/-- The cells of a tree, one behind the other. -/
theorem tree_cells {w : World} {a : Option Addr} {c : Nat} {T : List VI} (h : TreeAt w (.slice a T.length c) T) (h0 : T.length ≠ 0) :
    ∃ (ad : Addr) (news : List Value), a = some ad ∧ news.length = T.length * 6 ∧ (∀ u ∈ news, u.oneCell' = true) ∧ (∀ (j : Nat) (u : Value), news[j]? = some u → w.cell? (ad.add j) = some u) ∧
      ∀ (i : Nat) (x : VI), T[i]? = some x → ∃ nv kv, VAt w x nv kv ∧ ∀ (j : Nat) (u : Value), (aggI x nv kv)[j]? = some u → news[i * 6 + j]? = some u := by
  obtain ⟨a', c', e, hl, ha⟩ := h
  injection e with e1 e2 e3
  subst e1
  obtain ⟨x0, hx0⟩ : ∃ x0, T[0]? = some x0 := ⟨_, List.getElem?_eq_getElem (by omega)⟩
  obtain ⟨g, o, _, _, rfl, _⟩ := ha 0 x0 hx0
  have hadd : ∀ j, (⟨g, o, none⟩ : Addr).add j = ⟨g, o + j, none⟩ := fun j => by
    unfold Addr.add
    split
    · rename_i h; subst h; rfl
    · rfl
  have hat : ∀ p, p < T.length * 6 → ∃ u, w.cell? ⟨g, o + p, none⟩ = some u ∧ u.oneCell' = true := fun p hp => by
    obtain ⟨x, hx⟩ : ∃ x, T[p / 6]? = some x := ⟨_, List.getElem?_eq_getElem (by omega)⟩
    obtain ⟨g2, o2, nv, kv, e, hv, hc⟩ := ha (p / 6) x hx
    cases e
    obtain ⟨⟨na, nc, hnv, _⟩, ⟨ka, kc, hkv, _⟩⟩ := hv
    have hj : p % 6 = 0 ∨ p % 6 = 1 ∨ p % 6 = 2 ∨ p % 6 = 3 ∨ p % 6 = 4 ∨ p % 6 = 5 := by omega
    have hp2 : o + p / 6 * 6 + p % 6 = o + p := by omega
    rcases hj with h | h | h | h | h | h
    · have := hc 0 _ rfl; rw [← h, hp2] at this; exact ⟨_, this, rfl⟩
    · have := hc 1 _ rfl; rw [← h, hp2] at this; exact ⟨_, this, rfl⟩
    · have := hc 2 _ rfl; rw [← h, hp2] at this; exact ⟨_, this, rfl⟩
    · have := hc 3 _ rfl; rw [← h, hp2] at this; exact ⟨_, this, rfl⟩
    · have := hc 4 _ rfl; rw [← h, hp2] at this; exact ⟨_, this, by rw [hnv]; rfl⟩
    · have := hc 5 _ rfl; rw [← h, hp2] at this; exact ⟨_, this, by rw [hkv]; rfl⟩
  have hnw : ∀ (j : Nat) (u : Value), ((List.range (T.length * 6)).map fun p => (w.cell? ⟨g, o + p, none⟩).getD (.bool false))[j]? = some u → j < T.length * 6 ∧ w.cell? ⟨g, o + j, none⟩ = some u := fun j u hu => by
    have hj := (List.getElem?_eq_some_iff.1 hu).1
    simp at hj
    obtain ⟨u2, h2, _⟩ := hat j hj
    rw [List.getElem?_map, List.getElem?_range hj] at hu
    simp [h2] at hu
    rw [← hu]; exact ⟨hj, h2⟩
  refine ⟨⟨g, o, none⟩, (List.range (T.length * 6)).map fun p => (w.cell? ⟨g, o + p, none⟩).getD (.bool false), rfl, by simp, fun u hu => ?_, fun j u hu => ?_, fun i x hx => ?_⟩
  · obtain ⟨j, hj, e⟩ := List.getElem_of_mem hu
    obtain ⟨h1, h2⟩ := hnw j u (by rw [List.getElem?_eq_getElem hj, e])
    obtain ⟨u2, h3, h4⟩ := hat j h1
    rw [h2] at h3; cases h3; exact h4
  · rw [hadd]; exact (hnw j u hu).2
  · obtain ⟨g2, o2, nv, kv, e, hv, hc⟩ := ha i x hx
    cases e
    refine ⟨nv, kv, hv, fun j u hu => ?_⟩
    have hi := (List.getElem?_eq_some_iff.1 hx).1
    have hj := agg_lt hu
    have := hc j u hu
    rw [List.getElem?_map, List.getElem?_range (by omega)]
    simp [show o + (i * 6 + j) = o + i * 6 + j by omega, this]
/-- The first copy, of the values alone. -/
theorem out_copy (w : World) (B : Nat) {a : Option Addr} {c : Nat} {T : List VI} (h : TreeAt w (.slice a T.length c) T) (hn : T.length ≤ 100000) (ty : TypeId) :
    ∃ a' c' w', (Builtin.append_ #[23, 23] ty #[.slice (some ⟨B, 0, none⟩) 0 0, .slice a T.length c]).run Tryd.prog w = .ok (.slice a' T.length c') w' ∧ Below w.heap.size w w' ∧ (T.length ≠ 0 → a' = some ⟨w.heap.size, 0, none⟩ ∧ OutT w' w.heap.size T) := by
  obtain ⟨i0, hi0, hy0, hy1, hy2⟩ := info_parts info42
  by_cases h0 : T.length = 0
  · obtain ⟨a', c', w', hr, hb, _⟩ := copy_run w B 23 ty 42 i0 _ Tryd.underlying23 hi0 hy0 a 0 c [] (by simp) (fun h => absurd rfl h) (by omega) (by omega)
    rw [h0]
    exact ⟨a', c', w', hr, hb, fun h => absurd rfl h⟩
  · obtain ⟨ad, news, rfl, hl, h1, hc, hx⟩ := tree_cells h h0
    obtain ⟨a', c', w', hr, hb, hn2⟩ := copy_run w B 23 ty 42 i0 _ Tryd.underlying23 hi0 hy0 (some ad) T.length c news (by rw [hl, hy1]) (fun _ => ⟨ad, rfl, hc⟩) (by omega) (by rw [hy2]; omega)
    refine ⟨a', c', w', hr, hb, fun h => ?_⟩
    obtain ⟨ea, cs, g1, g2, g3⟩ := hn2 h
    rw [hy1] at g2
    refine ⟨ea, cs, g1, g2, fun i x hxi => ?_⟩
    obtain ⟨nv, kv, hv, hj⟩ := hx i x hxi
    exact ⟨nv, kv, (hv.names.apart (Nat.le_refl _)).later hb, (hv.kids.apart (Nat.le_refl _)).later hb, fun j u hu => g3 _ u (hj j u hu)⟩
/-- A copy of names or of kids as one step of a region that draws. -/
theorem step_copyS {ops : Array Oper} {o : Oper} {a : Act} {w : World} {K : Act → World → Prop} {Q : Exit → Act → World → Prop} {E : Prop} (s x : Operand) (B R : Nat) (src : Value) (ns : List (List UInt8))
    (hgd : o.guard = none) (ho : o.op = .call { callee := .builtin .append, args := #[s, x], argTypes := #[39, 39] }) (hs : a.eval s = .slice (some ⟨B, 0, none⟩) 0 0) (hx : a.eval x = src) (h : SlAt w src (ns.map strv)) (hby : ns.length * 16 ≤ 140737488355328) (hR : R < w.heap.size)
    (hK : ∀ v' w', Below w.heap.size w w' → SlAtN w' R v' (ns.map strv) → K (a.put o.dst v') w') : if Region.wanted o (yielded ops a.tmps) = true then Oper.wp Tryd.prog o a w K Q else E := by
  obtain ⟨i0, hi0, hy0, hy1, hy2⟩ := info_parts info9
  obtain ⟨v', w', hr, hb, hn⟩ := slat_copy w B R 39 o.type 9 i0 _ Tryd.underlying39 hi0 hy0 hy1 h (by rw [List.length_map, hy2]; exact hby) hR
  have hw : Region.wanted o (yielded ops a.tmps) = true := by simp [Region.wanted, hgd]
  rw [if_pos hw]
  unfold Oper.wp
  simp [execOp, ho, resolve, invoke, builtin, hs, hx, hr, Result.andThen]
  exact hK v' w' hb hn
theorem step_copyK {ops : Array Oper} {o : Oper} {a : Act} {w : World} {K : Act → World → Prop} {Q : Exit → Act → World → Prop} {E : Prop} (s x : Operand) (B R : Nat) (src : Value) (ns : List Int)
    (hgd : o.guard = none) (ho : o.op = .call { callee := .builtin .append, args := #[s, x], argTypes := #[40, 40] }) (hs : a.eval s = .slice (some ⟨B, 0, none⟩) 0 0) (hx : a.eval x = src) (h : SlAt w src (ns.map intv)) (hby : ns.length * 8 ≤ 140737488355328) (hR : R < w.heap.size)
    (hK : ∀ v' w', Below w.heap.size w w' → SlAtN w' R v' (ns.map intv) → K (a.put o.dst v') w') : if Region.wanted o (yielded ops a.tmps) = true then Oper.wp Tryd.prog o a w K Q else E := by
  obtain ⟨i0, hi0, hy0, hy1, hy2⟩ := info_parts info3
  obtain ⟨v', w', hr, hb, hn⟩ := slat_copy w B R 40 o.type 3 i0 _ Tryd.underlying40 hi0 hy0 hy1 h (by rw [List.length_map, hy2]; exact hby) hR
  have hw : Region.wanted o (yielded ops a.tmps) = true := by simp [Region.wanted, hgd]
  rw [if_pos hw]
  unfold Oper.wp
  simp [execOp, ho, resolve, invoke, builtin, hs, hx, hr, Result.andThen]
  exact hK v' w' hb hn
theorem bAlloc {a w : World} {o : Obj} (h : Below a.heap.size a w) : Below a.heap.size a (w.alloc o) := h.alloc h.size o
theorem bDrew {a w : World} (h : Below a.heap.size a w) : Below a.heap.size a w.drew := h.drew
theorem SlAtN.shape {w : World} {R : Nat} {v : Value} {xs : List Value} (h : SlAtN w R v xs) : ∃ a c, v = .slice a xs.length c := by
  obtain ⟨a, c, e, _⟩ := h
  exact ⟨a, c, e⟩
theorem bLt {a w : World} {R : Nat} (hR : R < a.heap.size) (h : Below a.heap.size a w) : R < w.heap.size := Nat.lt_of_lt_of_le hR h.size
/-- An append whose run is known. -/
theorem app_run {w w1 : World} {ops : Array Oper} {rest : List Oper} {o : Oper} {a : Act} {Q : Exit → Act → World → Prop} (s x : Operand) (t : TypeId) {v y r : Value}
    (hgd : o.guard = none) (ho : o.op = .call { callee := .builtin .append, args := #[s, x], argTypes := #[t, t] })
    (hs : a.eval s = v) (hx : a.eval x = y) (hr : (Builtin.append_ #[t, t] o.type #[v, y]).run Tryd.prog w = .ok r w1) (h : wpList Tryd.prog ops Q rest (a.put o.dst r) w1) : wpList Tryd.prog ops Q (o :: rest) a w := by
  refine wpList_plain hgd fun K hK => ?_
  unfold Oper.wp execOp
  simp only [ho, resolve, invoke, builtin, Sem.run_bind, Sem.run_pure, Result.andThen_ok, List.map_toArray, List.map_cons, List.map_nil, hs, hx, hr]
  exact hK _ _ h
/-- Names and kids that a slice can hold. -/
structure SzK (x : VI) : Prop where
  names : x.names.length * 16 ≤ 140737488355328
  kids : x.kids.length * 8 ≤ 140737488355328
theorem out_cell {w : World} {R : Nat} {T : List VI} (h : OutT w R T) {i : Nat} {x : VI} (hx : T[i]? = some x) : ∃ nv kv, SlAtN w R nv (x.names.map strv) ∧ SlAtN w R kv (x.kids.map intv) ∧ w.cell? ⟨R, i * 6 + 4, none⟩ = some nv ∧ w.cell? ⟨R, i * 6 + 5, none⟩ = some kv ∧ ∀ k, w.frozen? ⟨R, k, none⟩ = false := by
  obtain ⟨cs, h1, _, h3⟩ := h.row
  obtain ⟨nv, kv, a, b, c⟩ := h3 i x hx
  exact ⟨nv, kv, a, b, by rw [cell_of_row _ R _ _ _ _ h1]; exact c 4 _ rfl, by rw [cell_of_row _ R _ _ _ _ h1]; exact c 5 _ rfl, fun k => frozen_of_row w R k _ _ h1⟩
theorem slN_len {α : Type} {w : World} {R c : Nat} {a : Option Addr} {f : α → Value} {xs : List α} {L : List Value} (h : SlAtN w R (.slice a (List.map f xs).length c) L) : SlAtN w R (.slice a xs.length c) L := by rwa [List.length_map] at h
set_option maxHeartbeats 12800000 in
theorem copied_any {T : List VI} {v : Value} {w : World} (hT : TreeAt w v T) (hn : T.length ≤ 100000) (hz : ∀ x ∈ T, SzK x) :
    Calls Tryd.prog 12 #[v] w fun e w' => ∃ v', e = .returned v' ∧ TreeAt w' v' T ∧ Below w.heap.size w w' := by
  obtain ⟨a, c, rfl⟩ : ∃ a c, v = .slice a T.length c := by obtain ⟨a, c, e, _⟩ := hT; exact ⟨a, c, e⟩
  have HZ := hide hz
  have hT1 := hT.later ((Below.refl w.heap.size w).alloc (Nat.le_refl _) (.cells #[] 42))
  obtain ⟨a1, c1, w1, hrun, hb1, ho1⟩ := out_copy _ w.heap.size hT1 hn 23
  have HB1 : Hid (Below w.heap.size w w1) := ((Below.refl w.heap.size w).alloc (Nat.le_refl _) (.cells #[] 42)).trans (hb1.mono (by simp))
  by_cases h0 : T.length = 0
  · have HTN : Hid (∀ (w' : World) a c, TreeAt w' (.slice a T.length c) T) := fun w' a c => ⟨a, c, rfl, by omega, fun i x hx => by have := (List.getElem?_eq_some_iff.1 hx).1; omega⟩
    rw [h0] at hrun HTN ⊢
    clear hb1 ho1 hz hT hT1
    go_enter Tryd.func12, Tryd.ntmps12
    go_wp2_with (at_builtin; refine app_run _ _ 23 rfl rfl rfl rfl hrun ?_)
    go_loopw [10] (fun vi wr => vi = .int .i64 0 ∧ Hid (wr = w1)) (fun _ _ => 0)
    case atStart => exact ⟨rfl, rfl⟩
    case round =>
      obtain ⟨rfl, HW⟩ := hrel
      have hw := HW.out
      subst hw
      go_wp2
      go_ret
      exact ⟨_, rfl, HTN.out _ _ _, HB1.out⟩
  · obtain ⟨rfl, ho⟩ := ho1 h0
    have hRs : (w.alloc (.cells #[] 42)).heap.size = w.heap.size + 1 := by simp
    rw [hRs] at ho hrun
    obtain ⟨R, hR⟩ : ∃ R, w.heap.size + 1 = R := ⟨_, rfl⟩
    have HRB : Hid (w.heap.size ≤ R) := by show _ ≤ _; omega
    rw [hR] at ho hrun
    have HO := hide ho
    clear hb1 ho1 hz hT hT1 ho hRs hR
    go_enter Tryd.func12, Tryd.ntmps12
    go_wp2_with (at_builtin; refine app_run _ _ 23 rfl rfl rfl rfl hrun ?_)
    go_loopw [10] (fun vi wr => ∃ i : Nat, vi = .int .i64 i ∧ i ≤ T.length ∧ Hid (OutT wr R T) ∧ Hid (Below w.heap.size w wr)) (fun vi _ => T.length - (intOf vi).toNat)
    case atStart => exact ⟨0, rfl, Nat.zero_le _, HO.out, HB1.out⟩
    case round =>
      clear HO HB1 hrun
      obtain ⟨i, rfl, hi, HO, HB⟩ := hrel
      by_cases hil : i < T.length
      · have i1 : (i : Int) < (T.length : Int) := by omega
        obtain ⟨x, hx⟩ : ∃ x, T[i]? = some x := ⟨_, List.getElem?_eq_getElem hil⟩
        obtain ⟨nv, kv, hnv, hkv, c4, c5, hfz⟩ := out_cell HO.out hx
        have HNV := hide hnv
        have HKV := hide hkv
        have HX := hide hx
        obtain ⟨hzn, hzk⟩ := HZ.out x (List.mem_of_getElem? hx)
        have f4 := hfz (i * 6 + 4)
        have f5 := hfz (i * 6 + 5)
        have HRL := hide HO.out.lt
        have HBK : Hid (∀ (w' : World), Below wr.heap.size wr w' → w'.cell? ⟨R, i * 6 + 4, none⟩ = some nv ∧ w'.cell? ⟨R, i * 6 + 5, none⟩ = some kv ∧ w'.frozen? ⟨R, i * 6 + 4, none⟩ = false ∧ w'.frozen? ⟨R, i * 6 + 5, none⟩ = false) := fun w' hb => by
          have hRl : R < wr.heap.size := HRL.out
          exact ⟨(hb.cell (p := ⟨R, _, none⟩) hRl).trans c4, (hb.cell (p := ⟨R, _, none⟩) hRl).trans c5, (hb.frozen (p := ⟨R, _, none⟩) hRl).trans f4, (hb.frozen (p := ⟨R, _, none⟩) hRl).trans f5⟩
        have a4 : ∀ obj, (wr.alloc obj).cell? ⟨R, i * 6 + 4, none⟩ = some nv := fun obj => (HBK.out _ (bAlloc (Below.refl _ _))).1
        have a5 : ∀ obj, (wr.alloc obj).cell? ⟨R, i * 6 + 5, none⟩ = some kv := fun obj => (HBK.out _ (bAlloc (Below.refl _ _))).2.1
        have aa4 : ∀ obj obj', ((wr.alloc obj).alloc obj').cell? ⟨R, i * 6 + 4, none⟩ = some nv := fun obj obj' => (HBK.out _ (bAlloc (bAlloc (Below.refl _ _)))).1
        have aa5 : ∀ obj obj', ((wr.alloc obj).alloc obj').cell? ⟨R, i * 6 + 5, none⟩ = some kv := fun obj obj' => (HBK.out _ (bAlloc (bAlloc (Below.refl _ _)))).2.1
        clear hnv hkv hx hfz
        go_wp2
        go_region_law (first
          | (refine step_copyK (.tmp 24) (.tmp 29) _ R kv x.kids rfl rfl rfl rfl (HKV.out.later (by repeat' first | exact Below.refl _ _ | exact HB2.out | apply bDrew | apply bAlloc)).at hzk (bLt HRL.out (by repeat' first | exact Below.refl _ _ | exact HB2.out | apply bDrew | apply bAlloc)) ?_; intro v4 w4 k1 k2; obtain ⟨a4', c4', rfl⟩ := k2.shape; have HB4 := hide (below_on (by repeat' first | exact HB2.out | apply bDrew | apply bAlloc) k1 : Below wr.heap.size wr w4); have HN4 := hide (HN2.out.later (below_on (by repeat' first | exact Below.refl _ _ | apply bDrew | apply bAlloc) k1)); have HK4 := hide k2; obtain ⟨e4, e5, e6, e7⟩ := HBK.out _ HB4.out; clear k1 k2)
          | (refine step_copyS (.tmp 17) (.tmp 22) _ R nv x.names rfl rfl rfl rfl (HNV.out.later (by repeat' first | exact Below.refl _ _ | apply bDrew | apply bAlloc)).at hzn (bLt HRL.out (by repeat' first | exact Below.refl _ _ | apply bDrew | apply bAlloc)) ?_; intro v2 w2 k1 k2; obtain ⟨a2', c2', rfl⟩ := k2.shape; have HB2 := hide (below_on (by repeat' first | exact Below.refl _ _ | apply bDrew | apply bAlloc) k1 : Below wr.heap.size wr w2); have HN2 := hide k2; obtain ⟨d4, d5, d6, d7⟩ := HBK.out _ HB2.out; have d8 := (fun obj => (HBK.out (w2.alloc obj) (bAlloc HB2.out)).2.1); clear k1 k2))
        all_goals
          go_wp2
          go_roundw
          case rel => exact ⟨i + 1, by go_num, by omega, (HO.out.later HB4.out).store HX.out (slN_len HN4.out) (slN_len HK4.out), ((below_on HB.out HB4.out).setCell (p := ⟨R, _, none⟩) HRB.out _).setCell (p := ⟨R, _, none⟩) HRB.out _⟩
          case measure => simp [intOf]; omega
      · have i1 : ¬ (i : Int) < (T.length : Int) := by omega
        go_wp2
        go_ret
        exact ⟨_, rfl, HO.out.tree (by omega), HB.out⟩
end Go.Proofs.YtpffhckimilppaaDoor
