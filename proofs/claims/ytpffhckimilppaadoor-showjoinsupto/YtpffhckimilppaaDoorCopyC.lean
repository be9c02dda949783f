/-
  What the statements' Copied does, with all that is known of where the copy lies.
-/
import Derived.Test.YtpffhckimilppaaDoorCopyB
namespace Go.Proofs.YtpffhckimilppaaDoor.Jn
open Go.RowKit
set_option maxRecDepth 100000

theorem rowF_shape {w : World} {base g : Nat} {e : TypeId} {v : Value} {xs : List Value} (h : RowF w base e g v xs) : ∃ a c, v = .slice a xs.length c := by
  obtain ⟨a, c, e, _⟩ := h
  exact ⟨a, c, e⟩
theorem rowF_len {α : Type} {w : World} {base g c : Nat} {e : TypeId} {a : Option Addr} {f : α → Value} {xs : List α} {L : List Value} (h : RowF w base e g (.slice a (List.map f xs).length c) L) : RowF w base e g (.slice a xs.length c) L := by rwa [List.length_map] at h
theorem rowF_at {w0 wr w : World} {base g : Nat} {e : TypeId} {v : Value} {xs : List Value} (h : RowF w base e g v xs) (hg : wr.heap.size ≤ g) (hb : Below w0.heap.size w0 wr) : RowF w w0.heap.size e g v xs := by
  obtain ⟨a, c, h1, h2, h3⟩ := h
  refine ⟨a, c, h1, h2, fun hx => ?_⟩
  obtain ⟨k1, _, k3⟩ := h3 hx
  exact ⟨k1, Nat.le_trans hb.size hg, k3⟩
theorem szAlloc {n : Nat} {w : World} {o : Obj} (h : n ≤ w.heap.size) : n ≤ (w.alloc o).heap.size := by simp; omega
theorem szDrew {n : Nat} {w : World} (h : n ≤ w.heap.size) : n ≤ w.drew.heap.size := h
/-- A copy of a slice, in a block of its own. -/
theorem slat_copy2 (w : World) (B : Nat) (t ty e : TypeId) (i : TypeInfo) (z : Value) (ht : Tryd.prog.underlying t = some (.slice e)) (hi : Tryd.prog.info? e = some i) (hz : i.zero = some z) (hz1 : i.size = 1)
    {src : Value} {xs : List Value} (h : SlAt w src xs) (hby : xs.length * i.bytes ≤ 140737488355328) :
    ∃ v' w', (Builtin.append_ #[t, t] ty #[.slice (some ⟨B, 0, none⟩) 0 0, src]).run Tryd.prog w = .ok v' w' ∧ Below w.heap.size w w' ∧ RowF w' w.heap.size e w.heap.size v' xs := by
  obtain ⟨a, c, rfl, hl, hc⟩ := h
  obtain ⟨a', c', w', hr, hb, hn⟩ := copy_run w B t ty e i z ht hi hz a xs.length c xs (by rw [hz1, Nat.mul_one]) (fun hm => by
    obtain ⟨x0, hx0⟩ : ∃ x0, xs[0]? = some x0 := ⟨_, List.getElem?_eq_getElem (by omega)⟩
    obtain ⟨g, e1, _⟩ := hc 0 x0 hx0
    subst e1
    exact ⟨g, rfl, fun j u hu => by obtain ⟨g', e2, h3⟩ := hc j u hu; cases e2; exact h3⟩) hl hby
  refine ⟨_, w', hr, hb, a', c', rfl, hl, fun hx => ?_⟩
  obtain ⟨ea, cs, h2, _, h4⟩ := hn (fun e => hx (List.eq_nil_of_length_eq_zero e))
  exact ⟨ea, Nat.le_refl _, cs, h2, h4⟩
theorem step_copyS2 {ops : Array Oper} {o : Oper} {a : Act} {w : World} {K : Act → World → Prop} {Q : Exit → Act → World → Prop} {E : Prop} (s x : Operand) (B : Nat) (R : Nat) (src : Value) (ns : List (List UInt8))
    (hgd : o.guard = none) (ho : o.op = .call { callee := .builtin .append, args := #[s, x], argTypes := #[39, 39] }) (hs : a.eval s = .slice (some ⟨B, 0, none⟩) 0 0) (hx : a.eval x = src) (h : SlAt w src (ns.map strv)) (hby : ns.length * 16 ≤ 140737488355328) (_hR : R < w.heap.size)
    (hK : ∀ v' w' g, Below w.heap.size w w' → w.heap.size ≤ g → RowF w' w.heap.size 9 g v' (ns.map strv) → K (a.put o.dst v') w') : if Region.wanted o (yielded ops a.tmps) = true then Oper.wp Tryd.prog o a w K Q else E := by
  obtain ⟨i0, hi0, hy0, hy1, hy2⟩ := info_parts info9
  obtain ⟨v', w', hr, hb, hn⟩ := slat_copy2 w B 39 o.type 9 i0 _ Tryd.underlying39 hi0 hy0 hy1 h (by rw [List.length_map, hy2]; exact hby)
  have hw : Region.wanted o (yielded ops a.tmps) = true := by simp [Region.wanted, hgd]
  rw [if_pos hw]
  unfold Oper.wp
  simp [execOp, ho, resolve, invoke, builtin, hs, hx, hr, Result.andThen]
  exact hK v' w' _ hb (Nat.le_refl _) hn
theorem step_copyK2 {ops : Array Oper} {o : Oper} {a : Act} {w : World} {K : Act → World → Prop} {Q : Exit → Act → World → Prop} {E : Prop} (s x : Operand) (B : Nat) (R : Nat) (src : Value) (ns : List Int)
    (hgd : o.guard = none) (ho : o.op = .call { callee := .builtin .append, args := #[s, x], argTypes := #[40, 40] }) (hs : a.eval s = .slice (some ⟨B, 0, none⟩) 0 0) (hx : a.eval x = src) (h : SlAt w src (ns.map intv)) (hby : ns.length * 8 ≤ 140737488355328) (_hR : R < w.heap.size)
    (hK : ∀ v' w' g, Below w.heap.size w w' → w.heap.size ≤ g → RowF w' w.heap.size 3 g v' (ns.map intv) → K (a.put o.dst v') w') : if Region.wanted o (yielded ops a.tmps) = true then Oper.wp Tryd.prog o a w K Q else E := by
  obtain ⟨i0, hi0, hy0, hy1, hy2⟩ := info_parts info3
  obtain ⟨v', w', hr, hb, hn⟩ := slat_copy2 w B 40 o.type 3 i0 _ Tryd.underlying40 hi0 hy0 hy1 h (by rw [List.length_map, hy2]; exact hby)
  have hw : Region.wanted o (yielded ops a.tmps) = true := by simp [Region.wanted, hgd]
  rw [if_pos hw]
  unfold Oper.wp
  simp [execOp, ho, resolve, invoke, builtin, hs, hx, hr, Result.andThen]
  exact hK v' w' _ hb (Nat.le_refl _) hn
/-- A tree of its own memory. -/
def Made (w : World) (base : Nat) (v : Value) (T : List VI) : Prop := ∃ nv kv H G, CT w base v T nv kv H G
set_option maxHeartbeats 12800000 in
theorem copied2_any {T : List VI} {v : Value} {w : World} (hT : TreeAt w v T) (hn : T.length ≤ 100000) (h0 : T.length ≠ 0) (hz : ∀ x ∈ T, SzK x) :
    Calls Tryd.prog 12 #[v] w fun e w' => ∃ R cap, e = .returned (.slice (some ⟨R, 0, none⟩) T.length cap) ∧ Made w' w.heap.size (.slice (some ⟨R, 0, none⟩) T.length cap) T ∧ Below w.heap.size w w' := by
  obtain ⟨a, c, rfl⟩ : ∃ a c, v = .slice a T.length c := by obtain ⟨a, c, e, _⟩ := hT; exact ⟨a, c, e⟩
  have HZ := hide hz
  obtain ⟨R, cap, w1, hrun, hb1, ho⟩ := out_copy2 w hT hn h0 23
  have HB1 := hide hb1
  have HO := hide ho
  have HRB := hide ho.low
  clear hb1 ho hz hT
  go_enter Tryd.func12, Tryd.ntmps12
  go_wp2_with (at_builtin; refine app_run _ _ 23 rfl rfl rfl rfl hrun ?_)
  go_loopw [10] (fun vi wr => ∃ i : Nat, vi = .int .i64 i ∧ i ≤ T.length ∧ Hid (Out2 wr w.heap.size R cap T i) ∧ Hid (Below w.heap.size w wr)) (fun vi _ => T.length - (intOf vi).toNat)
  case atStart => exact ⟨0, rfl, Nat.zero_le _, HO.out, HB1.out⟩
  case round =>
    clear HO HB1 hrun
    obtain ⟨i, rfl, hi, HO, HB⟩ := hrel
    by_cases hil : i < T.length
    · have i1 : (i : Int) < (T.length : Int) := by omega
      obtain ⟨x, hx⟩ : ∃ x, T[i]? = some x := ⟨_, List.getElem?_eq_getElem hil⟩
      obtain ⟨nv, kv, hnv, hkv, c4, c5, hfz⟩ := HO.out.cell hx
      have HNV := hide hnv
      have HKV := hide hkv
      have HX := hide hx
      obtain ⟨hzn, hzk⟩ := HZ.out x (List.mem_of_getElem? hx)
      have f4 := hfz (i * 6 + 4)
      have f5 := hfz (i * 6 + 5)
      have HRL := hide HO.out.lt
      have HBK : Hid (∀ (w' : World), Below wr.heap.size wr w' → w'.cell? ⟨R, i * 6 + 4, none⟩ = some nv ∧ w'.cell? ⟨R, i * 6 + 5, none⟩ = some kv ∧ w'.frozen? ⟨R, i * 6 + 4, none⟩ = false ∧ w'.frozen? ⟨R, i * 6 + 5, none⟩ = false) := fun w' hb => by
        have hRl : R < wr.heap.size := HRL.out
        exact ⟨(hb.cell (p := ⟨R, _, none⟩) hRl).trans c4, (hb.cell (p := ⟨R, _, none⟩) hRl).trans c5, (hb.frozen (p := ⟨R, _, none⟩) hRl).trans f4, (hb.frozen (p := ⟨R, _, none⟩) hRl).trans f5⟩
      have a4 : ∀ obj, (wr.alloc obj).cell? ⟨R, i * 6 + 4, none⟩ = some nv := fun obj => (HBK.out _ (bAlloc (Below.refl _ _))).1
      have a5 : ∀ obj, (wr.alloc obj).cell? ⟨R, i * 6 + 5, none⟩ = some kv := fun obj => (HBK.out _ (bAlloc (Below.refl _ _))).2.1
      have aa4 : ∀ obj obj', ((wr.alloc obj).alloc obj').cell? ⟨R, i * 6 + 4, none⟩ = some nv := fun obj obj' => (HBK.out _ (bAlloc (bAlloc (Below.refl _ _)))).1
      have aa5 : ∀ obj obj', ((wr.alloc obj).alloc obj').cell? ⟨R, i * 6 + 5, none⟩ = some kv := fun obj obj' => (HBK.out _ (bAlloc (bAlloc (Below.refl _ _)))).2.1
      clear hnv hkv hx hfz
      go_wp2
      go_region_law (first
        | (refine step_copyK2 (.tmp 24) (.tmp 29) _ R kv x.kids rfl rfl rfl rfl (HKV.out.later (by repeat' first | exact Below.refl _ _ | exact HB2.out | apply bDrew | apply bAlloc)).at hzk (bLt HRL.out (by repeat' first | exact Below.refl _ _ | exact HB2.out | apply bDrew | apply bAlloc)) ?_; intro v4 w4 g4 k1 k3 k2; obtain ⟨a4', c4', rfl⟩ := rowF_shape k2; have HB4 := hide (below_on (by repeat' first | exact HB2.out | apply bDrew | apply bAlloc) k1 : Below wr.heap.size wr w4); have HN4 := hide (HN2.out.later (below_on (by repeat' first | exact Below.refl _ _ | apply bDrew | apply bAlloc) k1)); have HK4 := hide k2; have HG4 := hide (Nat.le_trans (by repeat' first | exact Nat.le_refl _ | exact HB2.out.size | apply szAlloc | apply szDrew) k3 : wr.heap.size ≤ g4); obtain ⟨e4, e5, e6, e7⟩ := HBK.out _ HB4.out; clear k1 k2 k3)
        | (refine step_copyS2 (.tmp 17) (.tmp 22) _ R nv x.names rfl rfl rfl rfl (HNV.out.later (by repeat' first | exact Below.refl _ _ | apply bDrew | apply bAlloc)).at hzn (bLt HRL.out (by repeat' first | exact Below.refl _ _ | apply bDrew | apply bAlloc)) ?_; intro v2 w2 g2 k1 k3 k2; obtain ⟨a2', c2', rfl⟩ := rowF_shape k2; have HB2 := hide (below_on (by repeat' first | exact Below.refl _ _ | apply bDrew | apply bAlloc) k1 : Below wr.heap.size wr w2); have HN2 := hide k2; obtain ⟨d4, d5, d6, d7⟩ := HBK.out _ HB2.out; have d8 := (fun obj => (HBK.out (w2.alloc obj) (bAlloc HB2.out)).2.1); have HG2 := hide (Nat.le_trans (by repeat' first | exact Nat.le_refl _ | apply szAlloc | apply szDrew) k3 : wr.heap.size ≤ g2); clear k1 k2 k3))
      all_goals
        go_wp2
        go_roundw
        case rel => exact ⟨i + 1, by go_num, by omega, HO.out.step HB4.out HX.out (rowF_len (rowF_at HN4.out HG2.out HB.out)) (rowF_len (rowF_at HK4.out HG4.out HB.out)) HG4.out, ((below_on HB.out HB4.out).setCell (p := ⟨R, _, none⟩) HRB.out _).setCell (p := ⟨R, _, none⟩) HRB.out _⟩
        case measure => simp [intOf]; omega
    · have i1 : ¬ (i : Int) < (T.length : Int) := by omega
      go_wp2
      go_ret
      have ei : i = T.length := by omega
      have HO2 := HO.out
      rw [ei] at HO2
      exact ⟨_, _, rfl, HO2.done, HB.out⟩
end Go.Proofs.YtpffhckimilppaaDoor.Jn
