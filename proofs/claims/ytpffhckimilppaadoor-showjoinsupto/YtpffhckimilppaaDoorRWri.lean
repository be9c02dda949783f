/-
  What the document's write does of a tree whose kids stand ahead: the same text.
-/
import Derived.Test.YtpffhckimilppaaDoorRQuo
namespace Go.Proofs.YtpffhckimilppaaDoor
open Go.RowKit
set_option maxRecDepth 100000
def RWriteC (w0 : World) (tv : Value) (T : List VI) (fuel : Nat) (k : Nat) : Prop := ∀ (w : World) (ov : Value) (bs : List UInt8), Below w0.heap.size w0 w → BRow w w0.heap.size ov bs → bs.length + (writeF T fuel k).length ≤ 140737488000000 →
  Calls Tryd.prog 27 #[ov, tv, .int .i64 k] w fun e w' => ∃ v', e = .returned v' ∧ Step w0.heap.size w ov bs w' v' (writeF T fuel k)
theorem RWriteC.use {w0 : World} {tv : Value} {T : List VI} {fuel k : Nat} (h : RWriteC w0 tv T fuel k) {w : World} {ov : Value} {bs : List UInt8} (h1 : Below w0.heap.size w0 w) (h2 : BRow w w0.heap.size ov bs) (h3 : bs.length + (writeF T fuel k).length ≤ 140737488000000) :
    Calls Tryd.prog 27 #[ov, tv, .int .i64 k] w fun e w' => ∃ v', e = .returned v' ∧ Step w0.heap.size w ov bs w' v' (writeF T fuel k) := h w ov bs h1 h2 h3
/-- The value that write copied to itself, while it writes. -/
structure BoxAt (b : Nat) (kd : Int) (nv kv : Value) (wr : World) (v : Value) : Prop where
  c0 : wr.cell? ⟨b, 0, none⟩ = some (.int .i64 kd)
  c4 : wr.cell? ⟨b, 4, none⟩ = some nv
  c5 : wr.cell? ⟨b, 5, none⟩ = some kv
  ne : some b ≠ v.ownBlock
  lt : b < wr.heap.size
theorem BoxAt.step {b : Nat} {kd : Int} {nv kv : Value} {wr w' : World} {v v' : Value} {base : Nat} {bs a : List UInt8} (h : BoxAt b kd nv kv wr v) (s : Step base wr v bs w' v' a) : BoxAt b kd nv kv w' v' :=
  ⟨(s.cell (p := ⟨b, 0, none⟩) h.lt h.ne).trans h.c0, (s.cell (p := ⟨b, 4, none⟩) h.lt h.ne).trans h.c4, (s.cell (p := ⟨b, 5, none⟩) h.lt h.ne).trans h.c5, moved_ne s.moved h.lt h.ne, Nat.lt_of_lt_of_le h.lt s.size⟩
section
variable {w0 : World} {ta : Option Addr} {tc : Nat} {T : List VI} {fuel : Nat}
set_option maxHeartbeats 6400000 in
theorem rwrite_step (E : TreeAt w0 (.slice ta T.length tc) T) (HO : Okay T) (k : Nat) (hk : k < T.length) (ih : ∀ j, j < k → RWriteC w0 (.slice ta T.length tc) T fuel j) : RWriteC w0 (.slice ta T.length tc) T (fuel + 1) k := by
  intro w ov bs hb hrow hlen
  obtain ⟨x, hx⟩ : ∃ x, T[k]? = some x := ⟨_, List.getElem?_eq_getElem hk⟩
  have ew : writeF T (fuel + 1) k = valT (writeF T fuel) x := by
    show valT _ (T.getD ((k : Int).toNat) {}) = _
    rw [Int.toNat_natCast, List.getD, hx]; rfl
  rw [ew] at hlen ⊢
  obtain ⟨a, c, e0, hl, ha⟩ := E
  injection e0 with e0 e1 e2
  subst e0 e2
  obtain ⟨g, o, nv, kv, rfl, hva, hc⟩ := ha k x hx
  obtain ⟨c0, c1, c2, c3, c4, c5⟩ := six_cells (w := w) (o := o + k * 6) (fun j u hj => (hb.cell (block_lt_of_cell (hc j u hj))).trans (hc j u hj))
  obtain ⟨⟨na, nc, rfl, hnl, hnn⟩, ⟨ka, kc, rfl, hkl, hkk⟩⟩ := hva
  have hkl2 : x.kids.length ≤ 9223372036854775807 := by simpa using hkl
  have HAH := hide (HO.ahead k x hx)
  have HNM := hide (HO.named k x hx)
  obtain ⟨hk1, hk6⟩ := HO.kinds k x hx
  obtain ⟨n1, n2⟩ := HO.nums k x hx
  have ht1 := HO.texts k x hx
  have HNS := hide (HO.namesS k x hx)
  have i1 : (k : Int) < (T.length : Int) := by omega
  have hg1 : ¬ w.heap.size = g := World.new_ne w _ c0
  have HB := hide hb
  have HR := hide hrow
  have HBS := hide hb.size
  have HNN := hide hnn
  have HKK := hide hkk
  have HIH := hide ih
  have hb1 : ∀ obj, Below w0.heap.size w0 (w.alloc obj) := fun obj => hb.alloc hb.size obj
  clear hc ha hnn hkk ih hb hrow hl hnl hkl
  have hk123 : x.kind = 1 ∨ x.kind = 2 ∨ x.kind = 3 ∨ x.kind = 4 ∨ x.kind = 5 ∨ x.kind = 6 := by omega
  have HRA : Hid (∀ obj, BRow (w.alloc obj) w0.heap.size ov bs) := fun obj => HR.out.later (Nat.le_refl _) ((Below.refl _ _).alloc (Nat.le_refl _) _)
  have HSA : Hid (∀ obj, w0.heap.size ≤ (w.alloc obj).heap.size) := fun obj => Nat.le_trans HBS.out (by simp)
  have HF : Hid (∀ obj {w2 v2 a}, Step w0.heap.size (w.alloc obj) ov bs w2 v2 a → Step w0.heap.size w ov bs w2 v2 a) := fun obj _ _ _ h => Step.from HR.out ((Below.refl _ _).alloc (Nat.le_refl _) _) h
  rcases hk123 with hkd | hkd | hkd | hkd | hkd | hkd
  · rw [hkd] at c0
    rw [show valT (writeF T fuel) x = [110, 117, 108, 108] by unfold valT; rw [if_pos hkd]] at hlen ⊢
    simp only [List.length_cons, List.length_nil] at hlen
    clear hkd
    go_enter Tryd.func27, Tryd.ntmps27
    go_wp2_with (at_builtin; refine app_str _ _ [110, 117, 108, 108] rfl rfl rfl rfl (HRA.out _) (HSA.out _) (by simp; omega) ?_; intro v' w' h1; have H1 := hide (HF.out _ h1); clear h1)
    go_ret
    exact ⟨_, rfl, H1.out⟩
  · rw [hkd] at c0
    have e1 : valT (writeF T fuel) x = if x.truth then [116, 114, 117, 101] else [102, 97, 108, 115, 101] := by unfold valT; rw [if_neg (by omega), if_pos hkd]
    rw [e1] at hlen ⊢
    clear hkd e1 ew
    cases htr : x.truth
    all_goals
      rw [htr] at c1 hlen
      simp only [if_true, if_false, Bool.false_eq_true, List.length_cons, List.length_nil] at hlen ⊢
      go_enter Tryd.func27, Tryd.ntmps27
      go_wp2_with (first
        | (at_builtin; refine app_str _ _ [116, 114, 117, 101] rfl rfl rfl rfl (HRA.out _) (HSA.out _) (by simp; omega) ?_; intro v' w' h1; have H1 := hide (HF.out _ h1); clear h1)
        | (at_builtin; refine app_str _ _ [102, 97, 108, 115, 101] rfl rfl rfl rfl (HRA.out _) (HSA.out _) (by simp; omega) ?_; intro v' w' h1; have H1 := hide (HF.out _ h1); clear h1))
      go_ret
      exact ⟨_, rfl, H1.out⟩
  · rw [hkd] at c0
    have e1 : valT (writeF T fuel) x = Lib.itoa x.num := by unfold valT; rw [if_neg (by omega), if_neg (by omega), if_pos hkd]
    rw [e1] at hlen ⊢
    have hil := itoa_le x.num n1 n2
    clear hkd e1 ew
    generalize x.num = n at c2 n1 n2 hlen hil
    go_enter Tryd.func27, Tryd.ntmps27
    go_wp2_with (first
      | (go_at_call 38; refine (rtext_any n n1 n2 _).mono ?_; rintro e w1 ⟨rfl, k2⟩; have HR1 := hide ((HRA.out _).later (Nat.le_refl _) k2); have HS1 := hide (Nat.le_trans (HSA.out _) k2.size); have HF1 := hide (fun w2 v2 a (h : Step w0.heap.size w1 ov bs w2 v2 a) => HF.out _ (Step.from (HRA.out _) k2 h)); clear k2)
      | (at_builtin; refine app_str _ _ (Lib.itoa n) rfl rfl rfl rfl HR1.out HS1.out (by omega) ?_; intro v' w' h1; have H1 := hide (HF1.out _ _ _ h1); clear h1))
    go_ret
    exact ⟨_, rfl, H1.out⟩
  · rw [hkd] at c0
    have e1 : valT (writeF T fuel) x = quoteM x.text := by unfold valT; rw [if_neg (by omega), if_neg (by omega), if_neg (by omega), if_pos hkd]
    rw [e1] at hlen ⊢
    clear hkd e1 ew
    generalize x.text = t at c3 ht1 hlen
    have HLL := hide hlen
    go_enter Tryd.func27, Tryd.ntmps27
    go_wp2_with (first
      | (go_at_call 29; refine (rquote_any t ht1 (HRA.out _) (HSA.out _) HLL.out).mono ?_; rintro e w1 ⟨v1, rfl, h1⟩; have H1 := hide (HF.out _ h1); clear h1))
    go_ret
    exact ⟨_, rfl, H1.out⟩
  · rw [hkd] at c0
    have e1 : valT (writeF T fuel) x = [91] ++ kidsT (fun _ k => writeF T fuel k) 0 x.kids ++ [93] := by unfold valT; rw [if_neg (by omega), if_neg (by omega), if_neg (by omega), if_neg (by omega), if_pos hkd]
    rw [e1] at hlen ⊢
    simp only [List.length_append, List.length_cons, List.length_nil] at hlen
    simp only [List.length_map] at c4 c5
    have HNX : Hid (∀ (m : Nat) (y : Int), x.kids[m]? = some y → kidsT (fun _ k => writeF T fuel k) 0 (x.kids.take (m + 1)) = kidsT (fun _ k => writeF T fuel k) 0 (x.kids.take m) ++ ((if m = 0 then [] else [44]) ++ writeF T fuel y)) := fun m y h => kidsT_next (fun _ k => writeF T fuel k) h
    have HLE : Hid (∀ m : Nat, (kidsT (fun _ k => writeF T fuel k) 0 (x.kids.take m)).length ≤ (kidsT (fun _ k => writeF T fuel k) 0 x.kids).length) := fun m => kidsT_le _ _ m
    have HZ0 : Hid (kidsT (fun _ k => writeF T fuel k) 0 (x.kids.take 0) = []) := by show _ = _; rw [List.take_zero]; rfl
    have HAll : Hid (x.kids.take x.kids.length = x.kids) := List.take_length
    generalize (fun (_ : Nat) (k : Int) => writeF T fuel k) = f at hlen HNX HLE HZ0 ⊢
    clear hkd e1 ew
    go_enter Tryd.func27, Tryd.ntmps27
    go_wp2_with (first
      | (at_builtin; refine app_builtB (base := w0.heap.size) (.tmp 44) (.tmp 47) [91] (by simp) rfl rfl rfl rfl (HRA.out _) (HSA.out _) rfl rfl (by omega) ?_; intro v1 w1 h1; have H1 := hide (HF.out _ h1); have HX := hide (BoxAt.step (kd := 5) (nv := .slice na x.names.length nc) (kv := .slice ka x.kids.length kc) ⟨box_cell w _ 0 _ rfl, box_cell w _ 4 _ rfl, box_cell w _ 5 _ rfl, row_ne HR.out, by simp⟩ h1); clear h1))
    go_loopw [0, 9] (fun vo vi wr => ∃ (m : Nat) (v : Value), vi = .int .i64 m ∧ v = vo ∧ m ≤ x.kids.length ∧ Hid (Step w0.heap.size w ov bs wr v ([91] ++ kidsT f 0 (x.kids.take m))) ∧ Hid (BoxAt w.heap.size 5 (.slice na x.names.length nc) (.slice ka x.kids.length kc) wr v)) (fun _ vi _ => x.kids.length - (intOf vi).toNat)
    case atStart => exact ⟨0, _, rfl, rfl, Nat.zero_le _, by rw [HZ0.out]; exact H1.out, HX.out⟩
    case round =>
      clear H1 HX
      obtain ⟨m, v, rfl, rfl, hm, HS, HX⟩ := hrel
      have HBR := hide (HS.out.below HR.out HB.out HBS.out)
      have HSZ := hide (Nat.le_trans HBS.out HS.out.size)
      have b0 := HX.out.c0
      have b5 := HX.out.c5
      by_cases hlm : m < x.kids.length
      · have m1 : (m : Int) < (x.kids.length : Int) := by omega
        obtain ⟨y, hy⟩ : ∃ y, x.kids[m]? = some y := ⟨_, List.getElem?_eq_getElem hlm⟩
        have hyb := HAH.out y (List.mem_of_getElem? hy)
        obtain ⟨n, rfl⟩ : ∃ n : Nat, y = (n : Int) := ⟨y.toNat, by omega⟩
        have hnk2 : n < k := by omega
        obtain ⟨gk, rfl, hck⟩ := HKK.out m (intv (n : Int)) (by rw [List.getElem?_map, hy]; rfl)
        unfold intv at hck
        have HCK : Hid (∀ w', Below w0.heap.size w0 w' → w'.cell? (gk.add m) = some (.int .i64 n)) := fun w' hb' => (hb'.cell (block_lt_of_cell hck)).trans hck
        have e1 := HCK.out _ HBR.out
        have HN := hide (HNX.out m n hy)
        have h2 : (kidsT f 0 (x.kids.take (m + 1))).length ≤ _ := HLE.out (m + 1)
        rw [HN.out] at h2
        simp only [List.length_append] at h2
        have HLL : Hid (bs.length + (1 + (kidsT f 0 (x.kids.take m)).length) + (if m = 0 then ([] : List UInt8) else [44]).length + (writeF T fuel n).length ≤ 140737488000000) := by show _ ≤ _; omega
        clear hck hy hyb h2
        by_cases hm0 : m = 0
        · have m2 : ¬ (0 : Int) < (m : Int) := by omega
          rw [if_pos hm0] at HN HLL
          have HH := hide HS.out
          clear hm0
          go_wp2_with (first
            | (go_at_call 27; refine ((HIH.out n hnk2).use (HH.out.below HR.out HB.out HBS.out) HH.out.row (by have := HLL.out; simp only [List.length_append, List.length_cons, List.length_nil] at this ⊢; omega)).mono ?_; rintro e w7 ⟨v7, rfl, h7⟩; have H7 := hide (HH.out.trans h7); have HX7 := hide (HX.out.step h7); clear h7))
          go_roundw
          case rel => exact ⟨m + 1, _, by go_num, rfl, by omega, by rw [HN.out]; exact hide (H7.out.eq (by simp)), HX7.out⟩
          case measure => simp [intOf]; omega
        · have m2 : (0 : Int) < (m : Int) := by omega
          rw [if_neg hm0] at HN HLL
          go_wp2_with (first
            | (go_at_call 27; refine ((HIH.out n hnk2).use (H2.out.below HR.out HB.out HBS.out) H2.out.row (by have := HLL.out; simp only [List.length_append, List.length_cons, List.length_nil] at this ⊢; omega)).mono ?_; rintro e w7 ⟨v7, rfl, h7⟩; have H7 := hide (H2.out.trans h7); have HX7 := hide (HX2.out.step h7); clear h7)
            | (at_builtin; refine app_built (base := w0.heap.size) (.tmp 58) (.tmp 59) [44] rfl rfl rfl rfl HS.out.row HSZ.out rfl rfl (by have := HLL.out; simp only [List.length_append, List.length_cons, List.length_nil] at this ⊢; omega) ?_; intro v2 w2 h2; have H2 := hide (HS.out.trans h2); have HX2 := hide (HX.out.step h2); clear h2; have f0 := HX2.out.c0; have f5 := HX2.out.c5; have f1 := HCK.out _ (H2.out.below HR.out HB.out HBS.out)))
          go_roundw
          case rel => exact ⟨m + 1, _, by go_num, rfl, by omega, by rw [HN.out]; exact hide (H7.out.eq (by simp)), HX7.out⟩
          case measure => simp [intOf]; omega
      · have m1 : ¬ (m : Int) < (x.kids.length : Int) := by omega
        obtain rfl : m = x.kids.length := by omega
        rw [HAll.out] at HS
        go_wp2_with (first
          | (at_builtin; refine app_built (base := w0.heap.size) (.tmp 81) (.tmp 84) [93] rfl rfl rfl rfl HS.out.row HSZ.out rfl rfl (by simp only [List.length_append, List.length_cons, List.length_nil]; omega) ?_; intro v1 w1 h1; have H1 := hide (HS.out.trans h1); clear h1))
        go_ret
        exact ⟨_, rfl, H1.out⟩
  · rw [hkd] at c0
    have e1 : valT (writeF T fuel) x = [123] ++ kidsT (fun i k => quoteM (x.names.getD i []) ++ [58] ++ writeF T fuel k) 0 x.kids ++ [125] := by unfold valT; rw [if_neg (by omega), if_neg (by omega), if_neg (by omega), if_neg (by omega), if_neg (by omega)]
    rw [e1] at hlen ⊢
    simp only [List.length_append, List.length_cons, List.length_nil] at hlen
    have hnk := HNM.out hkd
    simp only [List.length_map] at c4 c5
    rw [hnk] at c4
    have HNK := hide hnk
    clear hnk
    have HNX : Hid (∀ (m : Nat) (y : Int) (t : List UInt8), x.kids[m]? = some y → x.names[m]? = some t → kidsT (fun i k => quoteM (x.names.getD i []) ++ [58] ++ writeF T fuel k) 0 (x.kids.take (m + 1)) = kidsT (fun i k => quoteM (x.names.getD i []) ++ [58] ++ writeF T fuel k) 0 (x.kids.take m) ++ ((if m = 0 then [] else [44]) ++ (quoteM t ++ [58] ++ writeF T fuel y))) := fun m y t h h2 => by
      rw [kidsT_next (fun i k => quoteM (x.names.getD i []) ++ [58] ++ writeF T fuel k) h, List.getD, h2]; rfl
    have HLE : Hid (∀ m : Nat, (kidsT (fun i k => quoteM (x.names.getD i []) ++ [58] ++ writeF T fuel k) 0 (x.kids.take m)).length ≤ (kidsT (fun i k => quoteM (x.names.getD i []) ++ [58] ++ writeF T fuel k) 0 x.kids).length) := fun m => kidsT_le _ _ m
    have HZ0 : Hid (kidsT (fun i k => quoteM (x.names.getD i []) ++ [58] ++ writeF T fuel k) 0 (x.kids.take 0) = []) := by show _ = _; rw [List.take_zero]; rfl
    have HAll : Hid (x.kids.take x.kids.length = x.kids) := List.take_length
    generalize (fun (i : Nat) (k : Int) => quoteM (x.names.getD i []) ++ [58] ++ writeF T fuel k) = f at hlen HNX HLE HZ0 ⊢
    clear hkd e1 ew
    go_enter Tryd.func27, Tryd.ntmps27
    go_wp2_with (first
      | (at_builtin; refine app_builtB (base := w0.heap.size) (.tmp 44) (.tmp 47) [123] (by simp) rfl rfl rfl rfl (HRA.out _) (HSA.out _) rfl rfl (by omega) ?_; intro v1 w1 h1; have H1 := hide (HF.out _ h1); have HX := hide (BoxAt.step (kd := 6) (nv := .slice na x.kids.length nc) (kv := .slice ka x.kids.length kc) ⟨box_cell w _ 0 _ rfl, box_cell w _ 4 _ rfl, box_cell w _ 5 _ rfl, row_ne HR.out, by simp⟩ h1); clear h1))
    go_loopw [0, 9] (fun vo vi wr => ∃ (m : Nat) (v : Value), vi = .int .i64 m ∧ v = vo ∧ m ≤ x.kids.length ∧ Hid (Step w0.heap.size w ov bs wr v ([123] ++ kidsT f 0 (x.kids.take m))) ∧ Hid (BoxAt w.heap.size 6 (.slice na x.kids.length nc) (.slice ka x.kids.length kc) wr v)) (fun _ vi _ => x.kids.length - (intOf vi).toNat)
    case atStart => exact ⟨0, _, rfl, rfl, Nat.zero_le _, by rw [HZ0.out]; exact H1.out, HX.out⟩
    case round =>
      clear H1 HX
      obtain ⟨m, v, rfl, rfl, hm, HS, HX⟩ := hrel
      have HBR := hide (HS.out.below HR.out HB.out HBS.out)
      have HSZ := hide (Nat.le_trans HBS.out HS.out.size)
      have b0 := HX.out.c0
      have b5 := HX.out.c5
      have b4 := HX.out.c4
      by_cases hlm : m < x.kids.length
      · have m1 : (m : Int) < (x.kids.length : Int) := by omega
        obtain ⟨y, hy⟩ : ∃ y, x.kids[m]? = some y := ⟨_, List.getElem?_eq_getElem hlm⟩
        have hyb := HAH.out y (List.mem_of_getElem? hy)
        obtain ⟨n, rfl⟩ : ∃ n : Nat, y = (n : Int) := ⟨y.toNat, by omega⟩
        have hnk2 : n < k := by omega
        obtain ⟨gk, rfl, hck⟩ := HKK.out m (intv (n : Int)) (by rw [List.getElem?_map, hy]; rfl)
        unfold intv at hck
        have HCK : Hid (∀ w', Below w0.heap.size w0 w' → w'.cell? (gk.add m) = some (.int .i64 n)) := fun w' hb' => (hb'.cell (block_lt_of_cell hck)).trans hck
        have e1 := HCK.out _ HBR.out
        obtain ⟨t, ht⟩ : ∃ t, x.names[m]? = some t := ⟨_, List.getElem?_eq_getElem (by rw [HNK.out]; exact hlm)⟩
        have htl := HNS.out t (List.mem_of_getElem? ht)
        obtain ⟨gn, rfl, hcn⟩ := HNN.out m (strv t) (by rw [List.getElem?_map, ht]; rfl)
        have HCN : Hid (∀ w', Below w0.heap.size w0 w' → w'.cell? (gn.add m) = some (.string ⟨t.toArray⟩)) := fun w' hb' => (hb'.cell (block_lt_of_cell hcn)).trans hcn
        have cN := HCN.out _ HBR.out
        have HN := hide (HNX.out m n t hy ht)
        have h2 : (kidsT f 0 (x.kids.take (m + 1))).length ≤ _ := HLE.out (m + 1)
        rw [HN.out] at h2
        simp only [List.length_append, List.length_cons, List.length_nil] at h2
        have HLL : Hid (bs.length + (1 + (kidsT f 0 (x.kids.take m)).length) + (if m = 0 then ([] : List UInt8) else [44]).length + (quoteM t).length + 1 + (writeF T fuel n).length ≤ 140737488000000) := by show _ ≤ _; omega
        clear hck hy hyb h2 hcn ht
        by_cases hm0 : m = 0
        · have m2 : ¬ (0 : Int) < (m : Int) := by omega
          rw [if_pos hm0] at HN HLL
          have HH := hide HS.out
          clear hm0
          go_wp2_with (first
            | (go_at_call 29; refine (rquote_any t htl HH.out.row (Nat.le_trans HBS.out HH.out.size) (by have := HLL.out; simp only [List.length_append, List.length_cons, List.length_nil] at this ⊢; omega)).mono ?_; rintro e w3 ⟨v3, rfl, h3⟩; have H3 := hide (HH.out.trans h3); have HX3 := hide (HX.out.step h3); clear h3)
            | (at_builtin; refine app_built (base := w0.heap.size) (.tmp 70) (.tmp 71) [58] rfl rfl rfl rfl H3.out.row (Nat.le_trans HBS.out H3.out.size) rfl rfl (by have := HLL.out; simp only [List.length_append, List.length_cons, List.length_nil] at this ⊢; omega) ?_; intro v4 w4 h4; have H4 := hide (H3.out.trans h4); have HX4 := hide (HX3.out.step h4); clear h4; have d5 := HX4.out.c5; have d1 := HCK.out _ (H4.out.below HR.out HB.out HBS.out))
            | (go_at_call 27; refine ((HIH.out n hnk2).use (H4.out.below HR.out HB.out HBS.out) H4.out.row (by have := HLL.out; simp only [List.length_append, List.length_cons, List.length_nil] at this ⊢; omega)).mono ?_; rintro e w7 ⟨v7, rfl, h7⟩; have H7 := hide (H4.out.trans h7); have HX7 := hide (HX4.out.step h7); clear h7))
          go_roundw
          case rel => exact ⟨m + 1, _, by go_num, rfl, by omega, by rw [HN.out]; exact hide (H7.out.eq (by simp)), HX7.out⟩
          case measure => simp [intOf]; omega
        · have m2 : (0 : Int) < (m : Int) := by omega
          rw [if_neg hm0] at HN HLL
          go_wp2_with (first
            | (go_at_call 29; refine (rquote_any t htl H2.out.row (Nat.le_trans HBS.out H2.out.size) (by have := HLL.out; simp only [List.length_append, List.length_cons, List.length_nil] at this ⊢; omega)).mono ?_; rintro e w3 ⟨v3, rfl, h3⟩; have H3 := hide (H2.out.trans h3); have HX3 := hide (HX2.out.step h3); clear h3)
            | (at_builtin; refine app_built (base := w0.heap.size) (.tmp 70) (.tmp 71) [58] rfl rfl rfl rfl H3.out.row (Nat.le_trans HBS.out H3.out.size) rfl rfl (by have := HLL.out; simp only [List.length_append, List.length_cons, List.length_nil] at this ⊢; omega) ?_; intro v4 w4 h4; have H4 := hide (H3.out.trans h4); have HX4 := hide (HX3.out.step h4); clear h4; have d5 := HX4.out.c5; have d1 := HCK.out _ (H4.out.below HR.out HB.out HBS.out))
            | (go_at_call 27; refine ((HIH.out n hnk2).use (H4.out.below HR.out HB.out HBS.out) H4.out.row (by have := HLL.out; simp only [List.length_append, List.length_cons, List.length_nil] at this ⊢; omega)).mono ?_; rintro e w7 ⟨v7, rfl, h7⟩; have H7 := hide (H4.out.trans h7); have HX7 := hide (HX4.out.step h7); clear h7)
            | (at_builtin; refine app_built (base := w0.heap.size) (.tmp 58) (.tmp 59) [44] rfl rfl rfl rfl HS.out.row HSZ.out rfl rfl (by have := HLL.out; simp only [List.length_append, List.length_cons, List.length_nil] at this ⊢; omega) ?_; intro v2 w2 h2; have H2 := hide (HS.out.trans h2); have HX2 := hide (HX.out.step h2); clear h2; have f0 := HX2.out.c0; have f5 := HX2.out.c5; have f4 := HX2.out.c4; have f1 := HCK.out _ (H2.out.below HR.out HB.out HBS.out); have fN := HCN.out _ (H2.out.below HR.out HB.out HBS.out)))
          go_roundw
          case rel => exact ⟨m + 1, _, by go_num, rfl, by omega, by rw [HN.out]; exact hide (H7.out.eq (by simp)), HX7.out⟩
          case measure => simp [intOf]; omega
      · have m1 : ¬ (m : Int) < (x.kids.length : Int) := by omega
        obtain rfl : m = x.kids.length := by omega
        rw [HAll.out] at HS
        go_wp2_with (first
          | (at_builtin; refine app_built (base := w0.heap.size) (.tmp 81) (.tmp 84) [125] rfl rfl rfl rfl HS.out.row HSZ.out rfl rfl (by simp only [List.length_append, List.length_cons, List.length_nil]; omega) ?_; intro v1 w1 h1; have H1 := hide (HS.out.trans h1); clear h1))
        go_ret
        exact ⟨_, rfl, H1.out⟩
theorem rwrite_all (E : TreeAt w0 (.slice ta T.length tc) T) (HO : Okay T) : ∀ (fuel k : Nat), k < T.length → k < fuel → RWriteC w0 (.slice ta T.length tc) T fuel k
  | 0, _, _, h => absurd h (Nat.not_lt_zero _)
  | fuel + 1, k, hk, h => rwrite_step E HO k hk fun j hj => rwrite_all E HO fuel j (by omega) (by omega)
end
end Go.Proofs.YtpffhckimilppaaDoor
