/-
  What show.write does of a tree whose kids stand ahead: the value's text behind the row.
-/
import Derived.Test.YtpffhckimilppaaDoorNumT
import Derived.Test.YtpffhckimilppaaDoorSpare
import Derived.Test.YtpffhckimilppaaDoorSmall3
import Derived.Lib.SmallJoins
namespace Go.Proofs.YtpffhckimilppaaDoor
open Go.RowKit
set_option maxRecDepth 100000

theorem gPow : Tryd.prog.globalNamed "internal/strconv.uint64pow10" = some 2 := by kernel_rfl
theorem Tab.later {w w' : World} (h : Tab w) (hb : Below w.heap.size w w') : Tab w' := Go.Joins.var_stays gPow h hb (Nat.le_refl _)
/-- The kids' texts, commas between. -/
def kidsT (f : Nat → Int → List UInt8) : Nat → List Int → List UInt8
  | _, [] => []
  | i, k :: ks => (if i = 0 then [] else [44]) ++ f i k ++ kidsT f (i + 1) ks
def valT (rec : Int → List UInt8) (x : VI) : List UInt8 :=
  if x.kind = 1 then [110, 117, 108, 108]
  else if x.kind = 2 then (if x.truth then [116, 114, 117, 101] else [102, 97, 108, 115, 101])
  else if x.kind = 3 then Lib.itoa x.num
  else if x.kind = 4 then quoteM x.text
  else if x.kind = 5 then [91] ++ kidsT (fun _ k => rec k) 0 x.kids ++ [93]
  else [123] ++ kidsT (fun i k => quoteM (x.names.getD i []) ++ [58] ++ rec k) 0 x.kids ++ [125]
/-- The text of the value at a place. -/
def writeF (T : List VI) : Nat → Int → List UInt8
  | 0, _ => []
  | n + 1, k => valT (writeF T n) (T.getD k.toNat {})
theorem kidsT_app (f : Nat → Int → List UInt8) : ∀ (i : Nat) (a b : List Int), kidsT f i (a ++ b) = kidsT f i a ++ kidsT f (i + a.length) b
  | i, [], b => by simp [kidsT]
  | i, k :: ks, b => by
    show _ ++ _ ++ kidsT f (i + 1) (ks ++ b) = (_ ++ _ ++ kidsT f (i + 1) ks) ++ _
    rw [kidsT_app f (i + 1) ks b]
    simp [Nat.add_comm, Nat.add_left_comm]
theorem kidsT_next (f : Nat → Int → List UInt8) {ks : List Int} {m : Nat} {k : Int} (h : ks[m]? = some k) : kidsT f 0 (ks.take (m + 1)) = kidsT f 0 (ks.take m) ++ ((if m = 0 then [] else [44]) ++ f m k) := by
  have hm : m < ks.length := (List.getElem?_eq_some_iff.1 h).1
  have e : ks.take (m + 1) = ks.take m ++ [k] := by rw [List.take_add_one, h]; rfl
  rw [e, kidsT_app]
  have e2 : (ks.take m).length = m := by rw [List.length_take]; omega
  rw [e2, Nat.zero_add]
  simp [kidsT]
theorem kidsT_le (f : Nat → Int → List UInt8) (ks : List Int) (m : Nat) : (kidsT f 0 (ks.take m)).length ≤ (kidsT f 0 ks).length := by
  have := kidsT_app f 0 (ks.take m) (ks.drop m)
  rw [List.take_append_drop] at this
  rw [this, List.length_append]; omega
/-- A tree as Check lets it pass, of strings that aren't too long. -/
structure Okay (T : List VI) : Prop where
  ahead : ∀ (i : Nat) x, T[i]? = some x → ∀ k ∈ x.kids, 0 ≤ k ∧ k < (i : Int)
  kinds : ∀ (i : Nat) x, T[i]? = some x → 1 ≤ x.kind ∧ x.kind ≤ 6
  named : ∀ (i : Nat) x, T[i]? = some x → x.kind = 6 → x.names.length = x.kids.length
  nums : ∀ (i : Nat) x, T[i]? = some x → -9223372036854775808 ≤ x.num ∧ x.num ≤ 9223372036854775807
  texts : ∀ (i : Nat) x, T[i]? = some x → x.text.length ≤ 17592186044416
  namesS : ∀ (i : Nat) x, T[i]? = some x → ∀ n ∈ x.names, n.length ≤ 17592186044416
/-- What a call of write owes. -/
def WriteC (w0 : World) (tv : Value) (T : List VI) (fuel : Nat) (k : Nat) : Prop := ∀ (w : World) (ov : Value) (bs : List UInt8), Below w0.heap.size w0 w → BRow w w0.heap.size ov bs → bs.length + (writeF T fuel k).length ≤ 140737488000000 →
  Calls Tryd.prog 26 #[ov, tv, .int .i64 k] w fun e w' => ∃ v', e = .returned v' ∧ Step w0.heap.size w ov bs w' v' (writeF T fuel k)
theorem WriteC.use {w0 : World} {tv : Value} {T : List VI} {fuel k : Nat} (h : WriteC w0 tv T fuel k) {w : World} {ov : Value} {bs : List UInt8} (h1 : Below w0.heap.size w0 w) (h2 : BRow w w0.heap.size ov bs) (h3 : bs.length + (writeF T fuel k).length ≤ 140737488000000) :
    Calls Tryd.prog 26 #[ov, tv, .int .i64 k] w fun e w' => ∃ v', e = .returned v' ∧ Step w0.heap.size w ov bs w' v' (writeF T fuel k) := h w ov bs h1 h2 h3
theorem row_ne {w : World} {base : Nat} {v : Value} {bs : List UInt8} (h : BRow w base v bs) : some w.heap.size ≠ v.ownBlock := fun e => by
  have := (h.lt _ e.symm).2; omega
theorem Step.from {base : Nat} {w w1 w2 : World} {v v2 : Value} {bs a : List UInt8} (hr : BRow w base v bs) (hb : Below w.heap.size w w1) (h : Step base w1 v bs w2 v2 a) : Step base w v bs w2 v2 a := by
  have q := Step.quiet hr hb
  have q2 : Step base w1 v (bs ++ []) w2 v2 a := by rw [List.append_nil]; exact h
  exact (q.trans q2).eq (List.nil_append _)
theorem Step.still {base : Nat} {w : World} {v : Value} {bs : List UInt8} (hr : BRow w base v bs) : Step base w v bs w v [] := Step.quiet hr (Below.refl _ _)
theorem comma_any {base : Nat} {w : World} {v : Value} {bs : List UInt8} (i : Nat) (hrow : BRow w base v bs) (hbs : base ≤ w.heap.size) (hl : bs.length + 8 ≤ 140737488355328) :
    Calls Tryd.prog 37 #[v, .int .i64 i] w fun e w' => ∃ v', e = .returned v' ∧ Step base w v bs w' v' (if i = 0 then [] else [44]) := by
  by_cases h : i = 0
  · subst h
    refine comma_zero.mono ?_
    rintro e w' ⟨rfl, rfl⟩
    exact ⟨v, rfl, Step.still hrow⟩
  · rw [if_neg h]; exact comma_more i h hrow hbs hl
theorem app_builtB {base B : Nat} {w : World} {ops : Array Oper} {rest : List Oper} {o : Oper} {a : Act} {Q : Exit → Act → World → Prop} (s x : Operand) (l : List UInt8) {arr : Array Value} {m c : Nat} {v : Value} {bs : List UInt8} (hB : w.heap.size = B)
    (hgd : o.guard = none) (ho : o.op = .call { callee := .builtin .append, args := #[s, x], argTypes := #[30, 30] })
    (hs : a.eval s = v) (hx : a.eval x = .slice (some ⟨B, 0, none⟩) m c) (hr : BRow w base v bs) (hbs : base ≤ w.heap.size) (hm : l.length = m) (harr : arr.toList = bytesV l) (hl : bs.length + m ≤ 140737488355328)
    (h : ∀ v' w', Step base w v bs w' v' l → wpList Tryd.prog ops Q rest (a.put o.dst v') w') : wpList Tryd.prog ops Q (o :: rest) a (w.alloc (.cells arr 5)) := by
  subst hB
  exact app_built s x l hgd ho hs hx hr hbs hm harr hl h
theorem moved_ne {B L : Nat} {g g' : Option Nat} (h : Moved B g g') (hL : L < B) (hne : some L ≠ g) : some L ≠ g' := by
  rcases h with e | ⟨k, e, hk⟩
  · rw [e]; exact hne
  · rw [e]; intro e2; injection e2 with e2; omega
theorem box_cell (w : World) (arr : Array Value) (j : Nat) (v : Value) (h : arr[j]? = some v) : (w.alloc (.cells arr 42)).cell? ⟨w.heap.size, j, none⟩ = some v := by
  rw [cell_of_row _ w.heap.size j _ _ _ (heap_alloc_new _ _)]; exact h
section
variable {w0 : World} {ta : Option Addr} {tc : Nat} {T : List VI} {fuel : Nat}
set_option maxHeartbeats 3200000 in
theorem write_step (E : TreeAt w0 (.slice ta T.length tc) T) (HO : Okay T) (hTab : Tab w0) (k : Nat) (hk : k < T.length) (ih : ∀ j, j < k → WriteC w0 (.slice ta T.length tc) T fuel j) : WriteC w0 (.slice ta T.length tc) T (fuel + 1) k := by
  intro w ov bs hb hrow hlen
  obtain ⟨x, hx⟩ : ∃ x, T[k]? = some x := ⟨_, List.getElem?_eq_getElem hk⟩
  have ew : writeF T (fuel + 1) k = valT (writeF T fuel) x := by
    show valT _ (T.getD ((k : Int).toNat) {}) = _
    rw [Int.toNat_natCast, List.getD, hx]; rfl
  rw [ew] at hlen ⊢
  obtain ⟨a, c, e0, hl, ha⟩ := E
  injection e0 with e0 e1 e2
  subst e0 e2
  obtain ⟨g, o, nv, kv, rfl, hva, hc⟩ := ha k x hx
  obtain ⟨c0, c1, c2, c3, c4, c5⟩ := six_cells (w := w) (o := o + k * 6) (fun j u hj => (hb.cell (block_lt_of_cell (hc j u hj))).trans (hc j u hj))
  obtain ⟨⟨na, nc, rfl, hnl, hnn⟩, ⟨ka, kc, rfl, hkl, hkk⟩⟩ := hva
  have hkl2 : x.kids.length ≤ 9223372036854775807 := by simpa using hkl
  have HAH := hide (HO.ahead k x hx)
  have HNM := hide (HO.named k x hx)
  obtain ⟨hk1, hk6⟩ := HO.kinds k x hx
  obtain ⟨n1, n2⟩ := HO.nums k x hx
  have ht1 := HO.texts k x hx
  have HNS := hide (HO.namesS k x hx)
  have i1 : (k : Int) < (T.length : Int) := by omega
  have hg1 : ¬ w.heap.size = g := World.new_ne w _ c0
  have HB := hide hb
  have HR := hide hrow
  have HBS := hide hb.size
  have HNN := hide hnn
  have HKK := hide hkk
  have HIH := hide ih
  have hb1 : ∀ obj, Below w0.heap.size w0 (w.alloc obj) := fun obj => hb.alloc hb.size obj
  clear hc ha hnn hkk ih hb hrow hl hnl hkl
  have hk123 : x.kind = 1 ∨ x.kind = 2 ∨ x.kind = 3 ∨ x.kind = 4 ∨ x.kind = 5 ∨ x.kind = 6 := by omega
  have HRA : Hid (∀ obj, BRow (w.alloc obj) w0.heap.size ov bs) := fun obj => HR.out.later (Nat.le_refl _) ((Below.refl _ _).alloc (Nat.le_refl _) _)
  have HSA : Hid (∀ obj, w0.heap.size ≤ (w.alloc obj).heap.size) := fun obj => Nat.le_trans HBS.out (by simp)
  have HF : Hid (∀ obj {w2 v2 a}, Step w0.heap.size (w.alloc obj) ov bs w2 v2 a → Step w0.heap.size w ov bs w2 v2 a) := fun obj _ _ _ h => Step.from HR.out ((Below.refl _ _).alloc (Nat.le_refl _) _) h
  have HTA : Hid (∀ obj, Tab (w.alloc obj)) := fun obj => (hTab.later HB.out).later ((Below.refl _ _).alloc (Nat.le_refl _) _)
  clear hTab
  rcases hk123 with hkd | hkd | hkd | hkd | hkd | hkd
  · rw [hkd] at c0
    rw [show valT (writeF T fuel) x = [110, 117, 108, 108] by unfold valT; rw [if_pos hkd]] at hlen ⊢
    simp only [List.length_cons, List.length_nil] at hlen
    clear hkd
    go_enter Tryd.func26, Tryd.ntmps26
    go_wp2_with (at_builtin; refine app_str _ _ [110, 117, 108, 108] rfl rfl rfl rfl (HRA.out _) (HSA.out _) (by simp; omega) ?_; intro v' w' h1; have H1 := hide (HF.out _ h1); clear h1)
    go_ret
    exact ⟨_, rfl, H1.out⟩
  · rw [hkd] at c0
    have e1 : valT (writeF T fuel) x = if x.truth then [116, 114, 117, 101] else [102, 97, 108, 115, 101] := by unfold valT; rw [if_neg (by omega), if_pos hkd]
    rw [e1] at hlen ⊢
    clear hkd e1 ew
    cases htr : x.truth
    all_goals
      rw [htr] at c1 hlen
      simp only [if_true, if_false, Bool.false_eq_true, List.length_cons, List.length_nil] at hlen ⊢
      go_enter Tryd.func26, Tryd.ntmps26
      go_wp2_with (first
        | (go_at_call 35; refine (truth_any _ _).mono ?_; rintro e w1 ⟨rfl, hw⟩; rw [hw]; clear hw)
        | (at_builtin; refine app_str _ _ [116, 114, 117, 101] rfl rfl rfl rfl (HRA.out _) (HSA.out _) (by simp; omega) ?_; intro v' w' h1; have H1 := hide (HF.out _ h1); clear h1)
        | (at_builtin; refine app_str _ _ [102, 97, 108, 115, 101] rfl rfl rfl rfl (HRA.out _) (HSA.out _) (by simp; omega) ?_; intro v' w' h1; have H1 := hide (HF.out _ h1); clear h1))
      go_ret
      exact ⟨_, rfl, H1.out⟩
  · rw [hkd] at c0
    have e1 : valT (writeF T fuel) x = Lib.itoa x.num := by unfold valT; rw [if_neg (by omega), if_neg (by omega), if_pos hkd]
    rw [e1] at hlen ⊢
    have hil := itoa_le x.num n1 n2
    clear hkd e1 ew
    generalize x.num = n at c2 n1 n2 hlen hil
    go_enter Tryd.func26, Tryd.ntmps26
    go_wp2_with (first
      | (go_at_call 36; refine (text_any n n1 n2 _ (HTA.out _)).mono ?_; rintro e w1 ⟨rfl, k2⟩; have HR1 := hide ((HRA.out _).later (Nat.le_refl _) k2); have HS1 := hide (Nat.le_trans (HSA.out _) k2.size); have HF1 := hide (fun w2 v2 a (h : Step w0.heap.size w1 ov bs w2 v2 a) => HF.out _ (Step.from (HRA.out _) k2 h)); clear k2)
      | (at_builtin; refine app_str _ _ (Lib.itoa n) rfl rfl rfl rfl HR1.out HS1.out (by omega) ?_; intro v' w' h1; have H1 := hide (HF1.out _ _ _ h1); clear h1))
    go_ret
    exact ⟨_, rfl, H1.out⟩
  · rw [hkd] at c0
    have e1 : valT (writeF T fuel) x = quoteM x.text := by unfold valT; rw [if_neg (by omega), if_neg (by omega), if_neg (by omega), if_pos hkd]
    rw [e1] at hlen ⊢
    clear hkd e1 ew
    generalize x.text = t at c3 ht1 hlen
    go_enter Tryd.func26, Tryd.ntmps26
    go_wp2_with (first
      | (go_at_call 16; refine (quote_any t ht1 _).mono ?_; rintro e w1 ⟨rfl, k2⟩; have HR1 := hide ((HRA.out _).later (Nat.le_refl _) k2); have HS1 := hide (Nat.le_trans (HSA.out _) k2.size); have HF1 := hide (fun w2 v2 a (h : Step w0.heap.size w1 ov bs w2 v2 a) => HF.out _ (Step.from (HRA.out _) k2 h)); clear k2)
      | (at_builtin; refine app_str _ _ (quoteM t) rfl rfl rfl rfl HR1.out HS1.out (by omega) ?_; intro v' w' h1; have H1 := hide (HF1.out _ _ _ h1); clear h1))
    go_ret
    exact ⟨_, rfl, H1.out⟩
  · rw [hkd] at c0
    have e1 : valT (writeF T fuel) x = [91] ++ kidsT (fun _ k => writeF T fuel k) 0 x.kids ++ [93] := by unfold valT; rw [if_neg (by omega), if_neg (by omega), if_neg (by omega), if_neg (by omega), if_pos hkd]
    rw [e1] at hlen ⊢
    simp only [List.length_append, List.length_cons, List.length_nil] at hlen
    have HNX : Hid (∀ (m : Nat) (y : Int), x.kids[m]? = some y → kidsT (fun _ k => writeF T fuel k) 0 (x.kids.take (m + 1)) = kidsT (fun _ k => writeF T fuel k) 0 (x.kids.take m) ++ ((if m = 0 then [] else [44]) ++ writeF T fuel y)) := fun m y h => kidsT_next (fun _ k => writeF T fuel k) h
    have HLE : Hid (∀ m : Nat, (kidsT (fun _ k => writeF T fuel k) 0 (x.kids.take m)).length ≤ (kidsT (fun _ k => writeF T fuel k) 0 x.kids).length) := fun m => kidsT_le _ _ m
    have HZ : Hid (kidsT (fun _ k => writeF T fuel k) 0 (x.kids.take 0) = []) := by show _ = _; rw [List.take_zero]; rfl
    have HAll : Hid (x.kids.take x.kids.length = x.kids) := List.take_length
    generalize (fun (_ : Nat) (k : Int) => writeF T fuel k) = f at hlen HNX HLE HZ ⊢
    clear hkd e1 ew
    go_enter Tryd.func26, Tryd.ntmps26
    go_wp2_with (first
      | (at_builtin; refine app_builtB (base := w0.heap.size) (.tmp 45) (.tmp 46) [91] (by simp) rfl rfl rfl rfl (HRA.out _) (HSA.out _) rfl rfl (by omega) ?_; intro v1 w1 h1; have H1 := hide (HF.out _ h1); have cK := (h1.cell (p := ⟨w.heap.size, 5, none⟩) (by simp) (row_ne HR.out)).trans (box_cell w _ 5 (.slice ka x.kids.length kc) rfl); clear h1))
    go_loopw [0, 51] (fun vo vi wr => ∃ (m : Nat) (v : Value), vi = .int .i64 m ∧ vo = v ∧ m ≤ x.kids.length ∧ Hid (Step w0.heap.size w ov bs wr v ([91] ++ kidsT f 0 (x.kids.take m)))) (fun _ vi _ => x.kids.length - (intOf vi).toNat)
    case atStart => exact ⟨0, _, rfl, rfl, Nat.zero_le _, by rw [HZ.out]; exact H1.out⟩
    case round =>
      clear H1 cK
      obtain ⟨m, v, rfl, rfl, hm, HS⟩ := hrel
      have HBR := hide (HS.out.below HR.out HB.out HBS.out)
      have HSZ := hide (Nat.le_trans HBS.out HS.out.size)
      by_cases hlm : m < x.kids.length
      · have m1 : (m : Int) < (x.kids.length : Int) := by omega
        obtain ⟨y, hy⟩ : ∃ y, x.kids[m]? = some y := ⟨_, List.getElem?_eq_getElem hlm⟩
        have hyb := HAH.out y (List.mem_of_getElem? hy)
        obtain ⟨n, rfl⟩ : ∃ n : Nat, y = (n : Int) := ⟨y.toNat, by omega⟩
        have hnk : n < k := by omega
        obtain ⟨gk, rfl, hck⟩ := HKK.out m (intv (n : Int)) (by rw [List.getElem?_map, hy]; rfl)
        have e1 := (HBR.out.cell (block_lt_of_cell hck)).trans hck
        unfold intv at e1
        have HN := hide (HNX.out m n hy)
        have h2 : (kidsT f 0 (x.kids.take (m + 1))).length ≤ _ := HLE.out (m + 1)
        rw [HN.out] at h2
        simp only [List.length_append] at h2
        have h3 : (if m = 0 then ([] : List UInt8) else [44]).length ≤ 1 := by split <;> simp
        have HLL : Hid (bs.length + (1 + (kidsT f 0 (x.kids.take m)).length) + (if m = 0 then ([] : List UInt8) else [44]).length + (writeF T fuel n).length ≤ 140737488000000) := by show _ ≤ _; omega
        clear hck hy hyb h2 h3
        go_wp2_with (first
          | (go_at_call 37; refine (comma_any m HS.out.row HSZ.out (by have := HLL.out; simp only [List.length_append, List.length_cons, List.length_nil]; omega)).mono ?_; rintro e w2 ⟨v2, rfl, h2⟩; have H2 := hide (HS.out.trans h2); clear h2)
          | (go_at_call 26; refine ((HIH.out n hnk).use (H2.out.below HR.out HB.out HBS.out) H2.out.row (by have := HLL.out; simp only [List.length_append, List.length_cons, List.length_nil] at this ⊢; omega)).mono ?_; rintro e w3 ⟨v3, rfl, h3⟩; have H3 := hide (H2.out.trans h3); clear h3))
        go_roundw
        case rel => exact ⟨m + 1, _, by go_num, rfl, by omega, by rw [HN.out]; exact hide (H3.out.eq (by simp))⟩
        case measure => simp [intOf]; omega
      · have m1 : ¬ (m : Int) < (x.kids.length : Int) := by omega
        obtain rfl : m = x.kids.length := by omega
        rw [HAll.out] at HS
        go_wp2_with (first
          | (at_builtin; refine app_built (base := w0.heap.size) (.tmp 63) (.tmp 64) [93] rfl rfl rfl rfl HS.out.row HSZ.out rfl rfl (by simp only [List.length_append, List.length_cons, List.length_nil]; omega) ?_; intro v1 w1 h1; have H1 := hide (HS.out.trans h1); clear h1))
        go_ret
        exact ⟨_, rfl, H1.out⟩
  · rw [hkd] at c0
    have e1 : valT (writeF T fuel) x = [123] ++ kidsT (fun i k => quoteM (x.names.getD i []) ++ [58] ++ writeF T fuel k) 0 x.kids ++ [125] := by unfold valT; rw [if_neg (by omega), if_neg (by omega), if_neg (by omega), if_neg (by omega), if_neg (by omega)]
    rw [e1] at hlen ⊢
    simp only [List.length_append, List.length_cons, List.length_nil] at hlen
    have hnk := HNM.out hkd
    simp only [List.length_map] at c4 c5
    rw [hnk] at c4
    have HNK := hide hnk
    clear hnk
    have HNX : Hid (∀ (m : Nat) (y : Int) (t : List UInt8), x.kids[m]? = some y → x.names[m]? = some t → kidsT (fun i k => quoteM (x.names.getD i []) ++ [58] ++ writeF T fuel k) 0 (x.kids.take (m + 1)) = kidsT (fun i k => quoteM (x.names.getD i []) ++ [58] ++ writeF T fuel k) 0 (x.kids.take m) ++ ((if m = 0 then [] else [44]) ++ (quoteM t ++ [58] ++ writeF T fuel y))) := fun m y t h h2 => by
      rw [kidsT_next (fun i k => quoteM (x.names.getD i []) ++ [58] ++ writeF T fuel k) h, List.getD, h2]; rfl
    have HLE : Hid (∀ m : Nat, (kidsT (fun i k => quoteM (x.names.getD i []) ++ [58] ++ writeF T fuel k) 0 (x.kids.take m)).length ≤ (kidsT (fun i k => quoteM (x.names.getD i []) ++ [58] ++ writeF T fuel k) 0 x.kids).length) := fun m => kidsT_le _ _ m
    have HZ0 : Hid (kidsT (fun i k => quoteM (x.names.getD i []) ++ [58] ++ writeF T fuel k) 0 (x.kids.take 0) = []) := by show _ = _; rw [List.take_zero]; rfl
    have HAll : Hid (x.kids.take x.kids.length = x.kids) := List.take_length
    generalize (fun (i : Nat) (k : Int) => quoteM (x.names.getD i []) ++ [58] ++ writeF T fuel k) = f at hlen HNX HLE HZ0 ⊢
    have hent37 : ∀ args w, (callFunc 37 args).run Tryd.prog w = .ok (.enter 37 args) w := enters_of Tryd.func37 (by kernel_rfl) rfl
    have hent16 : ∀ args w, (callFunc 16 args).run Tryd.prog w = .ok (.enter 16 args) w := enters_of Tryd.func16 (by kernel_rfl) rfl
    clear hkd e1 ew
    go_enter Tryd.func26, Tryd.ntmps26
    go_wp2_with (first
      | (at_builtin; refine app_builtB (base := w0.heap.size) (.tmp 66) (.tmp 67) [123] (by simp) rfl rfl rfl rfl (HRA.out _) (HSA.out _) rfl rfl (by omega) ?_; intro v1 w1 h1; have H1 := hide (HF.out _ h1); have cK := (h1.cell (p := ⟨w.heap.size, 5, none⟩) (by simp) (row_ne HR.out)).trans (box_cell w _ 5 (.slice ka x.kids.length kc) rfl); have HBX := hide ((h1.cell (p := ⟨w.heap.size, 4, none⟩) (by simp) (row_ne HR.out)).trans (box_cell w _ 4 (.slice na x.kids.length nc) rfl)); have HW1 := hide (show w.heap.size < w1.heap.size from Nat.lt_of_lt_of_le (by simp) h1.size); have HV1 := hide (show some w.heap.size ≠ v1.ownBlock from moved_ne h1.moved (by simp) (row_ne HR.out)); clear h1))
    go_loopw [0, 72] (fun vo vi wr => ∃ (m : Nat) (v : Value), vi = .int .i64 m ∧ v = vo ∧ m ≤ x.kids.length ∧ Hid (Step w0.heap.size w ov bs wr v ([123] ++ kidsT f 0 (x.kids.take m))) ∧ Hid (wr.cell? ⟨w.heap.size, 4, none⟩ = some (.slice na x.kids.length nc)) ∧ Hid (some w.heap.size ≠ v.ownBlock) ∧ Hid (w.heap.size < wr.heap.size)) (fun _ vi _ => x.kids.length - (intOf vi).toNat)
    case atStart => exact ⟨0, _, rfl, rfl, Nat.zero_le _, by rw [HZ0.out]; exact H1.out, HBX.out, HV1.out, HW1.out⟩
    case round =>
      clear H1 cK HBX HW1 HV1
      obtain ⟨m, v, rfl, rfl, hm, HS, HBX, HVN, HWL⟩ := hrel
      have HBR := hide (HS.out.below HR.out HB.out HBS.out)
      have HSZ := hide (Nat.le_trans HBS.out HS.out.size)
      by_cases hlm : m < x.kids.length
      · have m1 : (m : Int) < (x.kids.length : Int) := by omega
        obtain ⟨y, hy⟩ : ∃ y, x.kids[m]? = some y := ⟨_, List.getElem?_eq_getElem hlm⟩
        obtain ⟨t, ht⟩ : ∃ t, x.names[m]? = some t := ⟨_, List.getElem?_eq_getElem (by rw [HNK.out]; exact hlm)⟩
        have htl := HNS.out t (List.mem_of_getElem? ht)
        have hyb := HAH.out y (List.mem_of_getElem? hy)
        obtain ⟨n, rfl⟩ : ∃ n : Nat, y = (n : Int) := ⟨y.toNat, by omega⟩
        have hnk2 : n < k := by omega
        obtain ⟨gk, rfl, hck⟩ := HKK.out m (intv (n : Int)) (by rw [List.getElem?_map, hy]; rfl)
        obtain ⟨gn, rfl, hcn⟩ := HNN.out m (strv t) (by rw [List.getElem?_map, ht]; rfl)
        have e1 := (HBR.out.cell (block_lt_of_cell hck)).trans hck
        unfold intv at e1
        have HCN : Hid (∀ w', Below w0.heap.size w0 w' → w'.cell? (gn.add m) = some (.string ⟨t.toArray⟩)) := fun w' hb' => (hb'.cell (block_lt_of_cell hcn)).trans hcn
        have cN := HCN.out _ HBR.out
        have cB := HBX.out
        have HN := hide (HNX.out m n t hy ht)
        have h2 : (kidsT f 0 (x.kids.take (m + 1))).length ≤ _ := HLE.out (m + 1)
        rw [HN.out] at h2
        simp only [List.length_append, List.length_cons, List.length_nil] at h2
        have h3 : (if m = 0 then ([] : List UInt8) else [44]).length ≤ 1 := by split <;> simp
        have HLL : Hid (bs.length + (1 + (kidsT f 0 (x.kids.take m)).length) + (if m = 0 then ([] : List UInt8) else [44]).length + (quoteM t).length + 1 + (writeF T fuel n).length ≤ 140737488000000) := by show _ ≤ _; omega
        obtain ⟨acc, hacc⟩ : ∃ acc, bs ++ ([123] ++ kidsT f 0 (x.kids.take m)) = acc := ⟨_, rfl⟩
        have hal : bs.length + (1 + (kidsT f 0 (x.kids.take m)).length) = acc.length := by rw [← hacc]; simp only [List.length_append, List.length_cons, List.length_nil]
        rw [hal] at HLL
        have HROW : Hid (BRow wr w0.heap.size v acc) := by show BRow _ _ _ _; rw [← hacc]; exact HS.out.row
        obtain ⟨cm, hcm⟩ : ∃ cm, (if m = 0 then ([] : List UInt8) else [44]) = cm := ⟨_, rfl⟩
        rw [hcm] at HLL h3 HN
        have HCOM : Hid (∀ (w' : World), BRow w' w0.heap.size v acc → w0.heap.size ≤ w'.heap.size → Calls Tryd.prog 37 #[v, .int .i64 m] w' fun e w'' => ∃ v', e = .returned v' ∧ Step w0.heap.size w' v acc w'' v' cm) := fun w' h1 h2 => by rw [← hcm]; exact comma_any m h1 h2 (by have := HLL.out; omega)
        have HQUO : Hid (∀ (w' : World), Calls Tryd.prog 16 #[.string ⟨t.toArray⟩] w' fun e w'' => ∃ v', e = .returned v' ∧ (v' = .string ⟨(quoteM t).toArray⟩ ∧ Below w'.heap.size w' w'')) := fun w' => (quote_any t htl w').mono fun e w'' ⟨h1, h2⟩ => ⟨_, h1, rfl, h2⟩
        have HTOT : Hid (∀ (w' : World) (v' : Value) (a : List UInt8), Step w0.heap.size wr v acc w' v' a → Step w0.heap.size w ov bs w' v' (([123] ++ kidsT f 0 (x.kids.take m)) ++ a)) := fun w' v' a h => by
          rw [← hacc] at h; exact HS.out.trans h
        have HDR := hide (HROW.out.later (Nat.le_refl _) (Below.refl _ _).drew)
        clear hck hcn hy ht hyb h2 hcm
        go_wp2
        go_region_law (first
          | (refine step_str _ _ (quoteM t) rfl rfl rfl rfl HZ.out.row (Nat.le_trans HSZ.out HZ.out.size) (by have := HLL.out; simp only [List.length_append]; omega) ?_; intro v5 w5 h5; have H5 := hide (HZ.out.trans h5); clear h5)
          | (refine step_call2 rfl 37 (.tmp 77) (.tmp 78) 30 3 rfl hent37 v (.int .i64 m) rfl rfl (HCOM.out _ (HROW.out.later (Nat.le_refl _) HQ.out) (Nat.le_trans HSZ.out HQ.out.size)) ?_; rintro v3 w3 h3; have HZ := hide (Step.from HROW.out HQ.out h3); clear h3)
          | (refine step_call rfl 16 (.tmp 84) 9 rfl hent16 (.string ⟨t.toArray⟩) rfl (HQUO.out _) ?_; rintro v3 w3 ⟨rfl, h3⟩; have HZ := hide ((H2.out.trans (Step.quiet H2.out.row h3)).eq (List.append_nil _)); clear h3)
          | (refine step_call2 rfl 37 (.tmp 77) (.tmp 78) 30 3 rfl hent37 v (.int .i64 m) rfl rfl (HCOM.out _ HDR.out HSZ.out) ?_; rintro v2 w2 h2; have H2 := hide (Step.from HROW.out (Below.refl _ _).drew h2); have cN2 := HCN.out _ (H2.out.below HROW.out HBR.out HSZ.out); have cB2 := (H2.out.cell (p := ⟨w.heap.size, 4, none⟩) HWL.out HVN.out).trans HBX.out; clear h2)
          | (refine step_call rfl 16 (.tmp 84) 9 rfl hent16 (.string ⟨t.toArray⟩) rfl (HQUO.out _) ?_; rintro v2 w2 ⟨rfl, h2⟩; have HQ := hide ((Below.refl wr.heap.size wr).drew.trans h2); clear h2))
        all_goals
          go_wp2_with (first
            | (at_builtin; refine app_built (base := w0.heap.size) (.tmp 87) (.tmp 88) [58] rfl rfl rfl rfl H5.out.row (Nat.le_trans HSZ.out H5.out.size) rfl rfl (by have := HLL.out; simp only [List.length_append]; omega) ?_; intro v6 w6 h6; have H6 := hide (H5.out.trans h6); clear h6)
            | (go_at_call 26; refine ((HIH.out n hnk2).use (H6.out.below HROW.out HBR.out HSZ.out) H6.out.row (by have := HLL.out; simp only [List.length_append, List.length_cons, List.length_nil] at this ⊢; omega)).mono ?_; rintro e w7 ⟨v7, rfl, h7⟩; have H7 := hide (H6.out.trans h7); clear h7))
          go_roundw
          case rel => exact ⟨m + 1, _, by go_num, rfl, by omega, by rw [HN.out]; exact hide ((HTOT.out _ _ _ H7.out).eq (by simp)), (H7.out.cell (p := ⟨w.heap.size, 4, none⟩) HWL.out HVN.out).trans HBX.out, moved_ne H7.out.moved HWL.out HVN.out, Nat.lt_of_lt_of_le HWL.out H7.out.size⟩
          case measure => simp [intOf]; omega
      · have m1 : ¬ (m : Int) < (x.kids.length : Int) := by omega
        obtain rfl : m = x.kids.length := by omega
        rw [HAll.out] at HS
        go_wp2_with (first
          | (at_builtin; refine app_built (base := w0.heap.size) (.tmp 94) (.tmp 95) [125] rfl rfl rfl rfl HS.out.row HSZ.out rfl rfl (by simp only [List.length_append, List.length_cons, List.length_nil]; omega) ?_; intro v1 w1 h1; have H1 := hide (HS.out.trans h1); clear h1))
        go_ret
        exact ⟨_, rfl, H1.out⟩
theorem write_all (E : TreeAt w0 (.slice ta T.length tc) T) (HO : Okay T) (hTab : Tab w0) : ∀ (fuel k : Nat), k < T.length → k < fuel → WriteC w0 (.slice ta T.length tc) T fuel k
  | 0, _, _, h => absurd h (Nat.not_lt_zero _)
  | fuel + 1, k, hk, h => write_step E HO hTab k hk fun j hj => write_all E HO hTab fuel j (by omega) (by omega)
end
end Go.Proofs.YtpffhckimilppaaDoor
