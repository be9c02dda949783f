/-
  Several texts in one.
-/
import Derived.Test.YtpffhckimilppaaDoorChk
import Derived.Test.YtpffhckimilppaaDoorCopied
import Derived.Test.YtpffhckimilppaaDoorAwakeS
import Derived.Test.YtpffhckimilppaaDoorTreeIn
import Derived.Test.YtpffhckimilppaaDoorRQuo
import Derived.Test.YtpffhckimilppaaDoorJModel
import Derived.Lib.ValidLaws
import Derived.Test.YtpffhckimilppaaDoorJTree
import Derived.Deep.RegionHeld
import Derived.Test.YtpffhckimilppaaDoorJParse
/-  How long the text of a tree is at most. -/
namespace Go.Proofs.YtpffhckimilppaaDoor
open Go.RowKit
set_option maxRecDepth 100000

theorem quoteFrom_le (s : ByteArray) : ∀ f p, (quoteFrom s f p).length ≤ 6 * f
  | 0, _ => by simp [quoteFrom]
  | f + 1, p => by
    unfold quoteFrom
    split
    · rw [List.length_append]
      have h1 := letterM_le (Utf8.decode s p).1
      have h2 := quoteFrom_le s f (p + (Utf8.decode s p).2)
      omega
    · simp
theorem quoteM_le (l : List UInt8) : (quoteM l).length ≤ 6 * l.length + 2 := by
  unfold quoteM
  simp only [List.length_append, List.length_cons, List.length_nil]
  have := quoteFrom_le ⟨l.toArray⟩ l.length 0
  omega
/-- Values and letters of a value. -/
def vb (x : VI) : Nat := x.text.length + (x.names.map fun s => s.length + 1).sum + x.kids.length
theorem kidsT_plain (r : Int → List UInt8) : ∀ (ks : List Int) (i : Nat), (kidsT (fun _ k => r k) i ks).length ≤ ks.length + (ks.map fun k => (r k).length).sum
  | [], i => by simp [kidsT]
  | k :: ks, i => by
    have h := kidsT_plain r ks (i + 1)
    have h3 : (if i = 0 then ([] : List UInt8) else [44]).length ≤ 1 := by split <;> simp
    simp only [kidsT, List.length_append, List.map_cons, List.sum_cons, List.length_cons]
    omega
theorem kidsT_named (r : Int → List UInt8) (ns : List (List UInt8)) : ∀ (ks : List Int) (i : Nat), (kidsT (fun i k => quoteM (ns.getD i []) ++ [58] ++ r k) i ks).length ≤ 4 * ks.length + 6 * ((ns.drop i).map fun s => s.length + 1).sum + (ks.map fun k => (r k).length).sum
  | [], i => by simp [kidsT]
  | k :: ks, i => by
    have h := kidsT_named r ns ks (i + 1)
    have h3 : (if i = 0 then ([] : List UInt8) else [44]).length ≤ 1 := by split <;> simp
    have h4 := quoteM_le (ns.getD i [])
    have h5 : (ns.getD i []).length + ((ns.drop (i + 1)).map fun s => s.length + 1).sum ≤ ((ns.drop i).map fun s => s.length + 1).sum := by
      by_cases hi : i < ns.length
      · rw [List.drop_eq_getElem_cons hi, List.map_cons, List.sum_cons, List.getD, List.getElem?_eq_getElem hi]
        simp only [Option.getD_some]
        omega
      · rw [List.drop_eq_nil_of_le (show ns.length ≤ i + 1 by omega), List.getD, List.getElem?_eq_none (by omega)]
        simp
    simp only [kidsT, List.length_append, List.map_cons, List.sum_cons, List.length_cons, List.length_nil]
    omega
theorem valT_le (r : Int → List UInt8) (x : VI) (h1 : -9223372036854775808 ≤ x.num) (h2 : x.num ≤ 9223372036854775807) : (valT r x).length ≤ 10 * vb x + 30 + (x.kids.map fun k => (r k).length).sum := by
  unfold valT vb
  split
  · simp; omega
  · split
    · split <;> simp <;> omega
    · split
      · have := itoa_le x.num h1 h2
        omega
      · split
        · have := quoteM_le x.text; omega
        · split
          · have := kidsT_plain r x.kids 0
            simp only [List.length_append, List.length_cons, List.length_nil]
            omega
          · have := kidsT_named r x.names x.kids 0
            simp only [List.drop_zero] at this
            simp only [List.length_append, List.length_cons, List.length_nil]
            omega
theorem kidsT_congr {f g : Nat → Int → List UInt8} : ∀ {ks : List Int} {i : Nat}, (∀ j, ∀ k ∈ ks, f j k = g j k) → kidsT f i ks = kidsT g i ks
  | [], i, _ => rfl
  | k :: ks, i, h => by
    show _ ++ f i k ++ _ = _ ++ g i k ++ _
    rw [h i k (by simp), kidsT_congr (ks := ks) (i := i + 1) fun j k hk => h j k (by simp [hk])]
theorem valT_congr {r r' : Int → List UInt8} {x : VI} (h : ∀ k ∈ x.kids, r k = r' k) : valT r x = valT r' x := by
  unfold valT
  rw [kidsT_congr (f := fun _ k => r k) (g := fun _ k => r' k) fun _ k hk => h k hk, kidsT_congr (f := fun i k => quoteM (x.names.getD i []) ++ [58] ++ r k) (g := fun i k => quoteM (x.names.getD i []) ++ [58] ++ r' k) fun j k hk => by rw [h k hk]]
section
variable {T : List VI}
theorem ahead_getD (ha : ∀ (i : Nat) x, T[i]? = some x → ∀ k ∈ x.kids, 0 ≤ k ∧ k < (i : Int)) (i : Nat) : ∀ k ∈ (T.getD i {}).kids, 0 ≤ k ∧ k < (i : Int) := by
  intro k hk
  rw [List.getD] at hk
  cases h : T[i]? with
  | none => rw [h] at hk; simp at hk
  | some x => rw [h] at hk; exact ha i x h k hk
theorem writeF_fuel (ha : ∀ (i : Nat) x, T[i]? = some x → ∀ k ∈ x.kids, 0 ≤ k ∧ k < (i : Int)) : ∀ (f g : Nat) (k : Int), 0 ≤ k → k < (f : Int) → k < (g : Int) → writeF T f k = writeF T g k
  | 0, _, _, _, h, _ => by omega
  | _ + 1, 0, _, _, _, h => by omega
  | f + 1, g + 1, k, h0, h1, h2 => by
    show valT _ _ = valT _ _
    refine valT_congr fun y hy => ?_
    have := ahead_getD ha k.toNat y hy
    exact writeF_fuel ha f g y (by omega) (by omega) (by omega)
end
def sumTo (g : Nat → Nat) : Nat → Nat
  | 0 => 0
  | n + 1 => sumTo g n + g n
theorem sumTo_add (g h : Nat → Nat) : ∀ n, sumTo (fun i => g i + h i) n = sumTo g n + sumTo h n
  | 0 => rfl
  | n + 1 => by simp only [sumTo, sumTo_add g h n]; omega
theorem sumTo_le {g h : Nat → Nat} : ∀ {n : Nat}, (∀ i, i < n → g i ≤ h i) → sumTo g n ≤ sumTo h n
  | 0, _ => Nat.le_refl _
  | n + 1, hh => Nat.add_le_add (sumTo_le fun i hi => hh i (by omega)) (hh n (by omega))
theorem sumTo_zero : ∀ n, sumTo (fun _ => 0) n = 0
  | 0 => rfl
  | n + 1 => by simp only [sumTo, sumTo_zero n]
theorem sumTo_one (f : Nat → Nat) (k : Nat) : ∀ n, k < n → f k ≤ sumTo (fun i => if i = k then f i else 0) n
  | 0, h => by omega
  | n + 1, h => by
    by_cases e : n = k
    · subst e; simp [sumTo]
    · have := sumTo_one f k n (by omega)
      simp only [sumTo]; omega
/-- A sum over places, each met as often as it is counted. -/
theorem sum_counts (f : Nat → Nat) (N : Nat) : ∀ (l : List Int), (∀ k ∈ l, 0 ≤ k ∧ k < (N : Int)) → (l.map fun k => f k.toNat).sum ≤ sumTo (fun i => l.count (i : Int) * f i) N
  | [], _ => by simp
  | k :: l, h => by
    have ih := sum_counts f N l fun y hy => h y (by simp [hy])
    obtain ⟨k0, k1⟩ := h k (by simp)
    have e := sumTo_one f k.toNat N (by omega)
    have a := sumTo_add (fun i => l.count (i : Int) * f i) (fun i => if i = k.toNat then f i else 0) N
    have b : sumTo (fun i => l.count (i : Int) * f i + if i = k.toNat then f i else 0) N ≤ sumTo (fun i => (k :: l).count (i : Int) * f i) N := sumTo_le fun i _ => by
      rw [List.count_cons]
      by_cases hk : i = k.toNat
      · rw [if_pos hk, if_pos (by simp; omega), Nat.add_mul, Nat.one_mul]; exact Nat.le_refl _
      · rw [if_neg hk, if_neg (by simp; omega)]; exact Nat.le_refl _
    simp only [List.map_cons, List.sum_cons]
    omega
theorem sums_kids (L : Nat → Nat) (C : Nat) {T : List VI} (h : ∀ (i : Nat) x, T[i]? = some x → L i ≤ C + (x.kids.map fun k => L k.toNat).sum) : ∀ m, m ≤ T.length → sumTo L m ≤ m * C + ((((T.take m).map VI.kids).flatten).map fun k => L k.toNat).sum
  | 0, _ => by simp [sumTo]
  | m + 1, hm => by
    have ih := sums_kids L C h m (by omega)
    obtain ⟨x, hx⟩ : ∃ x, T[m]? = some x := ⟨_, List.getElem?_eq_getElem (by omega)⟩
    have hl := h m x hx
    have e : T.take (m + 1) = T.take m ++ [x] := by rw [List.take_add_one, hx]; rfl
    rw [e]
    simp only [List.map_append, List.map_cons, List.map_nil, List.flatten_append, List.flatten_cons, List.flatten_nil, List.append_nil, List.sum_append, sumTo, Nat.add_mul, Nat.one_mul]
    omega
/-- A tree of values each of which is of bulk 1048576 at most has no long text. -/
theorem text_le {T : List VI} (hs : Sml T) (hb : ∀ x ∈ T, vb x ≤ 1048576) : (textM T).length ≤ 140737487000000 := by
  unfold textM
  split
  · rename_i hc
    have ho := okay_of hs hc
    unfold checkE at hc
    split at hc
    · cases hc
    · rename_i h0
      split at hc
      · cases hc
      · rename_i h8
        split at hc
        · rename_i hj
          obtain ⟨hin, hct⟩ := (joined_iff (K := T.map VI.kids) (by intro e; apply h0; simpa using congrArg List.length e)).1 hj.1
          have hall := hin.all
          rw [List.length_map] at hct hall
          obtain ⟨n, hn⟩ : ∃ n, T.length = n + 1 := ⟨T.length - 1, by omega⟩
          have hk : ∀ (i : Nat) x, T[i]? = some x → (writeF T (i + 1) i).length ≤ 10485790 + (x.kids.map fun k => (writeF T (k.toNat + 1) (k.toNat : Int)).length).sum := fun i x hx => by
            have e : writeF T (i + 1) i = valT (writeF T i) x := by
              show valT _ (T.getD ((i : Int).toNat) {}) = _
              rw [Int.toNat_natCast, List.getD, hx]; rfl
            have hx2 := List.mem_of_getElem? hx
            have h1 := valT_le (writeF T i) x (hs.nums x hx2).1 (hs.nums x hx2).2
            have h2 := hb x hx2
            have h3 : (x.kids.map fun k => (writeF T i k).length) = x.kids.map fun k => (writeF T (k.toNat + 1) (k.toNat : Int)).length := List.map_congr_left fun k hk => by
              have := ho.ahead i x hx k hk
              rw [show ((k.toNat : Nat) : Int) = k by omega, writeF_fuel ho.ahead i (k.toNat + 1) k (by omega) (by omega) (by omega)]
            rw [e]
            rw [h3] at h1
            omega
          have h1 := sums_kids (fun i => (writeF T (i + 1) i).length) 10485790 hk T.length (Nat.le_refl _)
          rw [List.take_length] at h1
          have h2 := sum_counts (fun i => (writeF T (i + 1) i).length) n (T.map VI.kids).flatten (fun k hk => by have := hall k hk; omega)
          have h3 : sumTo (fun i => (T.map VI.kids).flatten.count (i : Int) * (writeF T (i + 1) i).length) n ≤ sumTo (fun i => (writeF T (i + 1) i).length) n := sumTo_le fun i hi => by
            rw [hct i (by omega), Nat.one_mul]; exact Nat.le_refl _
          have h4 : sumTo (fun i => (writeF T (i + 1) i).length) T.length = sumTo (fun i => (writeF T (i + 1) i).length) n + (writeF T (n + 1) n).length := by rw [hn]; rfl
          have h5 : writeF T T.length ((T.length : Int) - 1) = writeF T (n + 1) n := by rw [hn, show (((n + 1 : Nat) : Int) - 1) = (n : Int) by omega]
          rw [h5]
          have h6 : T.length * 10485790 ≤ 8192 * 10485790 := Nat.mul_le_mul_right _ (by omega)
          omega
        · cases hc
  · simp
end Go.Proofs.YtpffhckimilppaaDoor
/-  What is known of a tree of small bulk. -/
namespace Go.Proofs.YtpffhckimilppaaDoor
open Go.RowKit
set_option maxRecDepth 100000
/-- What is known of a value of a tree of small bulk. -/
structure InB (x : VI) : Prop where
  bulk : vb x ≤ 1048576
  num : -9223372036854775808 ≤ x.num ∧ x.num ≤ 9223372036854775807
theorem sum_mem {ns : List (List UInt8)} {s : List UInt8} (h : s ∈ ns) : s.length ≤ (ns.map fun s => s.length + 1).sum := by
  induction ns with
  | nil => cases h
  | cons y r ih =>
    rw [List.map_cons, List.sum_cons]
    rcases List.mem_cons.1 h with rfl | h
    · omega
    · have := ih h; omega
theorem sum_len (ns : List (List UInt8)) : ns.length ≤ (ns.map fun s => s.length + 1).sum := by
  induction ns with
  | nil => simp
  | cons y r ih => rw [List.map_cons, List.sum_cons, List.length_cons]; omega
section
variable {T : List VI}
theorem smlB (hi : ∀ x ∈ T, InB x) : Sml T := ⟨fun x hx => (hi x hx).num, fun x hx => by have := (hi x hx).bulk; unfold vb at this; omega, fun x hx n hn => by have := (hi x hx).bulk; unfold vb at this; have := sum_mem hn; omega⟩
theorem szKB (hi : ∀ x ∈ T, InB x) : ∀ x ∈ T, SzK x := fun x hx => ⟨by have := (hi x hx).bulk; unfold vb at this; have := sum_len x.names; omega, by have := (hi x hx).bulk; unfold vb at this; omega⟩
theorem kidB (hi : ∀ x ∈ T, InB x) : ∀ x ∈ T, x.kids.length ≤ 17592186044416 := fun x hx => by have := (hi x hx).bulk; unfold vb at this; omega
theorem lenB (hi : ∀ x ∈ T, InB x) : (textM T).length ≤ 140737487000000 := text_le (smlB hi) fun x hx => (hi x hx).bulk
end
end Go.Proofs.YtpffhckimilppaaDoor
/-  Opens an argument that is a tree of small bulk. -/
namespace Go.Proofs.YtpffhckimilppaaDoor
open Go.ChangeShapes Go.WideShapes Go.ChangeAt Go.WideMaps Go.WideElems Go.RowKit Go.Deep
set_option maxRecDepth 100000
section
variable {H : Type} {enc : TypeId × Value → H} {W : World}
theorem bulk_ints (zs : List Int) : Rows.uptoBulkAll (lits (H := H) .i64 zs) = zs.length := by
  induction zs with
  | nil => rfl
  | cons z t ih => simp only [lits, List.map_cons, Rows.uptoBulkAll, Rows.uptoBulk, List.length_cons] at ih ⊢; omega
theorem bulk_strs (ss : List ByteArray) : Rows.uptoBulkAll (strs (H := H) ss) = ((ss.map fun s => s.data.toList).map fun s => s.length + 1).sum := by
  induction ss with
  | nil => rfl
  | cons z t ih => simp only [strs, List.map_cons, Rows.uptoBulkAll, Rows.uptoBulk, List.sum_cons] at ih ⊢; omega
theorem bulk_mem {d : DataW H} : ∀ {l : List (DataW H)}, d ∈ l → Rows.uptoBulk d ≤ Rows.uptoBulkAll l
  | [], h => by cases h
  | y :: r, h => by
    simp only [Rows.uptoBulkAll]
    rcases List.mem_cons.1 h with rfl | h
    · omega
    · have := bulk_mem h; omega
theorem open_namesB {n : Nat} {v : Value} {y : DataW H × List MemPlace} (h : DataW.trod enc Tryd.prog W 0 (fun _ => true) true n 39 [v] = some y) :
    ∃ ns : List (List UInt8), SlAt W v (ns.map strv) ∧ (ns.map fun s => s.length + 1).sum ≤ Rows.uptoBulk y.1 := by
  rcases open_strings Tryd.underlying39 Tryd.underlying9 cells9 h with ⟨hcs, _⟩ | ⟨a, len, cap, ss, hcs, _, hl, hm, hz, hx, hcell, hwz⟩
  · cases hcs
    exact ⟨[], ⟨none, 0, rfl, by simp, fun j u h => by simp at h⟩, by simp⟩
  · cases hcs
    simp only [if_true] at hz
    have hlen : ((ss.take len).map fun s => s.data.toList).length = len := by rw [List.length_map, List.length_take]; omega
    have hy : y.1 = .slice (strs (ss.take len)) (strs (ss.drop len)) := congrArg Prod.fst hx
    unfold maxLen at hm
    refine ⟨(ss.take len).map fun s => s.data.toList, ⟨some a, cap, by rw [List.length_map, hlen], by rw [List.length_map, hlen]; omega, fun j u hu => ⟨a, rfl, ?_⟩⟩, ?_⟩
    · have hj : j < len := by
        have := (List.getElem?_eq_some_iff.1 hu).1
        rw [List.length_map, hlen] at this; exact this
      rw [hcell j (by omega)]
      rw [List.getElem?_map, List.getElem?_map, List.getElem?_take, if_pos hj, List.getElem?_eq_getElem (by omega)] at hu
      simp [strv] at hu
      rw [← hu]
      simp [List.getD, show j < ss.length by omega]
    · rw [hy]
      simp only [Rows.uptoBulk, bulk_strs]
      omega
theorem open_kidsB {n : Nat} {v : Value} {y : DataW H × List MemPlace} (h : DataW.trod enc Tryd.prog W 0 (fun _ => true) true n 40 [v] = some y) :
    ∃ ks : List Int, SlAt W v (ks.map intv) ∧ ks.length ≤ Rows.uptoBulk y.1 := by
  rcases open_ints Tryd.underlying40 Tryd.underlying3 cells3 h with ⟨hcs, _⟩ | ⟨a, len, cap, zs, hcs, _, hl, hm, hz, hx, hcell, hwz⟩
  · cases hcs
    exact ⟨[], ⟨none, 0, rfl, by simp, fun j u h => by simp at h⟩, by simp⟩
  · cases hcs
    simp only [if_true] at hz
    have hlen : (zs.take len).length = len := by rw [List.length_take]; omega
    have hy : y.1 = .slice (lits .i64 (zs.take len)) (lits .i64 (zs.drop len)) := congrArg Prod.fst hx
    unfold maxLen at hm
    refine ⟨zs.take len, ⟨some a, cap, by rw [List.length_map, hlen], by rw [List.length_map, hlen]; omega, fun j u hu => ⟨a, rfl, ?_⟩⟩, ?_⟩
    · have hj : j < len := by
        have := (List.getElem?_eq_some_iff.1 hu).1
        rw [List.length_map, hlen] at this; exact this
      rw [hcell j (by omega)]
      rw [List.getElem?_map, List.getElem?_take, if_pos hj, List.getElem?_eq_getElem (by omega)] at hu
      simp [intv] at hu
      rw [← hu]
      simp [List.getD, show j < zs.length by omega]
    · rw [hy]
      simp only [Rows.uptoBulk, bulk_ints]
      omega
theorem open_valueB {n : Nat} {cs : List Value} {y : DataW H × List MemPlace} (h : DataW.trod enc Tryd.prog W 0 (fun _ => true) true n 42 cs = some y) (hb : Rows.uptoBulk y.1 ≤ 1048576) :
    ∃ (x : VI) (nv kv : Value), cs = aggI x nv kv ∧ VAt W x nv kv ∧ InB x := by
  obtain ⟨xs, m, _, rfl, hl, hlen, hf⟩ := DataW.trod_struct Tryd.underlying42 h
  rw [cells42] at hl
  match cs, hl with
  | [v0, v1, v2, v3, v4, v5], _ =>
    match xs, hlen with
    | [y0, y1, y2, y3, y4, y5], _ =>
      have t0 : DataW.trod enc Tryd.prog W 0 (fun _ => true) true m 38 [v0] = some y0 := by simpa [cells38] using hf 0 _ rfl
      have t1 : DataW.trod enc Tryd.prog W 0 (fun _ => true) true m 4 [v1] = some y1 := by simpa [cells4] using hf 1 _ rfl
      have t2 : DataW.trod enc Tryd.prog W 0 (fun _ => true) true m 3 [v2] = some y2 := by simpa [cells3] using hf 2 _ rfl
      have t3 : DataW.trod enc Tryd.prog W 0 (fun _ => true) true m 9 [v3] = some y3 := by simpa [cells9] using hf 3 _ rfl
      have t4 : DataW.trod enc Tryd.prog W 0 (fun _ => true) true m 39 [v4] = some y4 := by simpa [cells39] using hf 4 _ rfl
      have t5 : DataW.trod enc Tryd.prog W 0 (fun _ => true) true m 40 [v5] = some y5 := by simpa [cells40] using hf 5 _ rfl
      simp only [List.map_cons, List.map_nil, Rows.uptoBulk, Rows.uptoBulkAll] at hb
      obtain ⟨kd, e0, _, _⟩ := DataW.trod_int Tryd.underlying38 t0
      obtain ⟨tr, e1, _⟩ := DataW.trod_bool Tryd.underlying4 t1
      obtain ⟨nm, e2, _, w2⟩ := DataW.trod_int Tryd.underlying3 t2
      obtain ⟨s, e3, ey3, _⟩ := DataW.trod_string Tryd.underlying9 t3
      obtain ⟨ns, hns, hnb⟩ := open_namesB t4
      obtain ⟨ks, hks, hkb⟩ := open_kidsB t5
      rw [ey3] at hb
      cases e0; cases e1; cases e2; cases e3
      refine ⟨{ kind := kd, truth := tr, num := nm, text := s.data.toList, names := ns, kids := ks }, v4, v5, ?_, ⟨hns, hks⟩, ⟨?_, bounds_i64 w2⟩⟩
      · simp [aggI]
      · simp only [vb, Rows.uptoBulk] at hb ⊢
        omega
theorem open_treeB {a : Option Addr} {len cap : Nat} {d : DataW H} {p : List MemPlace} (h : DataW.Trod enc Tryd.prog W 0 (fun _ => true) true 23 (.slice a len cap) d p) (hb : Rows.uptoBulk d ≤ 1048576) :
    ∃ T : List VI, T.length = len ∧ TreeAt W (.slice a len cap) T ∧ ∀ x ∈ T, InB x := by
  obtain ⟨fuel, hf⟩ := h
  rcases open_slice Tryd.underlying23 hf with ⟨hcs, _⟩ | ⟨ad, l, c, m, n, D, Pl, hcs, _, hl, hm, hz, hx, hcell⟩
  · simp [Value.cells] at hcs
    obtain ⟨rfl, rfl, rfl⟩ := hcs
    exact ⟨[], rfl, ⟨none, 0, rfl, by simp, fun i x h => by simp at h⟩, fun x h => by simp at h⟩
  · simp [Value.cells] at hcs
    obtain ⟨rfl, rfl, rfl⟩ := hcs
    simp only [if_true] at hz
    unfold maxLen at hm
    have hd : d = .slice ((List.range len).map D) ((List.range (m - len)).map fun j => D (len + j)) := congrArg Prod.fst hx
    have hval : ∀ i, i < len → ∃ (x : VI) (nv kv : Value), VAt W x nv kv ∧ InB x ∧ ∃ g o, ad = ⟨g, o, none⟩ ∧ ∀ (j : Nat) (u : Value), (aggI x nv kv)[j]? = some u → W.cell? ⟨g, o + i * 6 + j, none⟩ = some u := fun i hi => by
      obtain ⟨cs', h1, h2⟩ := hcell i (by omega)
      rw [cells42] at h1
      obtain ⟨x, nv, kv, rfl, hv, hi2⟩ := open_valueB h2 (by
        have h3 : Rows.uptoBulk (D i) ≤ Rows.uptoBulkAll ((List.range len).map D) := bulk_mem (List.mem_map.2 ⟨i, List.mem_range.2 hi, rfl⟩)
        rw [hd] at hb
        simp only [Rows.uptoBulk] at hb
        show Rows.uptoBulk (D i) ≤ _
        omega)
      obtain ⟨_, hlen, hget⟩ := World.cells?_some h1
      obtain ⟨g, o, spot⟩ := ad
      have hspot : spot = none := by
        obtain ⟨cs0, k1, _⟩ := hcell 0 (by omega)
        rw [cells42] at k1
        obtain ⟨_, hl0, hg0⟩ := World.cells?_some k1
        have e0 := hg0 0 (by omega)
        match cs0, hl0 with
        | u0 :: _, _ => simpa [Addr.add] using World.cell?_spot (e0.trans rfl)
      subst hspot
      refine ⟨x, nv, kv, hv, hi2, g, o, rfl, fun j u hu => ?_⟩
      have hj : j < 6 := agg_lt hu
      have e := hget j (by simpa [aggI] using hj)
      have ea : ((⟨g, o, none⟩ : Addr).add (i * 6)).add j = ⟨g, o + i * 6 + j, none⟩ := by
        have aux : ∀ (o k : Nat), (⟨g, o, none⟩ : Addr).add k = ⟨g, o + k, none⟩ := fun o k => by
          unfold Addr.add
          split
          · rename_i h; subst h; rfl
          · rfl
        rw [aux, aux]
      rw [ea] at e
      rw [e]; exact hu
    have hch : ∃ F : Nat → VI, ∀ i, i < len → ∃ (nv kv : Value), VAt W (F i) nv kv ∧ InB (F i) ∧ ∃ g o, ad = ⟨g, o, none⟩ ∧ ∀ (j : Nat) (u : Value), (aggI (F i) nv kv)[j]? = some u → W.cell? ⟨g, o + i * 6 + j, none⟩ = some u :=
      ⟨fun i => if h : i < len then (hval i h).choose else {}, fun i hi => by simp only [dif_pos hi]; exact (hval i hi).choose_spec⟩
    obtain ⟨F, hF⟩ := hch
    have hget : ∀ i x, ((List.range len).map F)[i]? = some x → i < len ∧ x = F i := fun i x hx => by
      have hi := (List.getElem?_eq_some_iff.1 hx).1
      simp at hi
      rw [List.getElem?_map, List.getElem?_range hi] at hx
      simp at hx
      exact ⟨hi, hx.symm⟩
    refine ⟨(List.range len).map F, by simp, ⟨some ad, cap, by simp, by simp; omega, fun i x hx => ?_⟩, fun x hx => ?_⟩
    · obtain ⟨hi, rfl⟩ := hget i x hx
      obtain ⟨nv, kv, hv, _, g, o, rfl, hc⟩ := hF i hi
      exact ⟨g, o, nv, kv, rfl, hv, hc⟩
    · obtain ⟨i, hi, rfl⟩ := List.mem_map.1 hx
      obtain ⟨_, _, _, h2, _⟩ := hF i (List.mem_range.1 hi)
      exact h2
end
end Go.Proofs.YtpffhckimilppaaDoor
/-  Plain: what a string's and a number's text are read as, wherever they stand. -/
namespace Go.Proofs.YtpffhckimilppaaDoor.Jt
open Go.RowKit
set_option maxRecDepth 100000
theorem dec_scalar (n b0 b1 b2 b3 : Nat) : (Lib.decodeN n b0 b1 b2 b3).1 < 55296 ∨ (57344 ≤ (Lib.decodeN n b0 b1 b2 b3).1 ∧ (Lib.decodeN n b0 b1 b2 b3).1 ≤ 1114111) := by
  unfold Lib.decodeN
  repeat' split
  all_goals simp only
  all_goals omega
theorem toU8 (n : Nat) (z : Int) (h : z = n) (h1 : n < 256) : (z.toNat.toUInt8).toNat = n := by
  subst h
  simp [Nat.toUInt8]; omega
/-- Bytes of a rune decode to the rune. -/
theorem dec_enc (r : Nat) (hr : r < 55296 ∨ (57344 ≤ r ∧ r ≤ 1114111)) (rest : List UInt8) : Lib.decodeL (Lib.encodeRune (r : Int) ++ rest) = (r, (Lib.encodeRune (r : Int)).length) := by
  rw [Lib.decodeL_N]
  unfold Lib.encodeRune
  by_cases h1 : r ≤ 127
  · rw [Lib.encodeRuneZ_one (by omega) (by omega)]
    simp only [List.map_cons, List.map_nil, List.length_cons, List.length_nil, List.cons_append, List.nil_append, List.getD_cons_zero]
    rw [toU8 r _ rfl (by omega)]
    unfold Lib.decodeN
    rw [if_pos (by omega)]
  · by_cases h2 : r ≤ 2047
    · rw [Lib.encodeRuneZ_two (by omega) (by omega)]
      simp only [List.map_cons, List.map_nil, List.length_cons, List.length_nil, List.cons_append, List.nil_append, List.getD_cons_zero, List.getD_cons_succ]
      rw [toU8 (192 + r / 64) _ (by omega) (by omega), toU8 (128 + r % 64) _ (by omega) (by omega)]
      unfold Lib.decodeN
      rw [if_neg (by omega), if_pos (by omega), if_pos (by omega)]
      refine Prod.ext ?_ rfl
      show (192 + r / 64) % 32 * 64 + (128 + r % 64) % 64 = r
      omega
    · by_cases h3 : r ≤ 65535
      · rw [Lib.encodeRuneZ_three (by omega)]
        simp only [List.map_cons, List.map_nil, List.length_cons, List.length_nil, List.cons_append, List.nil_append, List.getD_cons_zero, List.getD_cons_succ]
        rw [toU8 (224 + r / 4096) _ (by omega) (by omega), toU8 (128 + r / 64 % 64) _ (by omega) (by omega), toU8 (128 + r % 64) _ (by omega) (by omega)]
        unfold Lib.decodeN
        rw [if_neg (by omega), if_neg (by omega), if_pos (by omega), if_pos (by omega)]
        refine Prod.ext ?_ rfl
        show (224 + r / 4096) % 16 * 4096 + (128 + r / 64 % 64) % 64 * 64 + (128 + r % 64) % 64 = r
        omega
      · rw [Lib.encodeRuneZ_four (by omega) (by omega)]
        simp only [List.map_cons, List.map_nil, List.length_cons, List.length_nil, List.cons_append, List.nil_append, List.getD_cons_zero, List.getD_cons_succ]
        rw [toU8 (240 + r / 262144) _ (by omega) (by omega), toU8 (128 + r / 4096 % 64) _ (by omega) (by omega), toU8 (128 + r / 64 % 64) _ (by omega) (by omega), toU8 (128 + r % 64) _ (by omega) (by omega)]
        unfold Lib.decodeN
        rw [if_neg (by omega), if_neg (by omega), if_neg (by omega), if_pos (by omega), if_pos (by omega)]
        refine Prod.ext ?_ rfl
        show (240 + r / 262144) % 8 * 262144 + (128 + r / 4096 % 64) % 64 * 4096 + (128 + r / 64 % 64) % 64 * 64 + (128 + r % 64) % 64 = r
        omega
/-- The first byte of a rune's bytes. -/
theorem enc_head (r : Nat) (hr : r < 55296 ∨ (57344 ≤ r ∧ r ≤ 1114111)) (rest : List UInt8) : (r < 128 → ((Lib.encodeRune (r : Int) ++ rest).getD 0 0).toNat = r) ∧ (128 ≤ r → 128 ≤ ((Lib.encodeRune (r : Int) ++ rest).getD 0 0).toNat) := by
  refine ⟨fun h => ?_, fun h => ?_⟩
  · unfold Lib.encodeRune
    rw [Lib.encodeRuneZ_one (by omega) (by omega)]
    simp only [List.map_cons, List.map_nil, List.cons_append, List.nil_append, List.getD_cons_zero]
    rw [toU8 r _ rfl (by omega)]
  · have := dec_enc r hr rest
    rw [Lib.decodeL_N] at this
    by_cases hc : ((Lib.encodeRune (r : Int) ++ rest).getD 0 0).toNat < 128
    · unfold Lib.decodeN at this
      rw [if_pos hc] at this
      have h2 := congrArg Prod.fst this
      simp only at h2
      omega
    · omega
theorem enc_ne (r : Nat) : 1 ≤ (Lib.encodeRune (r : Int)).length := by
  have := (Lib.encodeRuneZ_length (r : Int)).1
  unfold Lib.encodeRune
  rw [List.length_map]; exact this
section
variable {B : List UInt8}
theorem js_byte (B : List UInt8) (i : Nat) : Js.byteAt B i = byteAt B i := rfl
theorem js_dec (B : List UInt8) (i : Nat) : Js.decAt B i = decAt B i := rfl
theorem byte_drop (a j : Nat) (X : List UInt8) (h : B.drop a = X) : Js.byteAt B (a + j) = (X.getD j 0).toNat := by
  rw [← h, getD_drop]; rfl
theorem q_end {k a : Nat} {s : List UInt8} (ha : a < B.length) (h : Js.byteAt B a = 34) : Js.quotedL B (k + 1) a s = .ok s (a + 1) := by
  unfold Js.quotedL Js.peekM
  rw [if_pos ha]
  simp only [Js.Res.andThen]
  rw [if_pos h]
theorem q_step {k a r q : Nat} {s : List UInt8} (ha : a < B.length) (h : Js.byteAt B a ≠ 34) (hl : Js.letterM B a = .ok r q) : Js.quotedL B (k + 1) a s = Js.quotedL B k q (s ++ Lib.encodeRune r) := by
  conv => lhs; unfold Js.quotedL Js.peekM
  rw [if_pos ha]
  simp only [Js.Res.andThen]
  rw [if_neg h, hl]
theorem six_hex (k : Nat) (hk : k < 16) : Js.sixteenM (hexM k).toNat = (k : Int) := by
  have : ∀ k : Fin 16, Js.sixteenM (hexM k.1).toNat = (k.1 : Int) := by decide +kernel
  exact this ⟨k, hk⟩
theorem hex_four {f a : Nat} {v0 v1 v2 v3 : Nat} (ha : a + 3 < B.length) (h0 : Js.sixteenM (Js.byteAt B a) = v0) (h1 : Js.sixteenM (Js.byteAt B (a + 1)) = v1) (h2 : Js.sixteenM (Js.byteAt B (a + 2)) = v2) (h3 : Js.sixteenM (Js.byteAt B (a + 3)) = v3) :
    Js.hexM B f 4 0 a = .ok (4096 * v0 + 256 * v1 + 16 * v2 + v3) (a + 4) := by
  have h2 : Js.sixteenM (Js.byteAt B (a + 1 + 1)) = v2 := h2
  have h3 : Js.sixteenM (Js.byteAt B (a + 1 + 1 + 1)) = v3 := h3
  simp only [Js.hexM]
  rw [if_pos (by omega), if_neg (by omega), if_pos (by omega), if_neg (by omega), if_pos (by omega), if_neg (by omega), if_pos (by omega), if_neg (by omega), h0, h1, h2, h3]
  simp only [Int.toNat_natCast]
  congr 1; omega
/-- A letter, as it was quoted, is read. -/
theorem read_letter {a r : Nat} {rest : List UInt8} (hr : r < 55296 ∨ (57344 ≤ r ∧ r ≤ 1114111)) (h : B.drop a = letterM r ++ rest) : a < B.length ∧ Js.byteAt B a ≠ 34 ∧ Js.letterM B a = .ok r (a + (letterM r).length) := by
  have hlen : B.length - a = (letterM r).length + rest.length := by rw [← List.length_drop, h, List.length_append]
  have hb := fun j => byte_drop (B := B) a j _ h
  have hb0 : Js.byteAt B a = ((letterM r ++ rest).getD 0 0).toNat := hb 0
  by_cases h1 : r = 34 ∨ r = 92
  · have e : letterM r = [92, r.toUInt8] := by unfold letterM; rw [if_pos h1]
    rw [e] at hlen hb hb0
    simp only [List.length_cons, List.length_nil] at hlen
    have b1 : Js.byteAt B (a + 1) = r := by
      rw [hb 1]
      rcases h1 with rfl | rfl <;> rfl
    have b0 : Js.byteAt B a = 92 := hb0
    refine ⟨by omega, by omega, ?_⟩
    unfold Js.letterM Js.peekM
    rw [if_pos (by omega)]
    simp only [Js.Res.andThen]
    rw [if_neg (by omega), if_pos b0]
    unfold Js.escapeM Js.peekM
    rw [if_pos (by omega)]
    simp only [Js.Res.andThen]
    rw [if_pos (by omega), e, b1]
    rfl
  · by_cases h2 : r < 32
    · have e : letterM r = [92, 117, 48, 48, hexM (r / 16), hexM (r % 16)] := by unfold letterM; rw [if_neg h1, if_pos h2]
      rw [e] at hlen hb hb0
      simp only [List.length_cons, List.length_nil] at hlen
      have b0 : Js.byteAt B a = 92 := hb0
      have b1 : Js.byteAt B (a + 1) = 117 := hb 1
      have b2 : Js.byteAt B (a + 2) = 48 := hb 2
      have b3 : Js.byteAt B (a + 3) = 48 := hb 3
      have b4 : Js.byteAt B (a + 4) = (hexM (r / 16)).toNat := hb 4
      have b5 : Js.byteAt B (a + 5) = (hexM (r % 16)).toNat := hb 5
      have hx := hex_four (B := B) (f := a) (a := a + 2) (v0 := 0) (v1 := 0) (v2 := r / 16) (v3 := r % 16) (by omega) (by rw [b2]; rfl) (by rw [show a + 2 + 1 = a + 3 by omega, b3]; rfl) (by rw [show a + 2 + 2 = a + 4 by omega, b4]; exact six_hex _ (by omega)) (by rw [show a + 2 + 3 = a + 5 by omega, b5]; exact six_hex _ (by omega))
      refine ⟨by omega, by omega, ?_⟩
      unfold Js.letterM Js.peekM
      rw [if_pos (by omega)]
      simp only [Js.Res.andThen]
      rw [if_neg (by omega), if_pos b0]
      unfold Js.escapeM Js.peekM
      rw [if_pos (by omega)]
      simp only [Js.Res.andThen]
      rw [if_neg (by omega), if_neg (by omega), if_neg (by omega), if_neg (by omega), if_neg (by omega), if_neg (by omega), if_pos b1]
      unfold Js.codedM
      rw [hx]
      simp only [Js.Res.andThen]
      rw [if_pos (by omega), e]
      simp only [List.length_cons, List.length_nil]
      congr 1
      omega
    · have e : letterM r = Lib.encodeRune (r : Int) := by unfold letterM; rw [if_neg h1, if_neg h2]
      rw [e] at hlen hb hb0 h
      have hd : Js.decAt B a = (r, (Lib.encodeRune (r : Int)).length) := by rw [js_dec, decAt_L, h]; exact dec_enc r hr rest
      have hh := enc_head r hr rest
      have hn := enc_ne r
      have hbr : (Js.byteAt B a = r ∧ r < 128) ∨ 128 ≤ Js.byteAt B a := by
        rcases Nat.lt_or_ge r 128 with hc | hc
        · left; exact ⟨by rw [hb0]; exact hh.1 hc, hc⟩
        · right; rw [hb0]; exact hh.2 hc
      have hw : ¬ (r = 65533 ∧ (Lib.encodeRune (r : Int)).length = 1) := by
        rintro ⟨rfl, h5⟩
        revert h5
        decide +kernel
      refine ⟨by omega, by omega, ?_⟩
      unfold Js.letterM Js.peekM
      rw [if_pos (by omega)]
      simp only [Js.Res.andThen]
      rw [if_neg (by omega), if_neg (by omega), hd, if_neg hw, e]
def textL (s : List UInt8) : Nat → Nat → List UInt8
  | 0, _ => []
  | f + 1, p => if p < s.length then Lib.encodeRune ((decAt s p).1 : Nat) ++ textL s f (p + (decAt s p).2) else []
theorem letter_one (r : Nat) : 1 ≤ (letterM r).length := by
  unfold letterM
  split
  · simp
  · split
    · simp
    · exact enc_ne r
theorem read_quote (s rest : List UInt8) : ∀ (f p a k : Nat) (acc : List UInt8), s.length ≤ p + f → B.drop a = quoteL s f p ++ ([34] ++ rest) → (quoteL s f p).length + 1 ≤ k → Js.quotedL B k a acc = .ok (acc ++ textL s f p) (a + (quoteL s f p).length + 1)
  | 0, p, a, k, acc, hf, h, hk => by
    obtain ⟨k, rfl⟩ : ∃ j, k = j + 1 := ⟨k - 1, by omega⟩
    have hlen : B.length - a = 1 + rest.length := by rw [← List.length_drop, h]; simp [quoteL, Nat.add_comm]
    rw [q_end (by omega) (by rw [show a = a + 0 from rfl, byte_drop a 0 _ h]; rfl)]
    simp [textL, quoteL]
  | f + 1, p, a, k, acc, hf, h, hk => by
    obtain ⟨k, rfl⟩ : ∃ j, k = j + 1 := ⟨k - 1, by omega⟩
    by_cases hp : p < s.length
    · have eq : quoteL s (f + 1) p = letterM (decAt s p).1 ++ quoteL s f (p + (decAt s p).2) := by simp [quoteL, hp]
      have et : textL s (f + 1) p = Lib.encodeRune ((decAt s p).1 : Nat) ++ textL s f (p + (decAt s p).2) := by simp [textL, hp]
      rw [eq, List.append_assoc] at h
      rw [eq, List.length_append] at hk
      have hw : 1 ≤ (decAt s p).2 := by rw [decAt_L]; exact Lib.decodeL_width _
      have hsc : (decAt s p).1 < 55296 ∨ (57344 ≤ (decAt s p).1 ∧ (decAt s p).1 ≤ 1114111) := dec_scalar _ _ _ _ _
      obtain ⟨h1, h2, h3⟩ := read_letter hsc h
      have h4 := letter_one (decAt s p).1
      rw [q_step h1 h2 h3, read_quote s rest f (p + (decAt s p).2) (a + (letterM (decAt s p).1).length) k _ (by omega) (by rw [← List.drop_drop, h]; simp) (by omega), eq, et]
      simp only [List.length_append, List.append_assoc]
      congr 1; omega
    · have eq : quoteL s (f + 1) p = [] := by simp [quoteL, hp]
      have et : textL s (f + 1) p = [] := by simp [textL, hp]
      rw [eq] at h hk ⊢
      rw [et]
      have hlen : B.length - a = 1 + rest.length := by rw [← List.length_drop, h]; simp [Nat.add_comm]
      rw [q_end (by omega) (by rw [show a = a + 0 from rfl, byte_drop a 0 _ h]; rfl)]
      simp
theorem text_valid (s : List UInt8) : ∀ (f p : Nat), s.length ≤ p + f → Lib.validGoD f (s.drop p) = true → textL s f p = s.drop p
  | 0, p, hf, _ => by rw [List.drop_eq_nil_of_le (by omega)]; rfl
  | f + 1, p, hf, hv => by
    by_cases hp : p < s.length
    · rw [valid_step s f p hp] at hv
      split at hv
      · cases hv
      · rename_i hb
        have hw : 1 ≤ (decAt s p).2 := by rw [decAt_L]; exact Lib.decodeL_width _
        have et : textL s (f + 1) p = Lib.encodeRune ((decAt s p).1 : Nat) ++ textL s f (p + (decAt s p).2) := by simp [textL, hp]
        rw [et, text_valid s f _ (by omega) hv, dec_bytes s p hp hb, ← List.drop_drop]
        exact List.take_append_drop _ _
    · rw [List.drop_eq_nil_of_le (by omega)]; simp [textL, hp]
end
theorem digB_of (d : Nat) (h : d < 10) : Js.digB (UInt8.ofNat (48 + d)) = true := by
  simp only [Js.digB, digit_of d h, decide_eq_true_eq]; omega
theorem dec_all (u : Nat) : (Lib.decDigits u).all Js.digB = true := by
  induction u using Nat.strongRecOn with
  | _ u ih =>
    by_cases h : u < 10
    · rw [decS u h, List.all_cons, digB_of u h]; rfl
    · rw [decT u h, List.all_append, ih (u / 10) (by omega), List.all_cons, digB_of (u % 10) (by omega)]; rfl
theorem dec_val (u : Nat) : Js.valN (Lib.decDigits u) = u := by
  induction u using Nat.strongRecOn with
  | _ u ih =>
    by_cases h : u < 10
    · rw [decS u h]; simp only [Js.valN, List.foldl_cons, List.foldl_nil, digit_of u h]; omega
    · rw [decT u h, Js.valN_snoc, ih (u / 10) (by omega), digit_of (u % 10) (by omega)]; omega
theorem dec_head (u : Nat) (h0 : 1 ≤ u) : ∃ c t, Lib.decDigits u = c :: t ∧ c ≠ 48 := by
  induction u using Nat.strongRecOn with
  | _ u ih =>
    by_cases h : u < 10
    · refine ⟨_, [], decS u h, ?_⟩
      intro e
      have := congrArg UInt8.toNat e
      rw [digit_of u h] at this
      have h48 : (48 : UInt8).toNat = 48 := rfl
      omega
    · obtain ⟨c, t, e, hc⟩ := ih (u / 10) (by omega) (by omega)
      exact ⟨c, t ++ [UInt8.ofNat (48 + u % 10)], by rw [decT u h, e]; rfl, hc⟩
theorem dec_plain (u : Nat) : Js.plainB (Lib.decDigits u) = true := by
  have hl := dec_len u
  have ha := dec_all u
  by_cases h0 : 1 ≤ u
  · obtain ⟨c, t, e, hc⟩ := dec_head u h0
    rw [e] at ha ⊢
    simp only [Js.plainB, ha]
    simp [hc]
  · obtain rfl : u = 0 := by omega
    rw [decS 0 (by omega)]; decide
theorem dec_below (u : Nat) : Js.belowB (Lib.decDigits u) = false := by
  have ha := dec_all u
  have hl := dec_len u
  cases hd : Lib.decDigits u with
  | nil => rw [hd] at hl; simp at hl
  | cons c t =>
    rw [hd] at ha
    simp only [List.all_cons, Bool.and_eq_true] at ha
    simp only [Js.belowB, List.head?_cons]
    rw [beq_eq_false_iff_ne]
    intro e
    obtain rfl := Option.some.inj e
    exact absurd ha.1 (by decide)
theorem dec_zero (u : Nat) (h0 : 1 ≤ u) : (Lib.decDigits u == [48]) = false := by
  obtain ⟨c, t, e, hc⟩ := dec_head u h0
  rw [e, beq_eq_false_iff_ne]
  intro h
  exact hc (List.cons.inj h).1

/-- A number's numeral, read: the number if it fits, else the fault. -/
theorem back_pos (n : Int) (h : 0 ≤ n) : Js.parV (Lib.itoa n) = (bif Js.fitsB n then n else 0) ∧ Js.parE (Lib.itoa n) = (bif Js.fitsB n then 0 else 10) := by
  have e : Lib.itoa n = Lib.decDigits n.toNat := by rw [Lib.itoa, if_neg (by omega)]
  have hp := dec_plain n.toNat
  have hb := dec_below n.toNat
  have hv := dec_val n.toNat
  rw [e]
  simp only [Js.parV, Js.parE, Js.parOk, Js.digitsL, hb, cond_false, hp, Js.cntV, Js.cntE, hv]
  have hf : Js.fitsB n = decide (n.toNat ≤ 4611686018427387903) := by
    rw [Bool.eq_iff_iff, Js.fitsB_iff, decide_eq_true_eq]; omega
  rw [hf]
  have ht : (n.toNat : Int) = n := by omega
  rw [ht]
  simp
theorem back_neg (n : Int) (h : n < 0) : Js.parV (Lib.itoa n) = (bif Js.fitsB n then n else 0) ∧ Js.parE (Lib.itoa n) = (bif Js.fitsB n then 0 else 10) := by
  have e : Lib.itoa n = 45 :: Lib.decDigits n.natAbs := by rw [Lib.itoa, if_pos h]
  have hp := dec_plain n.natAbs
  have hz := dec_zero n.natAbs (by omega)
  have hv := dec_val n.natAbs
  have hb : Js.belowB (45 :: Lib.decDigits n.natAbs) = true := rfl
  have hd : Js.digitsL (45 :: Lib.decDigits n.natAbs) = Lib.decDigits n.natAbs := by simp [Js.digitsL, hb]
  rw [e]
  simp only [Js.parV, Js.parE, Js.parOk, hd, hb, cond_true, hp, hz, Js.cntV, Js.cntE, hv]
  have hf : Js.fitsB n = decide (n.natAbs ≤ 4611686018427387903) := by
    rw [Bool.eq_iff_iff, Js.fitsB_iff, decide_eq_true_eq]; omega
  rw [hf]
  have ht : -(n.natAbs : Int) = n := by omega
  by_cases hq : n.natAbs ≤ 4611686018427387903
  · simp [hq, ht]
  · simp [hq]
theorem back_num (n : Int) : Js.parV (Lib.itoa n) = (bif Js.fitsB n then n else 0) ∧ Js.parE (Lib.itoa n) = (bif Js.fitsB n then 0 else 10) := by
  by_cases h : n < 0
  · exact back_neg n h
  · exact back_pos n (by omega)

/-- A quoted string that is UTF-8, read wherever it stands. -/
theorem read_string {B rest s : List UInt8} {a : Nat} (hv : Lib.validD s = true) (h : B.drop a = quoteM s ++ rest) : Js.byteAt B a = 34 ∧ a < B.length ∧ Js.quotedM B a = .ok s (a + (quoteM s).length) := by
  have hq : quoteM s = [34] ++ quoteL s s.length 0 ++ [34] := by rw [quoteM, quoteL_from]
  rw [hq] at h ⊢
  have hlen : B.length - a = (quoteL s s.length 0).length + 2 + rest.length := by rw [← List.length_drop, h]; simp; omega
  have hd : B.drop (a + 1) = quoteL s s.length 0 ++ ([34] ++ rest) := by
    rw [← List.drop_drop, h]; simp
  have h1 := read_quote (B := B) s rest s.length 0 (a + 1) (B.length + 1) [] (by omega) hd (by omega)
  have ht := text_valid s s.length 0 (by omega) (by rw [List.drop_zero]; exact hv)
  rw [ht, List.nil_append, List.drop_zero] at h1
  refine ⟨by rw [show a = a + 0 from rfl, byte_drop a 0 _ h]; rfl, by omega, ?_⟩
  unfold Js.quotedM
  rw [h1]
  simp only [List.length_append, List.length_cons, List.length_nil]
  congr 1; omega
theorem skip_no {B : List UInt8} {a : Nat} (h : a < B.length → Js.blankB (Js.byteAt B a) = false) : Js.skip B a = a := Js.run_no _ _ _ h
theorem ahead_at {B : List UInt8} {a : Nat} (ha : a < B.length) (h : Js.blankB (Js.byteAt B a) = false) : Js.aheadM B a = .ok (Js.byteAt B a) a := by
  unfold Js.aheadM Js.peekM
  rw [skip_no fun _ => h, if_pos ha]
/-- What may follow a number. -/
def EndN (rest : List UInt8) : Prop := ∀ c ∈ rest.head?, Js.numeralB c.toNat = false
theorem takeWhile_all (p : UInt8 → Bool) (r : List UInt8) (hz : ∀ c ∈ r.head?, p c = false) : ∀ t : List UInt8, t.all p = true → (t ++ r).takeWhile p = t
  | [], _ => by
    cases r with
    | nil => rfl
    | cons z r => rw [List.nil_append, List.takeWhile_cons, hz z (by simp)]; rfl
  | c :: t, h => by
    simp only [List.all_cons, Bool.and_eq_true] at h
    rw [List.cons_append, List.takeWhile_cons, h.1, if_pos rfl, takeWhile_all p r hz t h.2]
theorem dig_num {c : UInt8} (h : Js.digB c = true) : Js.numeralB c.toNat = true ∧ Js.digN c.toNat = true := by
  have h2 := of_decide_eq_true h
  have : Js.digN c.toNat = true := by unfold Js.digN; rw [Bool.and_eq_true, decide_eq_true_eq, decide_eq_true_eq]; omega
  exact ⟨by unfold Js.numeralB; rw [this]; rfl, this⟩
theorem itoa_shape (n : Int) : ∃ c t, Lib.itoa n = c :: t ∧ (c.toNat = 45 ∨ Js.digN c.toNat = true) ∧ (c :: t).all (fun x => Js.numeralB x.toNat) = true := by
  have hd : ∀ u, (Lib.decDigits u).all (fun x => Js.numeralB x.toNat) = true := fun u => by
    have := dec_all u
    rw [List.all_eq_true] at this ⊢
    exact fun x hx => (dig_num (this x hx)).1
  by_cases h : n < 0
  · have e : Lib.itoa n = 45 :: Lib.decDigits n.natAbs := by rw [Lib.itoa, if_pos h]
    exact ⟨45, _, e, .inl rfl, by rw [List.all_cons, hd]; rfl⟩
  · have e : Lib.itoa n = Lib.decDigits n.toNat := by rw [Lib.itoa, if_neg h]
    have hl := dec_len n.toNat
    have ha := dec_all n.toNat
    have hn := hd n.toNat
    cases hq : Lib.decDigits n.toNat with
    | nil => rw [hq] at hl; simp at hl
    | cons c t =>
      rw [hq] at ha hn
      rw [List.all_cons, Bool.and_eq_true] at ha
      exact ⟨c, t, by rw [e, hq], .inr (dig_num ha.1).2, hn⟩
theorem read_number {B rest : List UInt8} {a : Nat} {n : Int} (hf : Js.fitsB n = true) (hr : EndN rest) (h : B.drop a = Lib.itoa n ++ rest) :
    (Js.byteAt B a = 45 ∨ Js.digN (Js.byteAt B a) = true) ∧ a < B.length ∧ Js.numberM B a = .ok n (a + (Lib.itoa n).length) := by
  obtain ⟨c, t, e, hc, hall⟩ := itoa_shape n
  have hlen : B.length - a = (Lib.itoa n).length + rest.length := by rw [← List.length_drop, h, List.length_append]
  have hb : Js.byteAt B a = c.toNat := by rw [show a = a + 0 from rfl, byte_drop a 0 _ h, e]; rfl
  have hE : Js.numEnd B a = a + (Lib.itoa n).length := by
    unfold Js.numEnd Js.run
    rw [h, takeWhile_all (fun x => Js.numeralB x.toNat) rest hr (Lib.itoa n) (by rw [e]; exact hall)]
  have hX : Js.numTxt B a = Lib.itoa n := by
    unfold Js.numTxt
    rw [hE, h, Nat.add_sub_cancel_left, List.take_left]
  have hbk := back_num n
  rw [hf] at hbk
  refine ⟨by rw [hb]; exact hc, by rw [e] at hlen; simp at hlen; omega, ?_⟩
  unfold Js.numberM
  rw [hX, hE, hbk.1, hbk.2]
  rfl
end Go.Proofs.YtpffhckimilppaaDoor.Jt
/-  Plain: trees of values as they grow, their text, and that the text is read back. -/
namespace Go.Proofs.YtpffhckimilppaaDoor.Jt
open Go.RowKit
set_option maxRecDepth 100000

mutual
/-- A value with all that is below it. -/
inductive J where
  | null
  | truth (b : Bool)
  | num (n : Int)
  | str (s : List UInt8)
  | list (l : JL)
  | obj (l : JL)
inductive JL where
  | nil
  | cons (n : List UInt8) (j : J) (l : JL)
end
mutual
def sz : J → Nat
  | .list l => szL l + 1
  | .obj l => szL l + 1
  | .null => 1
  | .truth _ => 1
  | .num _ => 1
  | .str _ => 1
def szL : JL → Nat
  | .nil => 0
  | .cons _ j l => sz j + szL l
end
mutual
def dep : J → Nat
  | .list l => depL l + 1
  | .obj l => depL l + 1
  | .null => 0
  | .truth _ => 0
  | .num _ => 0
  | .str _ => 0
def depL : JL → Nat
  | .nil => 0
  | .cons _ j l => max (dep j) (depL l)
end
def names : JL → List (List UInt8)
  | .nil => []
  | .cons n _ l => n :: names l
def roots : JL → Nat → List Nat
  | .nil, _ => []
  | .cons _ j l, o => (o + sz j - 1) :: roots l (o + sz j)
mutual
/-- The values as a reader puts them, from place o on. -/
def flat : J → Nat → List Js.V
  | .null, _ => [{ kind := 1 }]
  | .truth b, _ => [{ kind := 2, truth := b }]
  | .num n, _ => [{ kind := 3, num := n }]
  | .str s, _ => [{ kind := 4, text := s }]
  | .list l, o => flatL l o ++ [{ kind := 5, kids := roots l o }]
  | .obj l, o => flatL l o ++ [{ kind := 6, names := names l, kids := roots l o }]
def flatL : JL → Nat → List Js.V
  | .nil, _ => []
  | .cons _ j l, o => flat j o ++ flatL l (o + sz j)
end
mutual
def txt : J → List UInt8
  | .null => [110, 117, 108, 108]
  | .truth b => if b then [116, 114, 117, 101] else [102, 97, 108, 115, 101]
  | .num n => Lib.itoa n
  | .str s => quoteM s
  | .list l => [91] ++ txtL l true ++ [93]
  | .obj l => [123] ++ txtO l true ++ [125]
def txtL : JL → Bool → List UInt8
  | .nil, _ => []
  | .cons _ j l, f => (if f then [] else [44]) ++ txt j ++ txtL l false
def txtO : JL → Bool → List UInt8
  | .nil, _ => []
  | .cons n j l, f => (if f then [] else [44]) ++ (quoteM n ++ [58] ++ txt j) ++ txtO l false
end
mutual
/-- What may stand in a tree; no string is longer than M. -/
def ok (M : Nat) : J → Prop
  | .null => True
  | .truth _ => True
  | .num n => fitsB n = true
  | .str s => Lib.validD s = true ∧ s.length ≤ M
  | .list l => okL M l
  | .obj l => okL M l ∧ (names l).Nodup ∧ ∀ s ∈ names l, Lib.validD s = true ∧ s.length ≤ M
def okL (M : Nat) : JL → Prop
  | .nil => True
  | .cons _ j l => ok M j ∧ okL M l
end
theorem sz_pos (j : J) : 1 ≤ sz j := by cases j <;> simp [sz]
mutual
theorem flat_len : ∀ (j : J) (o : Nat), (flat j o).length = sz j
  | .null, _ => rfl
  | .truth _, _ => rfl
  | .num _, _ => rfl
  | .str _, _ => rfl
  | .list l, o => by simp only [flat, sz, List.length_append, List.length_cons, List.length_nil, flatL_len l o]
  | .obj l, o => by simp only [flat, sz, List.length_append, List.length_cons, List.length_nil, flatL_len l o]
theorem flatL_len : ∀ (l : JL) (o : Nat), (flatL l o).length = szL l
  | .nil, _ => rfl
  | .cons n j l, o => by simp only [flatL, szL, List.length_append, flat_len j o, flatL_len l (o + sz j)]
end
theorem roots_len : ∀ (l : JL) (o : Nat), (roots l o).length = (names l).length
  | .nil, _ => rfl
  | .cons n j l, o => by simp only [roots, names, List.length_cons, roots_len l]
theorem txtL_false (l : JL) : txtL l false = match l with | .nil => [] | .cons _ _ _ => 44 :: txtL l true := by
  cases l <;> simp [txtL]
theorem txtO_false (l : JL) : txtO l false = match l with | .nil => [] | .cons _ _ _ => 44 :: txtO l true := by
  cases l <;> simp [txtO]
/-- What a text may begin with. -/
def beg (c : UInt8) : Prop := c = 110 ∨ c = 116 ∨ c = 102 ∨ (c.toNat = 45 ∨ Js.digN c.toNat = true) ∨ c = 34 ∨ c = 91 ∨ c = 123
theorem beg_no {c : UInt8} (h : beg c) : Js.blankB c.toNat = false ∧ c.toNat ≠ 93 ∧ c.toNat ≠ 125 := by
  rcases h with rfl | rfl | rfl | h | rfl | rfl | rfl
  · decide
  · decide
  · decide
  · have hc : c.toNat = 45 ∨ (48 ≤ c.toNat ∧ c.toNat ≤ 57) := by
      rcases h with h | h
      · exact .inl h
      · simp only [Js.digN, Bool.and_eq_true, decide_eq_true_eq] at h; exact .inr h
    refine ⟨?_, by omega, by omega⟩
    unfold Js.blankB
    rw [Bool.or_eq_false_iff, Bool.or_eq_false_iff, Bool.or_eq_false_iff]
    simp; omega
  · decide
  · decide
  · decide
theorem txt_beg (j : J) : ∃ c t, txt j = c :: t ∧ beg c := by
  cases j with
  | null => exact ⟨_, _, rfl, .inl rfl⟩
  | truth b =>
    cases b
    · exact ⟨_, _, rfl, .inr (.inr (.inl rfl))⟩
    · exact ⟨_, _, rfl, .inr (.inl rfl)⟩
  | num n =>
    obtain ⟨c, t, e, hc, _⟩ := itoa_shape n
    exact ⟨c, t, by rw [txt, e], .inr (.inr (.inr (.inl hc)))⟩
  | str s => exact ⟨34, _, rfl, .inr (.inr (.inr (.inr (.inl rfl))))⟩
  | list l => exact ⟨91, _, rfl, .inr (.inr (.inr (.inr (.inr (.inl rfl)))))⟩
  | obj l => exact ⟨123, _, rfl, .inr (.inr (.inr (.inr (.inr (.inr rfl)))))⟩
section
variable {B : List UInt8}
theorem at_head {a : Nat} {c : UInt8} {t : List UInt8} (h : B.drop a = c :: t) : a < B.length ∧ Js.byteAt B a = c.toNat ∧ B.drop (a + 1) = t := by
  have hl : B.length - a = t.length + 1 := by rw [← List.length_drop, h]; rfl
  refine ⟨by omega, ?_, ?_⟩
  · rw [show a = a + 0 from rfl, byte_drop a 0 _ h]; rfl
  · rw [← List.drop_drop, h]; rfl
theorem want_at {a : Nat} {c : UInt8} {t : List UInt8} (h : B.drop a = c :: t) : Js.wantM B c.toNat a = .ok () (a + 1) := by
  obtain ⟨h1, h2, _⟩ := at_head h
  unfold Js.wantM
  rw [if_pos h1, if_pos h2]
theorem word_at : ∀ (w : List UInt8) {a : Nat} {t : List UInt8}, B.drop a = w ++ t → Js.wordM B w a = .ok () (a + w.length)
  | [], a, t, _ => rfl
  | c :: w, a, t, h => by
    unfold Js.wordM
    rw [want_at h]
    simp only [Js.Res.andThen]
    rw [word_at w (at_head h).2.2, List.length_cons, Nat.add_assoc, Nat.add_comm 1]
/-- The value's frame: what begun answers is put behind the others. -/
theorem value_of {sub : Option Js.Sub} {S S' : List Js.V} {x : Js.V} {a a' : Nat} {c : UInt8} {t : List UInt8} (h : B.drop a = c :: t) (hc : Js.blankB c.toNat = false) (hb : Js.begunM B sub c.toNat S a = .ok (x, S') a') (hl : S'.length < 8192) :
    Js.valueS B sub S a = .ok (S'.length, S' ++ [x]) a' := by
  obtain ⟨h1, h2, _⟩ := at_head h
  unfold Js.valueS
  rw [ahead_at h1 (by rw [h2]; exact hc), h2]
  simp only [Js.Res.andThen]
  rw [hb]
  simp only
  rw [if_neg (by omega)]
end
section
theorem txtL_more {l : JL} (h : l ≠ .nil) : txtL l false = 44 :: txtL l true := by
  cases l with
  | nil => exact absurd rfl h
  | cons n j l => simp [txtL]
theorem txtO_more {l : JL} (h : l ≠ .nil) : txtO l false = 44 :: txtO l true := by
  cases l with
  | nil => exact absurd rfl h
  | cons n j l => simp [txtO]
def subOf (B : List UInt8) : Nat → Option Js.Sub
  | 0 => none
  | d + 1 => some (Js.valueM B d)
theorem valueM_eq (B : List UInt8) (d : Nat) : Js.valueM B d = Js.valueS B (subOf B d) := by cases d <;> rfl
theorem leaf_end {S : List Js.V} {x : Js.V} {n : Nat} (h : n = 1) : (S.length, S ++ [x]) = (S.length + n - 1, S ++ [x]) := by subst h; rfl
theorem each_end {σ : Type} {B : List UInt8} {close : UInt8} {kid : σ → Nat → Js.Res σ} {k a a' : Nat} {s s' : σ} {t : List UInt8} (hk : kid s a = .ok s' a') (h : B.drop a' = close :: t) (hc : Js.blankB close.toNat = false) :
    Js.eachL B close.toNat kid (k + 1) s a = .ok s' (a' + 1) := by
  obtain ⟨h1, h2, _⟩ := at_head h
  unfold Js.eachL
  rw [hk]
  simp only [Js.Res.andThen]
  rw [ahead_at h1 (by rw [h2]; exact hc), h2]
  simp only
  rw [if_pos trivial]
theorem each_more {σ : Type} {B : List UInt8} {close : Nat} {kid : σ → Nat → Js.Res σ} {k a a' : Nat} {s s' : σ} {t : List UInt8} (hk : kid s a = .ok s' a') (h : B.drop a' = 44 :: t) (hc : close ≠ 44) :
    Js.eachL B close kid (k + 1) s a = Js.eachL B close kid k s' (a' + 1) := by
  obtain ⟨h1, h2, _⟩ := at_head h
  have h2' : Js.byteAt B a' = 44 := h2
  conv => lhs; unfold Js.eachL
  rw [hk]
  simp only [Js.Res.andThen]
  rw [ahead_at h1 (by rw [h2']; decide), h2']
  simp only
  rw [if_neg (fun e => hc e.symm), show (44 : Nat) = (44 : UInt8).toNat from rfl, want_at h]
theorem endN_cons {c : UInt8} {t : List UInt8} (h : Js.numeralB c.toNat = false) : EndN (c :: t) := fun x hx => by
  simp at hx; subst hx; exact h
variable {M : Nat} {B : List UInt8}
mutual
theorem back : ∀ (j : J) {d a : Nat} {S : List Js.V} {rest : List UInt8}, B.drop a = txt j ++ rest → ok M j → dep j ≤ d → S.length + sz j ≤ 8192 → EndN rest → Js.valueM B d S a = .ok (S.length + sz j - 1, S ++ flat j S.length) (a + (txt j).length)
  | .null, d, a, S, rest, h, ho, hd, hs, hr => by
    simp only [sz] at hs
    rw [valueM_eq, value_of (c := 110) (t := [117, 108, 108] ++ rest) h (by decide) (x := { kind := 1 }) (S' := S) (a' := a + 4) (by
      unfold Js.begunM
      rw [if_pos (by decide), word_at Js.nullW (t := rest) h]
      rfl) (by omega)]
    rfl
  | .truth true, d, a, S, rest, h, ho, hd, hs, hr => by
    simp only [sz] at hs
    rw [valueM_eq, value_of (c := 116) (t := [114, 117, 101] ++ rest) h (by decide) (x := { kind := 2, truth := true }) (S' := S) (a' := a + 4) (by
      unfold Js.begunM
      rw [if_neg (by decide), if_pos (by decide), word_at Js.trueW (t := rest) h]
      rfl) (by omega)]
    rfl
  | .truth false, d, a, S, rest, h, ho, hd, hs, hr => by
    simp only [sz] at hs
    rw [valueM_eq, value_of (c := 102) (t := [97, 108, 115, 101] ++ rest) h (by decide) (x := { kind := 2 }) (S' := S) (a' := a + 5) (by
      unfold Js.begunM
      rw [if_neg (by decide), if_neg (by decide), if_pos (by decide), word_at Js.falseW (t := rest) h]
      rfl) (by omega)]
    rfl
  | .num n, d, a, S, rest, h, ho, hd, hs, hr => by
    simp only [sz] at hs
    have ho' : fitsB n = true := ho
    obtain ⟨h1, h2, h3⟩ := read_number (B := B) (a := a) (n := n) ho' hr h
    obtain ⟨c, t, e, hc, _⟩ := itoa_shape n
    have hx : B.drop a = c :: (t ++ rest) := by rw [h, txt, e]; rfl
    have hb := (at_head hx).2.1
    rw [hb] at h1
    have hcs : c.toNat = 45 ∨ (48 ≤ c.toNat ∧ c.toNat ≤ 57) := by
      rcases h1 with h | h
      · exact .inl h
      · simp only [Js.digN, Bool.and_eq_true, decide_eq_true_eq] at h; exact .inr h
    rw [valueM_eq, value_of hx (beg_no (.inr (.inr (.inr (.inl hc))))).1 (x := { kind := 3, num := n }) (S' := S) (a' := a + (Lib.itoa n).length) (by
      unfold Js.begunM
      rw [if_neg (by omega), if_neg (by omega), if_neg (by omega), if_neg (by omega), if_pos h1, h3]
      rfl) (by omega)]
    rfl
  | .str s, d, a, S, rest, h, ho, hd, hs, hr => by
    simp only [sz] at hs
    have ho' : Lib.validD s = true ∧ s.length ≤ M := ho
    obtain ⟨h1, h2, h3⟩ := read_string (B := B) (a := a) ho'.1 h
    obtain ⟨t, ht⟩ : ∃ t, B.drop a = (34 : UInt8) :: t := ⟨_, h⟩
    rw [valueM_eq, value_of ht (by decide) (x := { kind := 4, text := s }) (S' := S) (a' := a + (quoteM s).length) (by
      unfold Js.begunM
      rw [if_neg (by decide), if_neg (by decide), if_neg (by decide), if_pos (by decide), h3]
      rfl) (by omega)]
    rfl
  | .list l, d, a, S, rest, h, ho, hd, hs, hr => by
    simp only [sz] at hs
    simp only [dep] at hd
    obtain ⟨d, rfl⟩ : ∃ e, d = e + 1 := ⟨d - 1, by omega⟩
    have hx : B.drop a = (91 : UInt8) :: (txtL l true ++ (93 :: rest)) := by rw [h, txt]; simp
    obtain ⟨_, _, hx1⟩ := at_head hx
    have hE : Js.eachM B 93 (Js.listK (Js.valueM B d)) ([], S) a = .ok (roots l S.length, S ++ flatL l S.length) (a + (txtL l true).length + 2) := by
      unfold Js.eachM
      by_cases hl : l = .nil
      · subst hl
        have hx2 : B.drop (a + 1) = (93 : UInt8) :: rest := hx1
        obtain ⟨k1, k2, _⟩ := at_head hx2
        rw [ahead_at k1 (by rw [k2]; decide), k2]
        simp only [Js.Res.andThen]
        rw [if_pos (by rfl)]
        simp [roots, flatL, txtL]
      · obtain ⟨c, t, e1, e2, _⟩ : ∃ c t, txtL l true = c :: t ∧ beg c ∧ True := by
          cases l with
          | nil => exact absurd rfl hl
          | cons n j l =>
            obtain ⟨c, t, e, hc⟩ := txt_beg j
            exact ⟨c, t ++ txtL l false, by simp [txtL, e], hc, trivial⟩
        have hx2 : B.drop (a + 1) = c :: (t ++ (93 :: rest)) := by rw [hx1, e1]; rfl
        obtain ⟨k1, k2, _⟩ := at_head hx2
        have hb := beg_no e2
        rw [ahead_at k1 (by rw [k2]; exact hb.1), k2]
        simp only [Js.Res.andThen]
        rw [if_neg hb.2.1, backL l hl (ks := []) (S := S) (d := d) (a := a + 1) (k := B.length + 1) hx1 ho (by omega) (by omega) (by omega), List.nil_append]
        congr 1; omega
    rw [valueM_eq, value_of hx (by decide) (x := { kind := 5, kids := roots l S.length }) (S' := S ++ flatL l S.length) (a' := a + (txtL l true).length + 2) (by
      unfold Js.begunM
      rw [if_neg (by decide), if_neg (by decide), if_neg (by decide), if_neg (by decide), if_neg (by decide), if_pos (by decide)]
      show Js.listM B (some (Js.valueM B d)) S a = _
      unfold Js.listM
      simp only
      rw [hE]
      rfl) (by rw [List.length_append, flatL_len]; omega)]
    rw [List.length_append, flatL_len]
    simp only [flat, sz, txt, List.length_append, List.length_cons, List.length_nil, List.append_assoc]
    congr 1; omega
  | .obj l, d, a, S, rest, h, ho, hd, hs, hr => by
    simp only [sz] at hs
    simp only [dep] at hd
    obtain ⟨d, rfl⟩ : ∃ e, d = e + 1 := ⟨d - 1, by omega⟩
    have hx : B.drop a = (123 : UInt8) :: (txtO l true ++ (125 :: rest)) := by rw [h, txt]; simp
    obtain ⟨_, _, hx1⟩ := at_head hx
    have ho' : okL M l ∧ (names l).Nodup ∧ ∀ s ∈ names l, Lib.validD s = true ∧ s.length ≤ M := ho
    have hE : Js.eachM B 125 (Js.objK B (Js.valueM B d)) ([], [], S) a = .ok (names l, roots l S.length, S ++ flatL l S.length) (a + (txtO l true).length + 2) := by
      unfold Js.eachM
      by_cases hl : l = .nil
      · subst hl
        have hx2 : B.drop (a + 1) = (125 : UInt8) :: rest := hx1
        obtain ⟨k1, k2, _⟩ := at_head hx2
        rw [ahead_at k1 (by rw [k2]; decide), k2]
        simp only [Js.Res.andThen]
        rw [if_pos (by rfl)]
        simp [roots, flatL, txtO, names]
      · obtain ⟨t, e1⟩ : ∃ t, txtO l true = 34 :: t := by
          cases l with
          | nil => exact absurd rfl hl
          | cons n j l => exact ⟨_, by simp only [txtO, if_pos, List.nil_append, quoteM, List.cons_append]; rfl⟩
        have hx2 : B.drop (a + 1) = (34 : UInt8) :: (t ++ (125 :: rest)) := by rw [hx1, e1]; rfl
        obtain ⟨k1, k2, _⟩ := at_head hx2
        rw [ahead_at k1 (by rw [k2]; decide), k2]
        simp only [Js.Res.andThen]
        rw [if_neg (by decide), backO l hl (ns := []) (ks := []) (S := S) (d := d) (a := a + 1) (k := B.length + 1) hx1 ho'.1 ho'.2.2 (by simpa using ho'.2.1) (by omega) (by omega) (by omega), List.nil_append, List.nil_append]
        congr 1; omega
    rw [valueM_eq, value_of hx (by decide) (x := { kind := 6, names := names l, kids := roots l S.length }) (S' := S ++ flatL l S.length) (a' := a + (txtO l true).length + 2) (by
      unfold Js.begunM
      rw [if_neg (by decide), if_neg (by decide), if_neg (by decide), if_neg (by decide), if_neg (by decide), if_neg (by decide), if_pos (by decide)]
      show Js.objectM B (some (Js.valueM B d)) S a = _
      unfold Js.objectM
      simp only
      rw [hE]
      rfl) (by rw [List.length_append, flatL_len]; omega)]
    rw [List.length_append, flatL_len]
    simp only [flat, sz, txt, List.length_append, List.length_cons, List.length_nil, List.append_assoc]
    congr 1; omega
theorem backL : ∀ (l : JL), l ≠ .nil → ∀ {d a k : Nat} {ks : List Nat} {S : List Js.V} {rest : List UInt8}, B.drop a = txtL l true ++ (93 :: rest) → okL M l → depL l ≤ d → S.length + szL l ≤ 8192 → B.length < a + k →
    Js.eachL B 93 (Js.listK (Js.valueM B d)) k (ks, S) a = .ok (ks ++ roots l S.length, S ++ flatL l S.length) (a + (txtL l true).length + 1)
  | .nil, hn, _, _, _, _, _, _, _, _, _, _, _ => absurd rfl hn
  | .cons n j l, hn, d, a, k, ks, S, rest, h, ho, hd, hs, hk => by
    simp only [szL] at hs
    simp only [depL] at hd
    have ho' : ok M j ∧ okL M l := ho
    have e0 : txtL (.cons n j l) true = txt j ++ txtL l false := by simp [txtL]
    rw [e0] at h ⊢
    rw [List.append_assoc] at h
    have hal : a < B.length := by
      obtain ⟨c, t, e, _⟩ := txt_beg j
      rw [e] at h
      exact (at_head h).1
    obtain ⟨k, rfl⟩ : ∃ i, k = i + 1 := ⟨k - 1, by omega⟩
    have hr : EndN (txtL l false ++ (93 :: rest)) := by
      by_cases hl : l = .nil
      · subst hl; exact endN_cons (by decide)
      · rw [txtL_more hl]; exact endN_cons (by decide)
    have hv := back j (S := S) h ho'.1 (d := d) (by omega) (by omega) hr
    have hkid : Js.listK (Js.valueM B d) (ks, S) a = .ok (ks ++ [S.length + sz j - 1], S ++ flat j S.length) (a + (txt j).length) := by
      unfold Js.listK
      rw [hv]; rfl
    have hx1 : B.drop (a + (txt j).length) = txtL l false ++ (93 :: rest) := by rw [← List.drop_drop, h, List.drop_left]
    by_cases hl : l = .nil
    · subst hl
      have := each_end (k := k) hkid (close := 93) (t := rest) (by rw [hx1]; rfl) (by decide)
      rw [show ((93 : UInt8).toNat) = 93 from rfl] at this
      rw [this]
      simp [roots, flatL, txtL]
    · rw [txtL_more hl] at hx1
      rw [each_more hkid hx1 (by decide), backL l hl (ks := ks ++ [S.length + sz j - 1]) (S := S ++ flat j S.length) (d := d) (at_head hx1).2.2 ho'.2 (by omega) (by rw [List.length_append, flat_len]; omega) (by omega)]
      rw [List.length_append, flat_len, txtL_more hl]
      simp only [roots, flatL, List.append_assoc, List.cons_append, List.nil_append, List.length_append, List.length_cons]
      congr 1; omega
theorem backO : ∀ (l : JL), l ≠ .nil → ∀ {d a k : Nat} {ns : List (List UInt8)} {ks : List Nat} {S : List Js.V} {rest : List UInt8}, B.drop a = txtO l true ++ (125 :: rest) → okL M l → (∀ s ∈ names l, Lib.validD s = true ∧ s.length ≤ M) → (ns ++ names l).Nodup → depL l ≤ d → S.length + szL l ≤ 8192 → B.length < a + k →
    Js.eachL B 125 (Js.objK B (Js.valueM B d)) k (ns, ks, S) a = .ok (ns ++ names l, ks ++ roots l S.length, S ++ flatL l S.length) (a + (txtO l true).length + 1)
  | .nil, hn, _, _, _, _, _, _, _, _, _, _, _, _, _, _ => absurd rfl hn
  | .cons n j l, hn, d, a, k, ns, ks, S, rest, h, ho, hm, hnd, hd, hs, hk => by
    simp only [szL] at hs
    simp only [depL] at hd
    simp only [names] at hm hnd
    have ho' : ok M j ∧ okL M l := ho
    have e0 : txtO (.cons n j l) true = quoteM n ++ (58 :: (txt j ++ txtO l false)) := by simp [txtO]
    rw [e0] at h ⊢
    rw [List.append_assoc] at h
    obtain ⟨q1, q2, q3⟩ := read_string (B := B) (a := a) (hm n (by simp)).1 h
    obtain ⟨k, rfl⟩ : ∃ i, k = i + 1 := ⟨k - 1, by omega⟩
    have hr : EndN (txtO l false ++ (125 :: rest)) := by
      by_cases hl : l = .nil
      · subst hl; exact endN_cons (by decide)
      · rw [txtO_more hl]; exact endN_cons (by decide)
    have hx0 : B.drop (a + (quoteM n).length) = 58 :: (txt j ++ (txtO l false ++ (125 :: rest))) := by
      rw [← List.drop_drop, h, List.drop_left, List.cons_append, List.append_assoc]
    obtain ⟨c1, c2, c3⟩ := at_head hx0
    have hv := back j (S := S) c3 ho'.1 (d := d) (by omega) (by omega) hr
    have hnn : ¬ n ∈ ns := fun hin => by
      rw [List.nodup_append] at hnd
      exact hnd.2.2 n hin n (by simp) rfl
    have hnm : Js.nameM B ns a = .ok n (a + (quoteM n).length) := by
      unfold Js.nameM
      rw [ahead_at q2 (by rw [q1]; decide), q1]
      simp only [Js.Res.andThen]
      rw [if_pos trivial, q3]
      simp only
      rw [if_neg hnn]
    have hkid : Js.objK B (Js.valueM B d) (ns, ks, S) a = .ok (ns ++ [n], ks ++ [S.length + sz j - 1], S ++ flat j S.length) (a + (quoteM n).length + 1 + (txt j).length) := by
      unfold Js.objK
      simp only
      rw [hnm]
      simp only [Js.Res.andThen]
      rw [skip_no (fun _ => by rw [c2]; decide), show (58 : Nat) = (58 : UInt8).toNat from rfl, want_at hx0]
      simp only
      rw [hv]
    have hx1 : B.drop (a + (quoteM n).length + 1 + (txt j).length) = txtO l false ++ (125 :: rest) := by rw [← List.drop_drop, c3, List.drop_left]
    by_cases hl : l = .nil
    · subst hl
      have := each_end (k := k) hkid (close := 125) (t := rest) (by rw [hx1]; rfl) (by decide)
      rw [show ((125 : UInt8).toNat) = 125 from rfl] at this
      rw [this]
      simp only [names, roots, flatL, txtO, List.append_nil, List.length_append, List.length_cons]
      congr 1; omega
    · rw [txtO_more hl] at hx1
      rw [each_more hkid hx1 (by decide), backO l hl (ns := ns ++ [n]) (ks := ks ++ [S.length + sz j - 1]) (S := S ++ flat j S.length) (d := d) (at_head hx1).2.2 ho'.2 (fun s hs => hm s (by simp [hs])) (by simpa using hnd) (by omega) (by rw [List.length_append, flat_len]; omega) (by omega)]
      rw [List.length_append, flat_len, txtO_more hl]
      simp only [names, roots, flatL, List.append_assoc, List.cons_append, List.nil_append, List.length_append, List.length_cons]
      congr 1; omega
end
end
/-- The text of a tree, read whole. -/
theorem back_read {M : Nat} {j : J} (ho : ok M j) (hd : dep j ≤ 16) (hs : sz j ≤ 8192) : Js.readM (txt j) = .ok (flat j 0) 0 := by
  have h := back (B := txt j) (M := M) j (d := 16) (a := 0) (S := []) (rest := []) (by simp) ho hd (by simpa using hs) (fun c hc => by simp at hc)
  unfold Js.readM
  rw [h]
  simp only [Js.Res.andThen, Nat.zero_add, List.nil_append, List.length_nil]
  rw [skip_no (fun h => absurd h (Nat.lt_irrefl _)), if_neg (Nat.lt_irrefl _)]
end Go.Proofs.YtpffhckimilppaaDoor.Jt
/-  Plain: a tree as it grows is one that Check lets pass, and its text is what is written of it. -/
namespace Go.Proofs.YtpffhckimilppaaDoor.Jt
open Go.RowKit
set_option maxRecDepth 100000

def toI (x : Js.V) : VI := { kind := x.kind, truth := x.truth, num := x.num, text := x.text, names := x.names, kids := x.kids.map fun k : Nat => (k : Int) }
def flatI (j : J) (o : Nat) : List VI := (flat j o).map toI
def flatIL (l : JL) (o : Nat) : List VI := (flatL l o).map toI
def rootsI (l : JL) (o : Nat) : List Int := (roots l o).map fun k : Nat => (k : Int)
theorem flatI_len (j : J) (o : Nat) : (flatI j o).length = sz j := by rw [flatI, List.length_map, flat_len]
theorem flatIL_len (l : JL) (o : Nat) : (flatIL l o).length = szL l := by rw [flatIL, List.length_map, flatL_len]
def nodeL (l : JL) (o : Nat) : VI := { kind := 5, kids := rootsI l o }
def nodeO (l : JL) (o : Nat) : VI := { kind := 6, names := names l, kids := rootsI l o }
theorem flatI_list (l : JL) (o : Nat) : flatI (.list l) o = flatIL l o ++ [nodeL l o] := by simp [flatI, flatIL, flat, toI, nodeL, rootsI]
theorem flatI_obj (l : JL) (o : Nat) : flatI (.obj l) o = flatIL l o ++ [nodeO l o] := by simp [flatI, flatIL, flat, toI, nodeO, rootsI]
theorem flatIL_cons (n : List UInt8) (j : J) (l : JL) (o : Nat) : flatIL (.cons n j l) o = flatI j o ++ flatIL l (o + sz j) := by simp [flatI, flatIL, flatL]
theorem rootsI_cons (n : List UInt8) (j : J) (l : JL) (o : Nat) : rootsI (.cons n j l) o = ((o + sz j - 1 : Nat) : Int) :: rootsI l (o + sz j) := by simp [rootsI, roots]
def kidsOf (F : List VI) : List Int := (F.map VI.kids).flatten
theorem kidsOf_app (A B : List VI) : kidsOf (A ++ B) = kidsOf A ++ kidsOf B := by simp [kidsOf]
theorem kidsOf_one (x : VI) : kidsOf [x] = x.kids := by simp [kidsOf]
/-- Is i at or behind o, and ahead of e? -/
def inB (o e : Nat) (i : Int) : Nat := if (o : Int) ≤ i ∧ i < (e : Int) then 1 else 0
theorem inB_join {o m e : Nat} (i : Int) (h1 : o ≤ m) (h2 : m ≤ e) : inB o m i + inB m e i = inB o e i := by
  unfold inB
  by_cases a : (o : Int) ≤ i ∧ i < (m : Int)
  · rw [if_pos a, if_neg (by omega), if_pos (by omega)]
  · by_cases b : (m : Int) ≤ i ∧ i < (e : Int)
    · rw [if_neg a, if_pos b, if_pos (by omega)]
    · rw [if_neg a, if_neg b, if_neg (by omega)]
theorem inB_none (o : Nat) (i : Int) : inB o o i = 0 := by unfold inB; rw [if_neg (by omega)]
theorem inB_one (o : Nat) (i : Int) (l : List Int) : ((o : Int) :: l).count i = inB o (o + 1) i + l.count i := by
  rw [List.count_cons, Nat.add_comm]
  unfold inB
  by_cases h : (o : Int) = i
  · rw [if_pos (by simpa using h), if_pos (by omega)]
  · rw [if_neg (by simpa using h), if_neg (by omega)]
mutual
theorem cnt : ∀ (j : J) (o : Nat) (i : Int), (kidsOf (flatI j o)).count i = inB o (o + sz j - 1) i
  | .null, o, i => by simp [flatI, flat, toI, kidsOf, sz, inB_none]
  | .truth _, o, i => by simp [flatI, flat, toI, kidsOf, sz, inB_none]
  | .num _, o, i => by simp [flatI, flat, toI, kidsOf, sz, inB_none]
  | .str _, o, i => by simp [flatI, flat, toI, kidsOf, sz, inB_none]
  | .list l, o, i => by
    rw [flatI_list, kidsOf_app, kidsOf_one, List.count_append]
    simp only [nodeL, sz]
    exact cntL l o i
  | .obj l, o, i => by
    rw [flatI_obj, kidsOf_app, kidsOf_one, List.count_append]
    simp only [nodeO, sz]
    exact cntL l o i
theorem cntL : ∀ (l : JL) (o : Nat) (i : Int), (kidsOf (flatIL l o)).count i + (rootsI l o).count i = inB o (o + szL l) i
  | .nil, o, i => by simp [flatIL, flatL, kidsOf, rootsI, roots, szL, inB_none]
  | .cons n j l, o, i => by
    have hp := sz_pos j
    have h1 := cnt j o i
    have h2 := cntL l (o + sz j) i
    rw [flatIL_cons, kidsOf_app, List.count_append, rootsI_cons, inB_one, h1]
    simp only [szL]
    have e1 := inB_join (o := o) (m := o + sz j - 1) (e := o + sz j - 1 + 1) i (by omega) (by omega)
    have e2 := inB_join (o := o) (m := o + sz j) (e := o + sz j + szL l) i (by omega) (by omega)
    rw [show o + sz j - 1 + 1 = o + sz j by omega] at *
    rw [show o + (sz j + szL l) = o + sz j + szL l by omega]
    omega
end
theorem inR_app : ∀ (A B : List (List Int)) (i : Nat), InR i (A ++ B) ↔ InR i A ∧ InR (i + A.length) B
  | [], B, i => by simp [InR]
  | a :: A, B, i => by
    simp only [List.cons_append, InR, List.length_cons]
    rw [inR_app A B (i + 1), show i + 1 + A.length = i + (A.length + 1) by omega]
    exact ⟨fun ⟨h1, h2, h3⟩ => ⟨⟨h1, h2⟩, h3⟩, fun ⟨⟨h1, h2⟩, h3⟩ => ⟨h1, h2, h3⟩⟩
theorem roots_in {l : JL} {o : Nat} : ∀ k ∈ rootsI l o, 0 ≤ k ∧ k < ((o + szL l : Nat) : Int) := by
  intro k hk
  have h := cntL l o k
  have h1 : 1 ≤ (rootsI l o).count k := List.one_le_count_iff.2 hk
  have h2 : inB o (o + szL l) k ≠ 0 := by omega
  unfold inB at h2
  split at h2
  · omega
  · exact absurd rfl h2
mutual
theorem inr : ∀ (j : J) (o : Nat), InR o ((flatI j o).map VI.kids)
  | .null, o => ⟨fun k hk => by simp [toI] at hk, trivial⟩
  | .truth _, o => ⟨fun k hk => by simp [toI] at hk, trivial⟩
  | .num _, o => ⟨fun k hk => by simp [toI] at hk, trivial⟩
  | .str _, o => ⟨fun k hk => by simp [toI] at hk, trivial⟩
  | .list l, o => by
    rw [flatI_list, List.map_append, inR_app]
    refine ⟨inrL l o, ?_, trivial⟩
    rw [List.length_map, flatIL_len]
    exact fun k hk => roots_in k hk
  | .obj l, o => by
    rw [flatI_obj, List.map_append, inR_app]
    refine ⟨inrL l o, ?_, trivial⟩
    rw [List.length_map, flatIL_len]
    exact fun k hk => roots_in k hk
theorem inrL : ∀ (l : JL) (o : Nat), InR o ((flatIL l o).map VI.kids)
  | .nil, o => trivial
  | .cons n j l, o => by
    rw [flatIL_cons, List.map_append, inR_app, List.length_map, flatI_len]
    exact ⟨inr j o, inrL l (o + sz j)⟩
end
theorem joined_flat (j : J) : joinedB ((flatI j 0).map VI.kids) = true := by
  have hp := sz_pos j
  have hl : ((flatI j 0).map VI.kids).length = sz j := by rw [List.length_map, flatI_len]
  rw [joined_iff (by intro e; rw [e] at hl; simp at hl; omega)]
  refine ⟨inr j 0, fun i hi => ?_⟩
  rw [hl] at hi
  have := cnt j 0 i
  unfold kidsOf at this
  rw [this]
  unfold inB
  rw [if_pos (by omega)]
mutual
theorem plains {M : Nat} : ∀ (j : J) (o : Nat), ok M j → (flatI j o).all plainB = true
  | .null, o, _ => by simp [flatI, flat, toI, plainB, spareB]
  | .truth b, o, _ => by simp [flatI, flat, toI, plainB, spareB]
  | .num n, o, h => by
    have h' : fitsB n = true := h
    simp [flatI, flat, toI, plainB, spareB, h']
  | .str s, o, h => by
    have h' : Lib.validD s = true ∧ s.length ≤ M := h
    simp [flatI, flat, toI, plainB, spareB, h'.1]
  | .list l, o, h => by
    rw [flatI_list, List.all_append, plainsL l o h]
    simp [nodeL, plainB, spareB]
  | .obj l, o, h => by
    have h' : okL M l ∧ (names l).Nodup ∧ ∀ s ∈ names l, Lib.validD s = true ∧ s.length ≤ M := h
    rw [flatI_obj, List.all_append, plainsL l o h'.1]
    have h1 : (rootsI l o).length = (names l).length := by rw [rootsI, List.length_map, roots_len]
    have h2 : apartB (names l) = true := by
      unfold apartB
      rw [decide_eq_true h'.2.1, Bool.true_and, List.all_eq_true]
      exact fun s hs => (h'.2.2 s hs).1
    simp [nodeO, plainB, spareB, h1, h2]
theorem plainsL {M : Nat} : ∀ (l : JL) (o : Nat), okL M l → (flatIL l o).all plainB = true
  | .nil, o, _ => rfl
  | .cons n j l, o, h => by
    have h' : ok M j ∧ okL M l := h
    rw [flatIL_cons, List.all_append, plains j o h'.1, plainsL l (o + sz j) h'.2]; rfl
end
/-! How deep. -/
theorem dpT_app1 (S : List VI) (x : VI) : dpT (S ++ [x]) = dpT S ++ [dpV1 (dpT S) x] := dpT_next S x
theorem dpT_len (S : List VI) : (dpT S).length = S.length := (dpT_all S).1
theorem getD_left (A B : List Int) (i : Nat) (h : i < A.length) : (A ++ B).getD i 0 = A.getD i 0 := by
  simp [List.getD_eq_getElem?_getD, List.getElem?_append_left h]
theorem getD_at (A : List Int) (x : Int) (n : Nat) (h : A.length = n) : (A ++ [x]).getD n 0 = x := by
  subst h; simp [List.getD_eq_getElem?_getD]
def maxK (ds : List Int) (ks : List Int) (m : Int) : Int := ks.foldl (fun m k => max m (ds.getD k.toNat 0)) m
theorem dpK_max (ds ks : List Int) : dpK ds ks = maxK ds ks 0 := rfl
/-- Depths behind S: more, and the last one is known. -/
structure Dp (S F : List VI) (d : Nat) : Prop where
  pre : ∃ E, dpT (S ++ F) = dpT S ++ E
  last : (dpT (S ++ F)).getD (S.length + F.length - 1) 0 = d
structure DpL (S : List VI) (l : JL) : Prop where
  pre : ∃ E, dpT (S ++ flatIL l S.length) = dpT S ++ E
  kids : ∀ m : Int, 0 ≤ m → maxK (dpT (S ++ flatIL l S.length)) (rootsI l S.length) m = max m (depL l)
theorem dp_leaf (S : List VI) (x : VI) (h : ¬ (x.kind = 5 ∨ x.kind = 6)) : Dp S [x] 0 := by
  refine ⟨⟨_, dpT_app1 S x⟩, ?_⟩
  rw [dpT_app1, List.length_cons, List.length_nil, show S.length + (0 + 1) - 1 = S.length by omega, getD_at _ _ _ (dpT_len S), dpV1, if_neg h]
  rfl
theorem dp_node {S : List VI} {l : JL} (h : DpL S l) (x : VI) (hx : x.kind = 5 ∨ x.kind = 6) (hk : x.kids = rootsI l S.length) : Dp S (flatIL l S.length ++ [x]) (depL l + 1) := by
  obtain ⟨E, hE⟩ := h.pre
  have e1 : dpT (S ++ (flatIL l S.length ++ [x])) = dpT (S ++ flatIL l S.length) ++ [dpV1 (dpT (S ++ flatIL l S.length)) x] := by
    rw [← List.append_assoc, dpT_app1]
  refine ⟨⟨E ++ [dpV1 (dpT (S ++ flatIL l S.length)) x], by rw [e1, hE, List.append_assoc]⟩, ?_⟩
  rw [e1, getD_at _ _ _ (by rw [dpT_len, List.length_append, List.length_append]; simp), dpV1, if_pos hx, hk, dpK_max, h.kids 0 (Int.le_refl _)]
  omega
mutual
theorem deeps : ∀ (j : J) (S : List VI), Dp S (flatI j S.length) (dep j)
  | .null, S => dp_leaf S _ (by simp [toI])
  | .truth _, S => dp_leaf S _ (by simp [toI])
  | .num _, S => dp_leaf S _ (by simp [toI])
  | .str _, S => dp_leaf S _ (by simp [toI])
  | .list l, S => by
    rw [flatI_list, dep]
    exact dp_node (deepsL l S) _ (.inl rfl) rfl
  | .obj l, S => by
    rw [flatI_obj, dep]
    exact dp_node (deepsL l S) _ (.inr rfl) rfl
theorem deepsL : ∀ (l : JL) (S : List VI), DpL S l
  | .nil, S => ⟨⟨[], by simp [flatIL, flatL]⟩, fun m hm => by simp [rootsI, roots, maxK, depL]; omega⟩
  | .cons n j l, S => by
    have h1 := deeps j S
    have h2 := deepsL l (S ++ flatI j S.length)
    have hl : (S ++ flatI j S.length).length = S.length + sz j := by rw [List.length_append, flatI_len]
    have hp := sz_pos j
    obtain ⟨E1, e1⟩ := h1.pre
    obtain ⟨E2, e2⟩ := h2.pre
    have hk := h2.kids
    have hlast := h1.last
    rw [hl] at e2 hk
    rw [flatI_len] at hlast
    have e3 : S ++ flatIL (.cons n j l) S.length = S ++ flatI j S.length ++ flatIL l (S.length + sz j) := by rw [flatIL_cons, List.append_assoc]
    refine ⟨⟨E1 ++ E2, by rw [e3, e2, e1, List.append_assoc]⟩, fun m hm => ?_⟩
    rw [rootsI_cons, e3]
    show maxK _ (rootsI l (S.length + sz j)) (max m _) = _
    have e4 : (dpT (S ++ flatI j S.length ++ flatIL l (S.length + sz j))).getD ((S.length + sz j - 1 : Nat) : Int).toNat 0 = dep j := by
      rw [Int.toNat_natCast, e2, getD_left _ _ _ (by rw [dpT_len, hl]; omega), hlast]
    rw [e4, hk _ (by omega)]
    simp only [depL]
    omega
end
theorem check_flat {M : Nat} {j : J} (ho : ok M j) (hd : dep j ≤ 16) (hs : sz j ≤ 8192) : checkE (flatI j 0) = 0 := by
  have hp := sz_pos j
  have hl := flatI_len j 0
  have h1 := (deeps j []).last
  simp only [List.nil_append, List.length_nil, Nat.zero_add] at h1
  unfold checkE
  rw [if_neg (by omega), if_neg (by omega), if_pos ⟨joined_flat j, plains j 0 ho⟩, h1, if_neg (by omega)]
/-! The text. -/
/-- The values of F stand in T from o on. -/
def Lies (T F : List VI) (o : Nat) : Prop := ∀ i, i < F.length → T[o + i]? = F[i]?
theorem Lies.left {T A B : List VI} {o : Nat} (h : Lies T (A ++ B) o) : Lies T A o := fun i hi => by
  rw [h i (by rw [List.length_append]; omega), List.getElem?_append_left hi]
theorem Lies.right {T A B : List VI} {o : Nat} (h : Lies T (A ++ B) o) : Lies T B (o + A.length) := fun i hi => by
  have := h (A.length + i) (by rw [List.length_append]; omega)
  rw [List.getElem?_append_right (by omega), show A.length + i - A.length = i by omega, ← Nat.add_assoc] at this
  exact this
theorem write_one {T : List VI} {x : VI} {n o : Nat} (h : Lies T [x] o) : writeF T (n + 1) (o : Int) = valT (writeF T n) x := by
  show valT _ (T.getD (o : Int).toNat {}) = _
  have := h 0 (by simp)
  rw [Nat.add_zero] at this
  rw [Int.toNat_natCast, List.getD, this]; rfl
theorem sz_dep : (j : J) → 1 ≤ sz j := sz_pos
mutual
theorem texts {T : List VI} : ∀ (j : J) (o n : Nat), Lies T (flatI j o) o → sz j ≤ n → writeF T n ((o + sz j - 1 : Nat) : Int) = txt j
  | .null, o, n, h, hn => by
    simp only [sz] at hn ⊢
    obtain ⟨n, rfl⟩ : ∃ k, n = k + 1 := ⟨n - 1, by omega⟩
    rw [show o + 1 - 1 = o by omega, write_one h]; rfl
  | .truth b, o, n, h, hn => by
    simp only [sz] at hn ⊢
    obtain ⟨n, rfl⟩ : ∃ k, n = k + 1 := ⟨n - 1, by omega⟩
    rw [show o + 1 - 1 = o by omega, write_one h]; rfl
  | .num _, o, n, h, hn => by
    simp only [sz] at hn ⊢
    obtain ⟨n, rfl⟩ : ∃ k, n = k + 1 := ⟨n - 1, by omega⟩
    rw [show o + 1 - 1 = o by omega, write_one h]; rfl
  | .str _, o, n, h, hn => by
    simp only [sz] at hn ⊢
    obtain ⟨n, rfl⟩ : ∃ k, n = k + 1 := ⟨n - 1, by omega⟩
    rw [show o + 1 - 1 = o by omega, write_one h]; rfl
  | .list l, o, n, h, hn => by
    simp only [sz] at hn ⊢
    obtain ⟨n, rfl⟩ : ∃ k, n = k + 1 := ⟨n - 1, by omega⟩
    rw [flatI_list] at h
    have h2 := h.right
    rw [flatIL_len] at h2
    rw [show o + (szL l + 1) - 1 = o + szL l by omega, write_one h2]
    have ht := textsL l o n 0 h.left (by omega)
    show [91] ++ kidsT (fun _ k => writeF T n k) 0 (rootsI l o) ++ [93] = _
    rw [ht]; rfl
  | .obj l, o, n, h, hn => by
    simp only [sz] at hn ⊢
    obtain ⟨n, rfl⟩ : ∃ k, n = k + 1 := ⟨n - 1, by omega⟩
    rw [flatI_obj] at h
    have h2 := h.right
    rw [flatIL_len] at h2
    rw [show o + (szL l + 1) - 1 = o + szL l by omega, write_one h2]
    have ht := textsO l o n 0 (names l) h.left (by omega) (by simp)
    show [123] ++ kidsT (fun i k => quoteM ((names l).getD i []) ++ [58] ++ writeF T n k) 0 (rootsI l o) ++ [125] = _
    rw [ht]; rfl
theorem textsL {T : List VI} : ∀ (l : JL) (o n i : Nat), Lies T (flatIL l o) o → szL l ≤ n → kidsT (fun _ k => writeF T n k) i (rootsI l o) = txtL l (i == 0)
  | .nil, o, n, i, _, _ => rfl
  | .cons m j l, o, n, i, h, hn => by
    simp only [szL] at hn
    rw [flatIL_cons] at h
    have h1 := texts j o n h.left (by omega)
    have h2 := h.right
    rw [flatI_len] at h2
    have h3 := textsL l (o + sz j) n (i + 1) h2 (by omega)
    rw [rootsI_cons]
    show (if i = 0 then [] else [44]) ++ writeF T n _ ++ kidsT _ (i + 1) _ = _
    rw [h1, h3]
    simp only [txtL, beq_iff_eq]
    rfl
theorem textsO {T : List VI} : ∀ (l : JL) (o n i : Nat) (ns : List (List UInt8)), Lies T (flatIL l o) o → szL l ≤ n → ns.drop i = names l → kidsT (fun i k => quoteM (ns.getD i []) ++ [58] ++ writeF T n k) i (rootsI l o) = txtO l (i == 0)
  | .nil, o, n, i, ns, _, _, _ => rfl
  | .cons m j l, o, n, i, ns, h, hn, hd => by
    simp only [szL] at hn
    simp only [names] at hd
    rw [flatIL_cons] at h
    have h1 := texts j o n h.left (by omega)
    have h2 := h.right
    rw [flatI_len] at h2
    have h3 := textsO l (o + sz j) n (i + 1) ns h2 (by omega) (by rw [← List.drop_drop, hd]; rfl)
    have h4 : ns.getD i [] = m := by
      have : (ns.drop i)[0]? = some m := by rw [hd]; rfl
      rw [List.getElem?_drop, Nat.add_zero] at this
      rw [List.getD, this]; rfl
    rw [rootsI_cons]
    show (if i = 0 then [] else [44]) ++ (quoteM (ns.getD i []) ++ [58] ++ writeF T n _) ++ kidsT _ (i + 1) _ = _
    rw [h1, h3, h4]
    simp only [txtO, beq_iff_eq]
    rfl
end
theorem text_flat {M : Nat} {j : J} (ho : ok M j) (hd : dep j ≤ 16) (hs : sz j ≤ 8192) : textM (flatI j 0) = txt j := by
  have hp := sz_pos j
  have h := texts (T := flatI j 0) j 0 (sz j) (fun i _ => by rw [Nat.zero_add]) (Nat.le_refl _)
  rw [Nat.zero_add] at h
  rw [textM, if_pos (check_flat ho hd hs), flatI_len, ← h]
  congr 1; omega
end Go.Proofs.YtpffhckimilppaaDoor.Jt
/-  Plain: a tree that Check lets pass is one that grows, with the same text. -/
namespace Go.Proofs.YtpffhckimilppaaDoor.Jt
open Go.RowKit
set_option maxRecDepth 100000

def mkL (rec : Int → J) : List (List UInt8) → List Int → JL
  | _, [] => .nil
  | ns, k :: ks => .cons (ns.headD []) (rec k) (mkL rec ns.tail ks)
def valJ (rec : Int → J) (x : VI) : J :=
  if x.kind = 1 then .null
  else if x.kind = 2 then .truth x.truth
  else if x.kind = 3 then .num x.num
  else if x.kind = 4 then .str x.text
  else if x.kind = 5 then .list (mkL rec [] x.kids)
  else .obj (mkL rec x.names x.kids)
/-- The value at a place, with all that is below it. -/
def treeF (T : List VI) : Nat → Int → J
  | 0, _ => .null
  | n + 1, k => valJ (treeF T n) (T.getD k.toNat {})
theorem mkL_congr {r r' : Int → J} : ∀ {ks : List Int} {ns : List (List UInt8)}, (∀ k ∈ ks, r k = r' k) → mkL r ns ks = mkL r' ns ks
  | [], _, _ => rfl
  | k :: ks, ns, h => by
    simp only [mkL]
    rw [h k (by simp), mkL_congr (ks := ks) fun k hk => h k (by simp [hk])]
theorem valJ_congr {r r' : Int → J} {x : VI} (h : ∀ k ∈ x.kids, r k = r' k) : valJ r x = valJ r' x := by
  unfold valJ
  rw [mkL_congr (ns := []) h, mkL_congr (ns := x.names) h]
theorem mkL_txtL (r : Int → J) : ∀ (ks : List Int) (ns : List (List UInt8)) (i : Nat), txtL (mkL r ns ks) (i == 0) = kidsT (fun _ k => txt (r k)) i ks
  | [], _, _ => rfl
  | k :: ks, ns, i => by
    have h := mkL_txtL r ks ns.tail (i + 1)
    show (if (i == 0) = true then [] else [44]) ++ txt (r k) ++ txtL (mkL r ns.tail ks) false = (if i = 0 then [] else [44]) ++ txt (r k) ++ kidsT _ (i + 1) ks
    rw [← h]
    simp only [beq_iff_eq]
    rfl
theorem drop_head (ns : List (List UInt8)) (i : Nat) : (ns.drop i).headD [] = ns.getD i [] := by
  rw [List.getD, List.headD_eq_head?_getD, List.head?_drop]
theorem mkL_txtO (r : Int → J) (ns : List (List UInt8)) : ∀ (ks : List Int) (i : Nat), txtO (mkL r (ns.drop i) ks) (i == 0) = kidsT (fun i k => quoteM (ns.getD i []) ++ [58] ++ txt (r k)) i ks
  | [], _ => rfl
  | k :: ks, i => by
    have h := mkL_txtO r ns ks (i + 1)
    show (if (i == 0) = true then [] else [44]) ++ (quoteM ((ns.drop i).headD []) ++ [58] ++ txt (r k)) ++ txtO (mkL r (ns.drop i).tail ks) false = (if i = 0 then [] else [44]) ++ (quoteM (ns.getD i []) ++ [58] ++ txt (r k)) ++ kidsT _ (i + 1) ks
    rw [← h, drop_head, List.tail_drop]
    simp only [beq_iff_eq]
    rfl
theorem valJ_txt (r : Int → J) (x : VI) : txt (valJ r x) = valT (fun k => txt (r k)) x := by
  unfold valJ valT
  split
  · rfl
  · split
    · rfl
    · split
      · rfl
      · split
        · rfl
        · split
          · rw [txt, ← mkL_txtL r x.kids [] 0]; rfl
          · have := mkL_txtO r x.names x.kids 0
            rw [List.drop_zero] at this
            rw [txt, ← this]; rfl
theorem mkL_sz (r : Int → J) : ∀ (ks : List Int) (ns : List (List UInt8)), szL (mkL r ns ks) = (ks.map fun k => sz (r k)).sum
  | [], _ => rfl
  | k :: ks, ns => by simp only [mkL, szL, List.map_cons, List.sum_cons, mkL_sz r ks]
theorem valJ_sz (r : Int → J) (x : VI) : sz (valJ r x) ≤ 1 + (x.kids.map fun k => sz (r k)).sum := by
  unfold valJ
  split
  · simp [sz]
  · split
    · simp [sz]
    · split
      · simp [sz]
      · split
        · simp [sz]
        · split
          · rw [sz, mkL_sz]; omega
          · rw [sz, mkL_sz]; omega
theorem mkL_dep (r : Int → J) (ds : List Int) : ∀ (ks : List Int) (ns : List (List UInt8)), (∀ k ∈ ks, (dep (r k) : Int) = ds.getD k.toNat 0) → ∀ m : Int, 0 ≤ m → maxK ds ks m = max m (depL (mkL r ns ks))
  | [], _, _, m, hm => by simp [maxK, mkL, depL]; omega
  | k :: ks, ns, h, m, hm => by
    have h1 := h k (by simp)
    have h2 := mkL_dep r ds ks ns.tail (fun k hk => h k (by simp [hk])) (max m (dep (r k))) (by omega)
    show maxK ds ks (max m (ds.getD k.toNat 0)) = _
    rw [← h1, h2]
    simp only [mkL, depL]
    omega
theorem valJ_dep (r : Int → J) (ds : List Int) (x : VI) (hk : 1 ≤ x.kind ∧ x.kind ≤ 6) (h : ∀ k ∈ x.kids, (dep (r k) : Int) = ds.getD k.toNat 0) : (dep (valJ r x) : Int) = dpV1 ds x := by
  unfold valJ dpV1
  by_cases h1 : x.kind = 1
  · rw [if_pos h1, if_neg (by omega)]; rfl
  · rw [if_neg h1]
    by_cases h2 : x.kind = 2
    · rw [if_pos h2, if_neg (by omega)]; rfl
    · rw [if_neg h2]
      by_cases h3 : x.kind = 3
      · rw [if_pos h3, if_neg (by omega)]; rfl
      · rw [if_neg h3]
        by_cases h4 : x.kind = 4
        · rw [if_pos h4, if_neg (by omega)]; rfl
        · rw [if_neg h4, if_pos (c := x.kind = 5 ∨ x.kind = 6) (by omega), dpK_max]
          by_cases h5 : x.kind = 5
          · rw [if_pos h5, dep, mkL_dep r ds x.kids [] h 0 (Int.le_refl _)]; omega
          · rw [if_neg h5, dep, mkL_dep r ds x.kids x.names h 0 (Int.le_refl _)]; omega
theorem mkL_names (r : Int → J) : ∀ (ks : List Int) (ns : List (List UInt8)), ns.length = ks.length → names (mkL r ns ks) = ns
  | [], ns, h => by simp at h; subst h; rfl
  | k :: ks, [], h => by simp at h
  | k :: ks, n :: ns, h => by
    simp only [mkL, names, List.headD_cons, List.tail_cons]
    rw [mkL_names r ks ns (by simpa using h)]
theorem mkL_ok {M : Nat} (r : Int → J) : ∀ (ks : List Int) (ns : List (List UInt8)), (∀ k ∈ ks, ok M (r k)) → okL M (mkL r ns ks)
  | [], _, _ => trivial
  | k :: ks, ns, h => ⟨h k (by simp), mkL_ok r ks ns.tail fun k hk => h k (by simp [hk])⟩
theorem valJ_ok {M : Nat} (r : Int → J) (x : VI) (hp : plainB x = true) (ht : x.text.length ≤ M) (hn : ∀ s ∈ x.names, s.length ≤ M) (h : ∀ k ∈ x.kids, ok M (r k)) : ok M (valJ r x) := by
  unfold plainB at hp
  rw [Bool.and_eq_true] at hp
  have h2 := hp.2
  unfold valJ
  split
  · trivial
  · split
    · trivial
    · split at h2
      · rename_i e1 e2 e3
        rw [if_neg (by omega), if_neg (by omega), if_pos (by omega)]
        exact mkL_ok r x.kids [] h
      · split at h2
        · rename_i e3
          rw [if_pos e3]; exact h2
        · rename_i e3
          rw [if_neg e3]
          split at h2
          · rename_i e4
            rw [if_pos e4]; exact ⟨h2, ht⟩
          · rename_i e4
            rw [if_neg e4]
            split at h2
            · rename_i e6
              rw [if_neg (by omega)]
              rw [Bool.and_eq_true] at h2
              have hl : x.names.length = x.kids.length := by simpa using h2.1
              have ha := h2.2
              unfold apartB at ha
              rw [Bool.and_eq_true, List.all_eq_true] at ha
              refine ⟨mkL_ok r x.kids x.names h, ?_, ?_⟩
              · rw [mkL_names r x.kids x.names hl]; exact of_decide_eq_true ha.1
              · rw [mkL_names r x.kids x.names hl]; exact fun s hs => ⟨ha.2 s hs, hn s hs⟩
            · cases h2
theorem dpT_pre : ∀ (B A : List VI), ∃ E, dpT (A ++ B) = dpT A ++ E
  | [], A => ⟨[], by simp⟩
  | x :: B, A => by
    obtain ⟨E, h⟩ := dpT_pre B (A ++ [x])
    exact ⟨[dpV1 (dpT A) x] ++ E, by rw [show A ++ x :: B = A ++ [x] ++ B by simp, h, dpT_app1, List.append_assoc]⟩
theorem maxK_left (A E : List Int) : ∀ (ks : List Int) (m : Int), (∀ k ∈ ks, 0 ≤ k ∧ k < (A.length : Int)) → maxK (A ++ E) ks m = maxK A ks m
  | [], _, _ => rfl
  | k :: ks, m, h => by
    have hk := h k (by simp)
    show maxK (A ++ E) ks (max m ((A ++ E).getD k.toNat 0)) = maxK A ks (max m (A.getD k.toNat 0))
    rw [getD_left A E k.toNat (by omega), maxK_left A E ks _ fun k hk => h k (by simp [hk])]
theorem dp_at {T : List VI} {k : Nat} {x : VI} (hx : T[k]? = some x) (hk : ∀ y ∈ x.kids, 0 ≤ y ∧ y < (k : Int)) : (dpT T).getD k 0 = dpV1 (dpT T) x := by
  have hkl : k < T.length := (List.getElem?_eq_some_iff.1 hx).1
  have e : T = (T.take k ++ [x]) ++ T.drop (k + 1) := by
    rw [List.append_assoc, show [x] ++ T.drop (k + 1) = T.drop k by rw [List.drop_eq_getElem_cons hkl, (List.getElem?_eq_some_iff.1 hx).2]; rfl, List.take_append_drop]
  obtain ⟨E, hE⟩ := dpT_pre (T.drop (k + 1)) (T.take k ++ [x])
  rw [← e] at hE
  have hl : (dpT (T.take k)).length = k := by rw [dpT_len, List.length_take]; omega
  rw [dpT_app1] at hE
  have h1 : (dpT T).getD k 0 = dpV1 (dpT (T.take k)) x := by
    rw [hE, getD_left _ _ _ (by rw [List.length_append, hl]; simp), getD_at _ _ _ hl]
  rw [h1]
  unfold dpV1
  split
  · rw [dpK_max, dpK_max, hE, List.append_assoc, maxK_left _ _ _ _ (by rw [hl]; exact hk)]
  · rfl
section
variable {T : List VI}
theorem tree_fuel (ha : ∀ (i : Nat) x, T[i]? = some x → ∀ k ∈ x.kids, 0 ≤ k ∧ k < (i : Int)) : ∀ (f g : Nat) (k : Int), 0 ≤ k → k < (f : Int) → k < (g : Int) → treeF T f k = treeF T g k
  | 0, _, _, _, h, _ => by omega
  | _ + 1, 0, _, _, _, h => by omega
  | f + 1, g + 1, k, h0, h1, h2 => by
    show valJ _ _ = valJ _ _
    refine valJ_congr fun y hy => ?_
    have := ahead_getD ha k.toNat y hy
    exact tree_fuel ha f g y (by omega) (by omega) (by omega)
theorem tree_txt (ha : ∀ (i : Nat) x, T[i]? = some x → ∀ k ∈ x.kids, 0 ≤ k ∧ k < (i : Int)) : ∀ (n : Nat) (k : Int), 0 ≤ k → k < (n : Int) → txt (treeF T n k) = writeF T n k
  | 0, k, _, h => by omega
  | n + 1, k, h0, h1 => by
    show txt (valJ _ _) = valT _ _
    rw [valJ_txt]
    refine valT_congr fun y hy => ?_
    have := ahead_getD ha k.toNat y hy
    exact tree_txt ha n y (by omega) (by omega)
end
/-- A tree that Check lets pass. -/
theorem tree_of {T : List VI} {M : Nat} (hc : checkE T = 0) (hM : ∀ x ∈ T, x.text.length ≤ M ∧ ∀ s ∈ x.names, s.length ≤ M) : ∃ j, ok M j ∧ dep j ≤ 16 ∧ sz j ≤ T.length ∧ T.length ≤ 8192 ∧ txt j = textM T := by
  have hc0 := hc
  unfold checkE at hc
  split at hc
  · cases hc
  · rename_i h0
    split at hc
    · cases hc
    · rename_i h8
      split at hc
      · rename_i hj
        split at hc
        · cases hc
        · rename_i hdp
          obtain ⟨hin, hct⟩ := (joined_iff (K := T.map VI.kids) (by intro e; apply h0; simpa using congrArg List.length e)).1 hj.1
          have hall := hin.all
          rw [List.length_map] at hct hall
          have hp : ∀ x ∈ T, plainB x = true := List.all_eq_true.1 hj.2
          have ha : ∀ (i : Nat) x, T[i]? = some x → ∀ k ∈ x.kids, 0 ≤ k ∧ k < (i : Int) := fun i x hx k hk => by
            have := inR_at T 0 hin i x hx k hk
            simpa using this
          have hkind : ∀ x ∈ T, 1 ≤ x.kind ∧ x.kind ≤ 6 := fun x hx => by
            have := hp x hx
            unfold plainB at this
            rw [Bool.and_eq_true] at this
            have h2 := this.2
            split at h2
            · omega
            · split at h2
              · omega
              · split at h2
                · omega
                · split at h2
                  · omega
                  · cases h2
          obtain ⟨n, hn⟩ : ∃ n, T.length = n + 1 := ⟨T.length - 1, by omega⟩
          have step : ∀ (i : Nat) x, T[i]? = some x → treeF T (i + 1) i = valJ (treeF T i) x := fun i x hx => by
            show valJ _ (T.getD ((i : Int).toNat) {}) = _
            rw [Int.toNat_natCast, List.getD, hx]; rfl
          have fl : ∀ (i : Nat) x, T[i]? = some x → ∀ k ∈ x.kids, treeF T i k = treeF T (k.toNat + 1) (k.toNat : Int) := fun i x hx k hk => by
            have := ha i x hx k hk
            rw [show ((k.toNat : Nat) : Int) = k by omega, tree_fuel ha i (k.toNat + 1) k (by omega) (by omega) (by omega)]
          have hk : ∀ (i : Nat) x, T[i]? = some x → sz (treeF T (i + 1) i) ≤ 1 + (x.kids.map fun k => sz (treeF T (k.toNat + 1) (k.toNat : Int))).sum := fun i x hx => by
            have h1 := valJ_sz (treeF T i) x
            have h3 : (x.kids.map fun k => sz (treeF T i k)) = x.kids.map fun k => sz (treeF T (k.toNat + 1) (k.toNat : Int)) := List.map_congr_left fun k hk => by rw [fl i x hx k hk]
            rw [step i x hx]
            rw [h3] at h1
            exact h1
          have h1 := sums_kids (fun i => sz (treeF T (i + 1) i)) 1 hk T.length (Nat.le_refl _)
          rw [List.take_length] at h1
          have h2 := sum_counts (fun i => sz (treeF T (i + 1) i)) n (T.map VI.kids).flatten (fun k hk => by have := hall k hk; omega)
          have h3 : sumTo (fun i => (T.map VI.kids).flatten.count (i : Int) * sz (treeF T (i + 1) i)) n ≤ sumTo (fun i => sz (treeF T (i + 1) i)) n := sumTo_le fun i hi => by
            rw [hct i (by omega), Nat.one_mul]; exact Nat.le_refl _
          have h4 : sumTo (fun i => sz (treeF T (i + 1) i)) T.length = sumTo (fun i => sz (treeF T (i + 1) i)) n + sz (treeF T (n + 1) n) := by rw [hn]; rfl
          have hd : ∀ (i : Nat), i < T.length → (dep (treeF T (i + 1) i) : Int) = (dpT T).getD i 0 ∧ ok M (treeF T (i + 1) i) := by
            intro i
            induction i using Nat.strongRecOn with
            | _ i ih =>
              intro hi
              obtain ⟨x, hx⟩ : ∃ x, T[i]? = some x := ⟨_, List.getElem?_eq_getElem hi⟩
              have hxm := List.mem_of_getElem? hx
              have hm := hM x hxm
              have hkid : ∀ k ∈ x.kids, (dep (treeF T i k) : Int) = (dpT T).getD k.toNat 0 ∧ ok M (treeF T i k) := fun k hk => by
                have h5 := ha i x hx k hk
                rw [fl i x hx k hk]
                exact ih k.toNat (by omega) (by omega)
              rw [step i x hx, dp_at hx (ha i x hx)]
              exact ⟨valJ_dep _ _ x (hkind x hxm) fun k hk => (hkid k hk).1, valJ_ok _ x (hp x hxm) hm.1 hm.2 fun k hk => (hkid k hk).2⟩
          have hdn := hd n (by omega)
          rw [hn, show n + 1 - 1 = n by omega, ← hdn.1] at hdp
          refine ⟨treeF T (n + 1) n, hdn.2, by omega, by omega, by omega, ?_⟩
          rw [tree_txt ha (n + 1) n (by omega) (by omega), textM, if_pos hc0, hn]
          congr 1; omega
      · cases hc
end Go.Proofs.YtpffhckimilppaaDoor.Jt
/-  A tree that was read, as it lies; what the document's Same does of two trees that hold the same: true. -/
namespace Go.Proofs.YtpffhckimilppaaDoor.Jt
open Go.RowKit

theorem slAt_own {w : World} {base : Nat} {e : TypeId} {v : Value} {n : Nat} {xs : List Value} (h : w.ownsRow base e 1 v n xs) : SlAt w v xs := by
  have hl : xs.length = n := by have := h.1; omega
  rcases h.2 with ⟨rfl, h0⟩ | ⟨g, cap, cur, rfl, _, _, hc1, hc2, _⟩
  · have : xs = [] := List.eq_nil_of_length_eq_zero (by omega)
    subst this
    exact ⟨none, 0, rfl, by simp, fun j u hj => by simp at hj⟩
  · unfold maxLen at hc2
    exact ⟨_, cap, by rw [hl], by omega, fun j u hj => ⟨_, rfl, h.cells (g := g) rfl j u hj⟩⟩
theorem vown_at {w : World} {x : Js.V} {nv kv : Value} (h : Js.VOwn w x nv kv) : VAt w (toI x) nv kv := by
  refine ⟨slAt_own h.names, ?_⟩
  have := slAt_own h.kids
  unfold toI
  simp only [List.map_map]
  exact this
theorem reps_at {w : World} : ∀ {T : List Js.V} {cs : List Value}, Js.Reps w cs T → ∀ i x, T[i]? = some x → ∃ nv kv, VAt w (toI x) nv kv ∧ ∀ j u, (aggI (toI x) nv kv)[j]? = some u → cs[i * 6 + j]? = some u
  | [], cs, h, i, x, hi => by simp at hi
  | y :: T, cs, h, i, x, hi => by
    obtain ⟨nv, kv, rest, rfl, hy, hr⟩ := h
    cases i with
    | zero =>
      simp only [List.getElem?_cons_zero, Option.some.injEq] at hi
      subst hi
      refine ⟨nv, kv, vown_at hy, fun j u hj => ?_⟩
      have hj6 : j < 6 := by have := (List.getElem?_eq_some_iff.1 hj).1; simpa [aggI] using this
      rw [Nat.zero_mul, Nat.zero_add, List.getElem?_append_left (by simpa [Js.aggL] using hj6)]
      exact hj
    | succ i =>
      rw [List.getElem?_cons_succ] at hi
      obtain ⟨nv2, kv2, h1, h2⟩ := reps_at hr i x hi
      refine ⟨nv2, kv2, h1, fun j u hj => ?_⟩
      have := h2 j u hj
      rw [List.getElem?_append_right (by simp [Js.aggL]; omega)]
      simp only [Js.aggL, List.length_cons, List.length_nil]
      rwa [show (i + 1) * 6 + j - (0 + 1 + 1 + 1 + 1 + 1 + 1) = i * 6 + j by omega]
theorem addr_zero_add (g j : Nat) : (⟨g, 0, none⟩ : Addr).add j = ⟨g, j, none⟩ := by unfold Addr.add; split <;> simp_all
theorem tree_own {w : World} {v : Value} {T : List Js.V} {cs : List Value} (ho : w.ownsRow 0 42 6 v T.length cs) (hr : Js.Reps w cs T) : TreeAt w v (T.map toI) := by
  rcases ho.2 with ⟨rfl, h0⟩ | ⟨g, cap, cur, rfl, _, _, hc1, hc2, _⟩
  · have : T = [] := List.eq_nil_of_length_eq_zero (by omega)
    subst this
    exact ⟨none, 0, rfl, by simp, fun i x hi => by simp at hi⟩
  · unfold maxLen at hc2
    refine ⟨some ⟨g, 0, none⟩, cap, by simp, by simp; omega, fun i x hi => ?_⟩
    rw [List.getElem?_map, Option.map_eq_some_iff] at hi
    obtain ⟨y, hy, rfl⟩ := hi
    obtain ⟨nv, kv, h1, h2⟩ := reps_at hr i y hy
    refine ⟨_, _, nv, kv, rfl, h1, fun j u hj => ?_⟩
    have := ho.cells (g := g) rfl _ u (h2 j u hj)
    rw [addr_zero_add] at this
    rwa [Nat.zero_add]
theorem two_allocs {w : World} {a : Addr} {u : Value} (h : w.cell? a = some u) (o1 o2 : Obj) : ((w.alloc o1).alloc o2).drew.cell? a = some u := by
  have hb := block_lt_of_cell h
  exact ((((Below.refl w.heap.size w).alloc (Nat.le_refl _) o1).alloc (by simp) o2).drew.cell hb).trans h
theorem two_cells {w W : World} {a b : Array Value} (hW : ((w.alloc (.cells a 42)).alloc (.cells b 42)).drew = W) : (∀ j, W.cell? ⟨w.heap.size, j, none⟩ = a[j]?) ∧ (∀ j, W.cell? ⟨w.heap.size + 1, j, none⟩ = b[j]?) := by
  subst hW
  refine ⟨fun j => ?_, fun j => ?_⟩
  · have h1 : ((w.alloc (.cells a 42)).alloc (.cells b 42)).drew.heap[w.heap.size]? = some (.cells a 42 (0, 0)) := by
      show ((w.alloc (.cells a 42)).alloc (.cells b 42)).heap[w.heap.size]? = _
      rw [Below.heap_alloc _ _ _ (by simp)]; exact heap_alloc_new w _
    rw [cell_of_row _ w.heap.size j _ _ _ h1]
  · have h1 : ((w.alloc (.cells a 42)).alloc (.cells b 42)).drew.heap[w.heap.size + 1]? = some (.cells b 42 (0, 0)) := by
      show ((w.alloc (.cells a 42)).alloc (.cells b 42)).heap[w.heap.size + 1]? = _
      have := heap_alloc_new (w.alloc (.cells a 42)) (.cells b 42)
      rw [show (w.alloc (.cells a 42)).heap.size = w.heap.size + 1 by simp] at this
      exact this
    rw [cell_of_row _ (w.heap.size + 1) j _ _ _ h1]
set_option maxRecDepth 100000 in
set_option maxHeartbeats 800000 in
theorem same_true {T : List VI} {v u : Value} {w : World} (hv : TreeAt w v T) (hu : TreeAt w u T) : Calls Tryd.prog 21 #[v, u] w fun e w' => e = .returned (.bool true) ∧ Below w.heap.size w w' := by
  obtain ⟨a, ca, rfl, hl, ha⟩ := hv
  obtain ⟨b, cb, rfl, _, hb⟩ := hu
  have HA : Hid (∀ i x, T[i]? = some x → ∃ g o nv kv, a = some ⟨g, o, none⟩ ∧ VAt w x nv kv ∧ ∀ j u, (aggI x nv kv)[j]? = some u → w.cell? ⟨g, o + i * 6 + j, none⟩ = some u) := ha
  have HB : Hid (∀ i x, T[i]? = some x → ∃ g o nv kv, b = some ⟨g, o, none⟩ ∧ VAt w x nv kv ∧ ∀ j u, (aggI x nv kv)[j]? = some u → w.cell? ⟨g, o + i * 6 + j, none⟩ = some u) := hb
  clear ha hb
  go_enter Tryd.func21, Tryd.ntmps21
  go_wp2
  go_loopw [5] (fun i wr => ∃ k : Nat, k ≤ T.length ∧ i = .int .i64 k ∧ Below w.heap.size w wr) (fun i _ => T.length - (intOf i).toNat)
  case atStart => exact ⟨0, Nat.zero_le _, rfl, Below.refl _ _⟩
  case round =>
    obtain ⟨k, hk, rfl, hbr⟩ := hrel
    by_cases hlt : k < T.length
    · obtain ⟨x, hx⟩ : ∃ x, T[k]? = some x := ⟨_, List.getElem?_eq_getElem hlt⟩
      obtain ⟨g, o, nv, kv, rfl, hva, hc⟩ := HA.out k x hx
      obtain ⟨g2, o2, nv2, kv2, rfl, hva2, hc2⟩ := HB.out k x hx
      obtain ⟨⟨na, nc, rfl, hnl, hn⟩, ⟨ka, kc, rfl, hkl, hkk⟩⟩ := hva.later hbr
      obtain ⟨⟨na2, nc2, rfl, _, hn2⟩, ⟨ka2, kc2, rfl, _, hkk2⟩⟩ := hva2.later hbr
      obtain ⟨c0, c1, c2, c3, c4, c5⟩ := six_cells (w := wr) (fun j u hj => (hbr.cell (block_lt_of_cell (hc j u hj))).trans (hc j u hj))
      obtain ⟨d0, d1, d2, d3, d4, d5⟩ := six_cells (w := wr) (fun j u hj => (hbr.cell (block_lt_of_cell (hc2 j u hj))).trans (hc2 j u hj))
      have hg1 : ¬ wr.heap.size = g := World.new_ne wr _ c0
      have hg2 : ¬ wr.heap.size = g2 := World.new_ne wr _ d0
      have hg3 : ¬ wr.heap.size + 1 = g := by have := block_lt_of_cell c0; simp at this; omega
      have hg4 : ¬ wr.heap.size + 1 = g2 := by have := block_lt_of_cell d0; simp at this; omega
      clear hc hc2
      have hnl2 : x.names.length ≤ 9223372036854775807 := by simpa using hnl
      have hkl2 : x.kids.length ≤ 9223372036854775807 := by simpa using hkl
      go_wp2
      go_region_held (fun w' => (w'.cell? ⟨g, o + k * 6, none⟩ = some (.int .i64 x.kind) ∧ w'.cell? ⟨g, o + k * 6 + 1, none⟩ = some (.bool x.truth) ∧ w'.cell? ⟨g, o + k * 6 + 2, none⟩ = some (.int .i64 x.num) ∧ w'.cell? ⟨g, o + k * 6 + 3, none⟩ = some (.string ⟨x.text.toArray⟩) ∧ w'.cell? ⟨g, o + k * 6 + 4, none⟩ = some (.slice na (List.map strv x.names).length nc) ∧ w'.cell? ⟨g, o + k * 6 + 5, none⟩ = some (.slice ka (List.map intv x.kids).length kc)) ∧ w'.cell? ⟨g2, o2 + k * 6, none⟩ = some (.int .i64 x.kind) ∧ w'.cell? ⟨g2, o2 + k * 6 + 1, none⟩ = some (.bool x.truth) ∧ w'.cell? ⟨g2, o2 + k * 6 + 2, none⟩ = some (.int .i64 x.num) ∧ w'.cell? ⟨g2, o2 + k * 6 + 3, none⟩ = some (.string ⟨x.text.toArray⟩) ∧ w'.cell? ⟨g2, o2 + k * 6 + 4, none⟩ = some (.slice na2 (List.map strv x.names).length nc2) ∧ w'.cell? ⟨g2, o2 + k * 6 + 5, none⟩ = some (.slice ka2 (List.map intv x.kids).length kc2)) (go_keep) (fail)
      all_goals
        go_wp2
        generalize hW : World.drew (World.alloc (World.alloc wr _) _) = W0
        have hb0 : Below wr.heap.size wr W0 := by rw [← hW]; exact (((Below.refl _ _).alloc (Nat.le_refl _) _).alloc (by simp) _).drew
        have hcell := two_cells hW
        have x4 := hcell.1 4; have x5 := hcell.1 5; have y4 := hcell.2 4; have y5 := hcell.2 5
        simp only [List.getElem?_toArray, List.getElem?_cons_succ, List.getElem?_cons_zero] at x4 x5 y4 y5
        clear hcell hW
        have HX : Hid (∀ w', Below W0.heap.size W0 w' → _ ∧ _ ∧ _ ∧ _) := fun w' hb => ⟨(hb.cell (block_lt_of_cell x4)).trans x4, (hb.cell (block_lt_of_cell x5)).trans x5, (hb.cell (block_lt_of_cell y4)).trans y4, (hb.cell (block_lt_of_cell y5)).trans y5⟩
        clear x4 x5 y4 y5
        go_loopw [8] (fun i wq => ∃ m : Nat, m ≤ x.names.length ∧ i = .int .i64 m ∧ Below W0.heap.size W0 wq) (fun i _ => x.names.length - (intOf i).toNat)
        case atStart => exact ⟨0, Nat.zero_le _, rfl, Below.refl _ _⟩
        case round =>
          obtain ⟨m, hm, rfl, hbq⟩ := hrel
          obtain ⟨x4, x5, y4, y5⟩ := HX.out _ hbq
          by_cases hlm : m < x.names.length
          · obtain ⟨gn, rfl, hcn⟩ := hn m (strv x.names[m]) (by simp [hlm])
            obtain ⟨gn2, rfl, hcn2⟩ := hn2 m (strv x.names[m]) (by simp [hlm])
            unfold strv at hcn hcn2
            have e1 := ((hb0.trans (hbq.mono hb0.size)).cell (block_lt_of_cell hcn)).trans hcn
            have e2 := ((hb0.trans (hbq.mono hb0.size)).cell (block_lt_of_cell hcn2)).trans hcn2
            clear hcn hcn2
            have HM : Hid (m + 1 ≤ x.names.length) := hlm
            go_wp2
            go_quiet (fail)
            go_wp2
            go_roundw
            case rel => exact ⟨m + 1, HM.out, by go_num, below_drewN hbq _⟩
            case measure => have := HM.out; simp [intOf]; omega
          · go_wp2
            go_loopw [9] (fun i wq => ∃ m : Nat, m ≤ x.kids.length ∧ i = .int .i64 m ∧ Below W0.heap.size W0 wq) (fun i _ => x.kids.length - (intOf i).toNat)
            case atStart => exact ⟨0, Nat.zero_le _, rfl, hbq⟩
            case round =>
              clear x4 x5 y4 y5 hbq
              obtain ⟨n, hn3, rfl, hbq⟩ := hrel
              obtain ⟨x4, x5, y4, y5⟩ := HX.out _ hbq
              by_cases hln : n < x.kids.length
              · obtain ⟨gk, rfl, hck⟩ := hkk n (intv x.kids[n]) (by simp [hln])
                obtain ⟨gk2, rfl, hck2⟩ := hkk2 n (intv x.kids[n]) (by simp [hln])
                unfold intv at hck hck2
                have e1 := ((hb0.trans (hbq.mono hb0.size)).cell (block_lt_of_cell hck)).trans hck
                have e2 := ((hb0.trans (hbq.mono hb0.size)).cell (block_lt_of_cell hck2)).trans hck2
                clear hck hck2
                have HM : Hid (n + 1 ≤ x.kids.length) := hln
                go_wp2
                go_quiet (fail)
                go_wp2
                go_roundw
                case rel => exact ⟨n + 1, HM.out, by go_num, below_drewN hbq _⟩
                case measure => have := HM.out; simp [intOf]; omega
              · go_wp2
                go_roundw
                case rel => exact ⟨k + 1, by omega, by go_num, hbr.trans ((hb0.trans (hbq.mono hb0.size)).mono hbr.size)⟩
                case measure => simp [intOf]; omega
    · go_wp2
      go_ret
      exact ⟨by simp, hbr⟩
end Go.Proofs.YtpffhckimilppaaDoor.Jt
/-  How great a tree's strings and its text are; what Parse does of a row of bytes that a call owns; Print and Same of a tree that was read. -/
namespace Go.Proofs.YtpffhckimilppaaDoor.Jt
open Go.RowKit
set_option maxRecDepth 100000

def Small (M : Nat) (x : VI) : Prop := (-9223372036854775808 ≤ x.num ∧ x.num ≤ 9223372036854775807) ∧ x.text.length ≤ M ∧ ∀ s ∈ x.names, s.length ≤ M
theorem small_one {M : Nat} {x : VI} (h : Small M x) : ∀ y ∈ [x], Small M y := fun y hy => by simp at hy; subst hy; exact h
theorem small_app {M : Nat} {A B : List VI} (h : ∀ y ∈ A, Small M y) (k : ∀ y ∈ B, Small M y) : ∀ y ∈ A ++ B, Small M y := fun y hy => (List.mem_append.1 hy).elim (h y) (k y)
mutual
theorem smalls {M : Nat} : ∀ (j : J) (o : Nat), ok M j → ∀ x ∈ flatI j o, Small M x
  | .null, o, _ => small_one ⟨by simp [toI], by simp [toI], fun s hs => by simp [toI] at hs⟩
  | .truth _, o, _ => small_one ⟨by simp [toI], by simp [toI], fun s hs => by simp [toI] at hs⟩
  | .num n, o, h => small_one ⟨by
      have := of_decide_eq_true (show fitsB n = true from h)
      simp only [toI]; omega, by simp [toI], fun s hs => by simp [toI] at hs⟩
  | .str s, o, h => small_one ⟨by simp [toI], by
      have h' : Lib.validD s = true ∧ s.length ≤ M := h
      exact h'.2, fun s hs => by simp [toI] at hs⟩
  | .list l, o, h => by
    rw [flatI_list]
    exact small_app (smallsL l o h) (small_one ⟨by simp [nodeL], by simp [nodeL], fun s hs => by simp [nodeL] at hs⟩)
  | .obj l, o, h => by
    have h' : okL M l ∧ (names l).Nodup ∧ ∀ s ∈ names l, Lib.validD s = true ∧ s.length ≤ M := h
    rw [flatI_obj]
    exact small_app (smallsL l o h'.1) (small_one ⟨by simp [nodeO], by simp [nodeO], fun s hs => (h'.2.2 s hs).2⟩)
theorem smallsL {M : Nat} : ∀ (l : JL) (o : Nat), okL M l → ∀ x ∈ flatIL l o, Small M x
  | .nil, o, _ => fun x hx => by simp [flatIL, flatL] at hx
  | .cons n j l, o, h => by
    have h' : ok M j ∧ okL M l := h
    rw [flatIL_cons]
    exact small_app (smalls j o h'.1) (smallsL l (o + sz j) h'.2)
end
theorem sml_flat {M : Nat} {j : J} (ho : ok M j) (hM : M ≤ 17592186044416) : Sml (flatI j 0) :=
  ⟨fun x hx => (smalls j 0 ho x hx).1, fun x hx => Nat.le_trans (smalls j 0 ho x hx).2.1 hM, fun x hx s hs => Nat.le_trans ((smalls j 0 ho x hx).2.2 s hs) hM⟩
mutual
theorem txt_len {M : Nat} : ∀ j : J, ok M j → (txt j).length + (6 * M + 4) ≤ sz j * (12 * M + 60)
  | .null, _ => by simp [txt, sz]; omega
  | .truth b, _ => by cases b <;> simp [txt, sz] <;> omega
  | .num n, h => by
    have h1 := of_decide_eq_true (show fitsB n = true from h)
    have := itoa_le n (by omega) (by omega)
    simp only [txt, sz]; omega
  | .str s, h => by
    have h' : Lib.validD s = true ∧ s.length ≤ M := h
    have := quoteM_le s
    simp only [txt, sz]; omega
  | .list l, h => by
    have := txtL_len l true h
    simp only [txt, sz, List.length_append, List.length_cons, List.length_nil, Nat.add_mul, Nat.one_mul]
    omega
  | .obj l, h => by
    have h' : okL M l ∧ (names l).Nodup ∧ ∀ s ∈ names l, Lib.validD s = true ∧ s.length ≤ M := h
    have := txtO_len l true h'.1 (fun s hs => (h'.2.2 s hs).2)
    simp only [txt, sz, List.length_append, List.length_cons, List.length_nil, Nat.add_mul, Nat.one_mul]
    omega
theorem txtL_len {M : Nat} : ∀ (l : JL) (f : Bool), okL M l → (txtL l f).length ≤ szL l * (12 * M + 60)
  | .nil, _, _ => by simp [txtL]
  | .cons n j l, f, h => by
    have h' : ok M j ∧ okL M l := h
    have h1 := txt_len j h'.1
    have h2 := txtL_len l false h'.2
    have h3 : (if f = true then ([] : List UInt8) else [44]).length ≤ 1 := by split <;> simp
    simp only [txtL, szL, List.length_append, Nat.add_mul]
    omega
theorem txtO_len {M : Nat} : ∀ (l : JL) (f : Bool), okL M l → (∀ s ∈ names l, s.length ≤ M) → (txtO l f).length ≤ szL l * (12 * M + 60)
  | .nil, _, _, _ => by simp [txtO]
  | .cons n j l, f, h, hn => by
    have h' : ok M j ∧ okL M l := h
    have h1 := txt_len j h'.1
    have h2 := txtO_len l false h'.2 (fun s hs => hn s (by simp [names, hs]))
    have h3 : (if f = true then ([] : List UInt8) else [44]).length ≤ 1 := by split <;> simp
    have h4 := quoteM_le n
    have h5 := hn n (by simp [names])
    simp only [txtO, szL, List.length_append, List.length_cons, List.length_nil, Nat.add_mul]
    omega
end
theorem lt_of_block' {w : World} {g : Nat} {o : Obj} (h : w.heap[g]? = some o) : g < w.heap.size := (Array.getElem?_eq_some_iff.1 h).1
set_option maxHeartbeats 400000 in
theorem equal_same {w : World} {x y : Value} {b1 b2 : Nat} {l : List UInt8} (hx : BRow w b1 x l) (hy : BRow w b2 y l) :
    Calls Tryd.prog 32 #[x, y] w fun e w' => e = .returned (.bool true) ∧ w' = w := by
  have g1 := conv_own hx
  have g2 := conv_own hy
  clear hx hy
  go_enter Tryd.func32, Tryd.ntmps32
  go_wp2
  go_ret
  exact ⟨rfl, rfl⟩
/-- What Parse does of a row of bytes of a call's own that isn't nil. -/
theorem parse_row {w : World} {base : Nat} {v : Value} {l : List UInt8} (hr : BRow w base v l) (hv : v.ownBlock ≠ none) (hU : TabU w) (h2 : 2 ≤ w.heap.size) : Calls Tryd.prog 18 #[v] w (Js.DoneR w (Js.parseM l)) := by
  have hr' : w.ownsRow base 5 1 v l.length (bytesV l) := hr
  rcases hr'.2 with ⟨rfl, _⟩ | ⟨g, cap, cur, rfl, _, hg, hnc, hcm, _⟩
  · exact absurd rfl hv
  · refine Js.parse_json (B := l) (tb := g) (toff := 0) (cap := cap) (w := w) (fun j hj => ?_) (lt_of_block' hg) hnc (by unfold maxLen at hcm; exact hcm) hU h2
    have := World.ownsRow.cells (g := g) hr' rfl j _ (bytesV_get l j hj)
    rw [add0] at this
    rw [Nat.zero_add, this]
    simp [Js.byteAt, List.getD_eq_getElem?_getD, hj]
theorem row_some {w : World} {base : Nat} {v : Value} {l : List UInt8} (hr : BRow w base v l) (hl : l ≠ []) : v.ownBlock ≠ none := by
  have hr' : w.ownsRow base 5 1 v l.length (bytesV l) := hr
  rcases hr'.2 with ⟨rfl, h⟩ | ⟨g, cap, cur, rfl, _⟩
  · exact absurd (List.eq_nil_of_length_eq_zero h) hl
  · intro e; cases e
theorem parse_bad {w : World} {base : Nat} {v : Value} {l : List UInt8} {a c : Nat} (hr : BRow w base v l) (hv : v.ownBlock ≠ none) (hU : TabU w) (h2 : 2 ≤ w.heap.size) (hp : Js.parseM l = .bad a c) :
    Calls Tryd.prog 18 #[v] w fun e w' => e = .returned (.tuple #[.slice none 0 0, .int .i64 a, .int .i64 c]) ∧ Below w.heap.size w w' := by
  have := parse_row hr hv hU h2
  rw [hp] at this
  exact this
theorem parse_good {w : World} {base : Nat} {v : Value} {l : List UInt8} {a : Nat} {U : List Js.V} (hr : BRow w base v l) (hv : v.ownBlock ≠ none) (hU : TabU w) (h2 : 2 ≤ w.heap.size) (hp : Js.parseM l = .ok U a) :
    Calls Tryd.prog 18 #[v] w fun e w' => ∃ ta tc, e = .returned (.tuple #[.slice ta U.length tc, .int .i64 0, .int .i64 0]) ∧ TreeAt w' (.slice ta U.length tc) (U.map toI) ∧ Below w.heap.size w w' := by
  have := parse_row hr hv hU h2
  rw [hp] at this
  refine this.mono ?_
  rintro e w' ⟨v', cs, rfl, ho, hr, hb⟩
  have ht := tree_own ho hr
  obtain ⟨ta, tc, e⟩ := tree_len ht
  subst e
  rw [List.length_map] at ht ⊢
  exact ⟨ta, tc, rfl, ht, hb⟩
set_option maxHeartbeats 1600000 in
/-- Same of two trees that Check lets pass and that have one text. -/
theorem same_gen {A B : List VI} {x y : Value} {w : World} (hA : TreeAt w x A) (hB : TreeAt w y B) (sa : Sml A) (sb : Sml B) (ca : checkE A = 0) (cb : checkE B = 0) (ht : textM A = textM B) (hl : (textM A).length ≤ 140737487000000) (hU : TabU w) (hP : Tab w) :
    Calls Tryd.prog 20 #[x, y] w fun e w' => e = .returned (.bool true) ∧ Below w.heap.size w w' := by
  have HPA := hide (print_any hA sa hU hP hl)
  have HPB := hide (fun (w' : World) (h : Below w.heap.size w w') => print_any (hB.later h) sb (hU.later h) (hP.later h) (by rw [← ht]; exact hl))
  rw [ca] at HPA
  rw [cb] at HPB
  rw [← ht] at HPB
  generalize textM A = la at HPA HPB
  clear hA hB sa sb ca cb ht hl hU hP
  go_enter Tryd.func20, Tryd.ntmps20
  go_wp2_with (first
    | (go_at_call 32; refine (equal_same (HRA.out) (HRB.out)).mono ?_; rintro e w3 ⟨rfl, hw⟩; rw [hw]; clear hw)
    | (go_at_call 14; refine (HPB.out _ H1.out).mono ?_; rintro e w2 ⟨v2, rfl, r2, k2⟩; have H2 := hide (below_on H1.out k2); have HRB := hide r2; have HRA := hide (HR1.out.later (Nat.le_refl _) k2); clear r2 k2)
    | (go_at_call 14; refine HPA.out.mono ?_; rintro e w1 ⟨v1, rfl, r1, k2⟩; have H1 := hide k2; have HR1 := hide r1; clear r1 k2))
  go_ret
  exact ⟨rfl, H2.out⟩
end Go.Proofs.YtpffhckimilppaaDoor.Jt
/-  What the law ShowBack does. -/
namespace Go.Proofs.YtpffhckimilppaaDoor.Jt
open Go.RowKit
set_option maxRecDepth 100000

theorem parse_long {l : List UInt8} (h : 65536 < l.length) : Js.parseM l = .bad 65536 20 := by unfold Js.parseM; rw [if_pos h]
theorem parse_back {M : Nat} {j : J} {l : List UInt8} (e : txt j = l) (ho : ok M j) (hd : dep j ≤ 16) (hs : sz j ≤ 8192) (h : ¬ 65536 < l.length) : Js.parseM l = .ok (flat j 0) 0 := by
  unfold Js.parseM; rw [if_neg h, ← e]; exact back_read ho hd hs
theorem txt_ne (j : J) : txt j ≠ [] := by
  obtain ⟨c, t, e, _⟩ := txt_beg j
  rw [e]; simp
set_option maxHeartbeats 3200000 in
theorem showback_any {T : List VI} {v : Value} {w : World} (hT : TreeAt w v T) (hi : ∀ x ∈ T, InB x) (hU : TabU w) (hP : Tab w) (h2 : 2 ≤ w.heap.size) :
    Calls Tryd.prog 6 #[v] w fun e w' => e = .returned (.bool true) ∧ Below w.heap.size w w' := by
  have hlm : T.length ≤ 9223372036854775807 := by obtain ⟨_, _, _, h, _⟩ := hT; exact h
  obtain ⟨a, c, rfl⟩ := tree_len hT
  have HTR := hide hT
  have HI := hide hi
  have HAW := hide (awake_any w hU hP)
  have HPR := hide (fun (w' : World) (v' : Value) (h : Below w.heap.size w w') (ht : TreeAt w' v' T) => print_any ht (smlB hi) (hU.later h) (hP.later h) (lenB hi))
  have HUP : Hid (TabU w ∧ Tab w ∧ 2 ≤ w.heap.size) := ⟨hU, hP, h2⟩
  clear hT hi hU hP h2
  by_cases h1 : 500 < T.length
  · have z1 : (500 : Int) < (T.length : Int) := by omega
    go_enter Tryd.func6, Tryd.ntmps6
    go_wp2_with (first
      | (go_at_call 10; refine HAW.out.mono ?_; rintro e w1 ⟨rfl, k2⟩; have H1 := hide k2; clear k2))
    go_ret
    exact ⟨rfl, H1.out⟩
  · have z1 : ¬ (500 : Int) < (T.length : Int) := by omega
    have HCP := hide (fun (w' : World) (h : Below w.heap.size w w') => copied_any (HTR.out.later h) (by omega) (szKB HI.out))
    by_cases hc : checkE T = 0
    · obtain ⟨j, j1, j2, j3, j4, j5⟩ := tree_of (M := 1048576) hc (fun x hx => ⟨by have := (HI.out x hx).bulk; unfold vb at this; omega, fun s hs => by have := (HI.out x hx).bulk; unfold vb at this; have := sum_mem hs; omega⟩)
      have HJ : Hid (ok 1048576 j ∧ dep j ≤ 16 ∧ sz j ≤ 8192 ∧ txt j = textM T) := ⟨j1, j2, by omega, j5⟩
      have hne : textM T ≠ [] := by rw [← j5]; exact txt_ne j
      obtain ⟨L, hL⟩ : ∃ L, textM T = L := ⟨_, rfl⟩
      have HLL : Hid (L.length ≤ 140737487000000) := by show _ ≤ _; rw [← hL]; exact lenB HI.out
      have HTX := hide hL
      rw [hc, hL] at HPR
      rw [hL] at HJ hne
      have HCE := hide hc
      have HNE := hide hne
      clear hL hc j1 j2 j3 j4 j5 hne
      by_cases h3 : 65536 < L.length
      · have z3 : (65536 : Int) < (L.length : Int) := by omega
        have HPJ := hide (fun (w' : World) (v' : Value) (b : Nat) (h : Below w.heap.size w w') (hr : BRow w' b v' L) => parse_bad hr (row_some hr HNE.out) (HUP.out.1.later h) (Nat.le_trans HUP.out.2.2 h.size) (parse_long h3))
        clear h3
        go_enter Tryd.func6, Tryd.ntmps6
        go_wp2_with (first
          | (go_at_call 10; refine HAW.out.mono ?_; rintro e w1 ⟨rfl, k2⟩; have H1 := hide k2; clear k2)
          | (go_at_call 12; refine (HCP.out _ H1.out).mono ?_; rintro e w2 ⟨v2, rfl, t2, k2⟩; have H2 := hide (below_on H1.out k2); have HT2 := hide t2; clear t2 k2)
          | (go_at_call 14; refine (HPR.out _ _ H2.out HT2.out).mono ?_; rintro e w3 ⟨v3, rfl, r3, k2⟩; have H3 := hide (below_on H2.out k2); obtain ⟨a3, c3, e3⟩ := r3.shape; subst e3; have HR3 := hide r3; clear r3 k2)
          | (go_at_call 18; refine (HPJ.out _ _ _ H3.out HR3.out).mono ?_; rintro e w4 ⟨rfl, k2⟩; have H4 := hide (below_on H3.out k2); clear k2))
        go_ret
        exact ⟨rfl, H4.out⟩
      · have z3 : ¬ (65536 : Int) < (L.length : Int) := by omega
        obtain ⟨U, hUU⟩ : ∃ U, flat j 0 = U := ⟨_, rfl⟩
        have HPJ := hide (fun (w' : World) (v' : Value) (b : Nat) (h : Below w.heap.size w w') (hr : BRow w' b v' L) => parse_good hr (row_some hr HNE.out) (HUP.out.1.later h) (Nat.le_trans HUP.out.2.2 h.size) (parse_back HJ.out.2.2.2 HJ.out.1 HJ.out.2.1 HJ.out.2.2.1 h3))
        have hfl : flatI j 0 = U.map toI := by rw [← hUU]; rfl
        have hck := check_flat HJ.out.1 HJ.out.2.1 HJ.out.2.2.1
        have htx := (text_flat HJ.out.1 HJ.out.2.1 HJ.out.2.2.1).trans HJ.out.2.2.2
        have hsm := sml_flat HJ.out.1 (by omega)
        rw [hUU] at HPJ
        rw [hfl] at hck htx hsm
        have HP2 := hide (fun (w' : World) (v' : Value) (h : Below w.heap.size w w') (ht : TreeAt w' v' (U.map toI)) => print_any ht hsm (HUP.out.1.later h) (HUP.out.2.1.later h) (by rw [htx]; exact HLL.out))
        rw [hck, htx] at HP2
        have HS1 := hide (fun (w' : World) (v' : Value) (h : Below w.heap.size w w') (ht : TreeAt w' v' (U.map toI)) => same_gen ht (HTR.out.later h) hsm (smlB HI.out) hck HCE.out (htx.trans HTX.out.symm) (by rw [htx]; exact HLL.out) (HUP.out.1.later h) (HUP.out.2.1.later h))
        have HS2 := hide (fun (w' : World) (v' : Value) (h : Below w.heap.size w w') (ht : TreeAt w' v' (U.map toI)) => same_gen (HTR.out.later h) ht (smlB HI.out) hsm HCE.out hck (HTX.out.trans htx.symm) (by rw [HTX.out]; exact HLL.out) (HUP.out.1.later h) (HUP.out.2.1.later h))
        clear h3 hck htx hsm hfl hUU
        go_enter Tryd.func6, Tryd.ntmps6
        go_wp2_with (first
          | (go_at_call 10; refine HAW.out.mono ?_; rintro e w1 ⟨rfl, k2⟩; have H1 := hide k2; clear k2)
          | (go_at_call 12; refine (HCP.out _ H1.out).mono ?_; rintro e w2 ⟨v2, rfl, t2, k2⟩; have H2 := hide (below_on H1.out k2); have HT2 := hide t2; clear t2 k2)
          | (go_at_call 20; refine (HS2.out _ _ H6.out HT6.out).mono ?_; rintro e w7 ⟨rfl, k2⟩; have H7 := hide (below_on H6.out k2); clear k2)
          | (go_at_call 20; refine (HS1.out _ _ H5.out HT5.out).mono ?_; rintro e w6 ⟨rfl, k2⟩; have H6 := hide (below_on H5.out k2); have HT6 := hide (HT5.out.later k2); clear k2)
          | (go_at_call 14; refine (HP2.out _ _ H4.out HT4.out).mono ?_; rintro e w5 ⟨v5, rfl, r5, k2⟩; have H5 := hide (below_on H4.out k2); have HT5 := hide (HT4.out.later k2); have g3 := conv_own (HR4.out.later (Nat.le_refl _) k2); have g5 := conv_own r5; clear r5 k2)
          | (go_at_call 14; refine (HPR.out _ _ H2.out HT2.out).mono ?_; rintro e w3 ⟨v3, rfl, r3, k2⟩; have H3 := hide (below_on H2.out k2); obtain ⟨a3, c3, e3⟩ := r3.shape; subst e3; have HR3 := hide r3; clear r3 k2)
          | (go_at_call 18; refine (HPJ.out _ _ _ H3.out HR3.out).mono ?_; rintro e w4 ⟨ta, tc, rfl, t4, k2⟩; have H4 := hide (below_on H3.out k2); have HT4 := hide t4; have HR4 := hide (HR3.out.later (Nat.le_refl _) k2); clear t4 k2))
        go_ret
        exact ⟨rfl, H7.out⟩
    · have et : textM T = [] := by rw [textM, if_neg hc]
      obtain ⟨ce, hce⟩ : ∃ ce, checkE T = ce := ⟨_, rfl⟩
      rw [hce, et] at HPR
      rw [hce] at hc
      have z4 : (ce != 0) = true := by simpa using hc
      clear hce et
      go_enter Tryd.func6, Tryd.ntmps6
      go_wp2_with (first
        | (go_at_call 10; refine HAW.out.mono ?_; rintro e w1 ⟨rfl, k2⟩; have H1 := hide k2; clear k2)
        | (go_at_call 12; refine (HCP.out _ H1.out).mono ?_; rintro e w2 ⟨v2, rfl, t2, k2⟩; have H2 := hide (below_on H1.out k2); have HT2 := hide t2; clear t2 k2)
        | (go_at_call 14; refine (HPR.out _ _ H2.out HT2.out).mono ?_; rintro e w3 ⟨v3, rfl, r3, k2⟩; have H3 := hide (below_on H2.out k2); obtain ⟨a3, c3, e3⟩ := r3.shape; rw [List.length_nil] at e3; subst e3; clear r3 k2))
      go_ret
      exact ⟨rfl, H3.out⟩
end Go.Proofs.YtpffhckimilppaaDoor.Jt
