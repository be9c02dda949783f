/-
  How long the text of a tree is at most.
-/
import Derived.Test.YtpffhckimilppaaDoorChk
namespace Go.Proofs.YtpffhckimilppaaDoor
open Go.RowKit
set_option maxRecDepth 100000

theorem quoteFrom_le (s : ByteArray) : ∀ f p, (quoteFrom s f p).length ≤ 6 * f
  | 0, _ => by simp [quoteFrom]
  | f + 1, p => by
    unfold quoteFrom
    split
    · rw [List.length_append]
      have h1 := letterM_le (Utf8.decode s p).1
      have h2 := quoteFrom_le s f (p + (Utf8.decode s p).2)
      omega
    · simp
theorem quoteM_le (l : List UInt8) : (quoteM l).length ≤ 6 * l.length + 2 := by
  unfold quoteM
  simp only [List.length_append, List.length_cons, List.length_nil]
  have := quoteFrom_le ⟨l.toArray⟩ l.length 0
  omega
/-- Values and letters of a value. -/
def vb (x : VI) : Nat := x.text.length + (x.names.map fun s => s.length + 1).sum + x.kids.length
theorem kidsT_plain (r : Int → List UInt8) : ∀ (ks : List Int) (i : Nat), (kidsT (fun _ k => r k) i ks).length ≤ ks.length + (ks.map fun k => (r k).length).sum
  | [], i => by simp [kidsT]
  | k :: ks, i => by
    have h := kidsT_plain r ks (i + 1)
    have h3 : (if i = 0 then ([] : List UInt8) else [44]).length ≤ 1 := by split <;> simp
    simp only [kidsT, List.length_append, List.map_cons, List.sum_cons, List.length_cons]
    omega
theorem kidsT_named (r : Int → List UInt8) (ns : List (List UInt8)) : ∀ (ks : List Int) (i : Nat), (kidsT (fun i k => quoteM (ns.getD i []) ++ [58] ++ r k) i ks).length ≤ 4 * ks.length + 6 * ((ns.drop i).map fun s => s.length + 1).sum + (ks.map fun k => (r k).length).sum
  | [], i => by simp [kidsT]
  | k :: ks, i => by
    have h := kidsT_named r ns ks (i + 1)
    have h3 : (if i = 0 then ([] : List UInt8) else [44]).length ≤ 1 := by split <;> simp
    have h4 := quoteM_le (ns.getD i [])
    have h5 : (ns.getD i []).length + ((ns.drop (i + 1)).map fun s => s.length + 1).sum ≤ ((ns.drop i).map fun s => s.length + 1).sum := by
      by_cases hi : i < ns.length
      · rw [List.drop_eq_getElem_cons hi, List.map_cons, List.sum_cons, List.getD, List.getElem?_eq_getElem hi]
        simp only [Option.getD_some]
        omega
      · rw [List.drop_eq_nil_of_le (show ns.length ≤ i + 1 by omega), List.getD, List.getElem?_eq_none (by omega)]
        simp
    simp only [kidsT, List.length_append, List.map_cons, List.sum_cons, List.length_cons, List.length_nil]
    omega
theorem valT_le (r : Int → List UInt8) (x : VI) (h1 : -9223372036854775808 ≤ x.num) (h2 : x.num ≤ 9223372036854775807) : (valT r x).length ≤ 10 * vb x + 30 + (x.kids.map fun k => (r k).length).sum := by
  unfold valT vb
  split
  · simp; omega
  · split
    · split <;> simp <;> omega
    · split
      · have := itoa_le x.num h1 h2
        omega
      · split
        · have := quoteM_le x.text; omega
        · split
          · have := kidsT_plain r x.kids 0
            simp only [List.length_append, List.length_cons, List.length_nil]
            omega
          · have := kidsT_named r x.names x.kids 0
            simp only [List.drop_zero] at this
            simp only [List.length_append, List.length_cons, List.length_nil]
            omega
theorem kidsT_congr {f g : Nat → Int → List UInt8} : ∀ {ks : List Int} {i : Nat}, (∀ j, ∀ k ∈ ks, f j k = g j k) → kidsT f i ks = kidsT g i ks
  | [], i, _ => rfl
  | k :: ks, i, h => by
    show _ ++ f i k ++ _ = _ ++ g i k ++ _
    rw [h i k (by simp), kidsT_congr (ks := ks) (i := i + 1) fun j k hk => h j k (by simp [hk])]
theorem valT_congr {r r' : Int → List UInt8} {x : VI} (h : ∀ k ∈ x.kids, r k = r' k) : valT r x = valT r' x := by
  unfold valT
  rw [kidsT_congr (f := fun _ k => r k) (g := fun _ k => r' k) fun _ k hk => h k hk, kidsT_congr (f := fun i k => quoteM (x.names.getD i []) ++ [58] ++ r k) (g := fun i k => quoteM (x.names.getD i []) ++ [58] ++ r' k) fun j k hk => by rw [h k hk]]
section
variable {T : List VI}
theorem ahead_getD (ha : ∀ (i : Nat) x, T[i]? = some x → ∀ k ∈ x.kids, 0 ≤ k ∧ k < (i : Int)) (i : Nat) : ∀ k ∈ (T.getD i {}).kids, 0 ≤ k ∧ k < (i : Int) := by
  intro k hk
  rw [List.getD] at hk
  cases h : T[i]? with
  | none => rw [h] at hk; simp at hk
  | some x => rw [h] at hk; exact ha i x h k hk
theorem writeF_fuel (ha : ∀ (i : Nat) x, T[i]? = some x → ∀ k ∈ x.kids, 0 ≤ k ∧ k < (i : Int)) : ∀ (f g : Nat) (k : Int), 0 ≤ k → k < (f : Int) → k < (g : Int) → writeF T f k = writeF T g k
  | 0, _, _, _, h, _ => by omega
  | _ + 1, 0, _, _, _, h => by omega
  | f + 1, g + 1, k, h0, h1, h2 => by
    show valT _ _ = valT _ _
    refine valT_congr fun y hy => ?_
    have := ahead_getD ha k.toNat y hy
    exact writeF_fuel ha f g y (by omega) (by omega) (by omega)
end
def sumTo (g : Nat → Nat) : Nat → Nat
  | 0 => 0
  | n + 1 => sumTo g n + g n
theorem sumTo_add (g h : Nat → Nat) : ∀ n, sumTo (fun i => g i + h i) n = sumTo g n + sumTo h n
  | 0 => rfl
  | n + 1 => by simp only [sumTo, sumTo_add g h n]; omega
theorem sumTo_le {g h : Nat → Nat} : ∀ {n : Nat}, (∀ i, i < n → g i ≤ h i) → sumTo g n ≤ sumTo h n
  | 0, _ => Nat.le_refl _
  | n + 1, hh => Nat.add_le_add (sumTo_le fun i hi => hh i (by omega)) (hh n (by omega))
theorem sumTo_zero : ∀ n, sumTo (fun _ => 0) n = 0
  | 0 => rfl
  | n + 1 => by simp only [sumTo, sumTo_zero n]
theorem sumTo_one (f : Nat → Nat) (k : Nat) : ∀ n, k < n → f k ≤ sumTo (fun i => if i = k then f i else 0) n
  | 0, h => by omega
  | n + 1, h => by
    by_cases e : n = k
    · subst e; simp [sumTo]
    · have := sumTo_one f k n (by omega)
      simp only [sumTo]; omega
/-- A sum over places, each met as often as it is counted. -/
theorem sum_counts (f : Nat → Nat) (N : Nat) : ∀ (l : List Int), (∀ k ∈ l, 0 ≤ k ∧ k < (N : Int)) → (l.map fun k => f k.toNat).sum ≤ sumTo (fun i => l.count (i : Int) * f i) N
  | [], _ => by simp
  | k :: l, h => by
    have ih := sum_counts f N l fun y hy => h y (by simp [hy])
    obtain ⟨k0, k1⟩ := h k (by simp)
    have e := sumTo_one f k.toNat N (by omega)
    have a := sumTo_add (fun i => l.count (i : Int) * f i) (fun i => if i = k.toNat then f i else 0) N
    have b : sumTo (fun i => l.count (i : Int) * f i + if i = k.toNat then f i else 0) N ≤ sumTo (fun i => (k :: l).count (i : Int) * f i) N := sumTo_le fun i _ => by
      rw [List.count_cons]
      by_cases hk : i = k.toNat
      · rw [if_pos hk, if_pos (by simp; omega), Nat.add_mul, Nat.one_mul]; exact Nat.le_refl _
      · rw [if_neg hk, if_neg (by simp; omega)]; exact Nat.le_refl _
    simp only [List.map_cons, List.sum_cons]
    omega
theorem sums_kids (L : Nat → Nat) (C : Nat) {T : List VI} (h : ∀ (i : Nat) x, T[i]? = some x → L i ≤ C + (x.kids.map fun k => L k.toNat).sum) : ∀ m, m ≤ T.length → sumTo L m ≤ m * C + ((((T.take m).map VI.kids).flatten).map fun k => L k.toNat).sum
  | 0, _ => by simp [sumTo]
  | m + 1, hm => by
    have ih := sums_kids L C h m (by omega)
    obtain ⟨x, hx⟩ : ∃ x, T[m]? = some x := ⟨_, List.getElem?_eq_getElem (by omega)⟩
    have hl := h m x hx
    have e : T.take (m + 1) = T.take m ++ [x] := by rw [List.take_add_one, hx]; rfl
    rw [e]
    simp only [List.map_append, List.map_cons, List.map_nil, List.flatten_append, List.flatten_cons, List.flatten_nil, List.append_nil, List.sum_append, sumTo, Nat.add_mul, Nat.one_mul]
    omega
/-- A tree of values each of which is of bulk 1048576 at most has no long text. -/
theorem text_le {T : List VI} (hs : Sml T) (hb : ∀ x ∈ T, vb x ≤ 1048576) : (textM T).length ≤ 140737487000000 := by
  unfold textM
  split
  · rename_i hc
    have ho := okay_of hs hc
    unfold checkE at hc
    split at hc
    · cases hc
    · rename_i h0
      split at hc
      · cases hc
      · rename_i h8
        split at hc
        · rename_i hj
          obtain ⟨hin, hct⟩ := (joined_iff (K := T.map VI.kids) (by intro e; apply h0; simpa using congrArg List.length e)).1 hj.1
          have hall := hin.all
          rw [List.length_map] at hct hall
          obtain ⟨n, hn⟩ : ∃ n, T.length = n + 1 := ⟨T.length - 1, by omega⟩
          have hk : ∀ (i : Nat) x, T[i]? = some x → (writeF T (i + 1) i).length ≤ 10485790 + (x.kids.map fun k => (writeF T (k.toNat + 1) (k.toNat : Int)).length).sum := fun i x hx => by
            have e : writeF T (i + 1) i = valT (writeF T i) x := by
              show valT _ (T.getD ((i : Int).toNat) {}) = _
              rw [Int.toNat_natCast, List.getD, hx]; rfl
            have hx2 := List.mem_of_getElem? hx
            have h1 := valT_le (writeF T i) x (hs.nums x hx2).1 (hs.nums x hx2).2
            have h2 := hb x hx2
            have h3 : (x.kids.map fun k => (writeF T i k).length) = x.kids.map fun k => (writeF T (k.toNat + 1) (k.toNat : Int)).length := List.map_congr_left fun k hk => by
              have := ho.ahead i x hx k hk
              rw [show ((k.toNat : Nat) : Int) = k by omega, writeF_fuel ho.ahead i (k.toNat + 1) k (by omega) (by omega) (by omega)]
            rw [e]
            rw [h3] at h1
            omega
          have h1 := sums_kids (fun i => (writeF T (i + 1) i).length) 10485790 hk T.length (Nat.le_refl _)
          rw [List.take_length] at h1
          have h2 := sum_counts (fun i => (writeF T (i + 1) i).length) n (T.map VI.kids).flatten (fun k hk => by have := hall k hk; omega)
          have h3 : sumTo (fun i => (T.map VI.kids).flatten.count (i : Int) * (writeF T (i + 1) i).length) n ≤ sumTo (fun i => (writeF T (i + 1) i).length) n := sumTo_le fun i hi => by
            rw [hct i (by omega), Nat.one_mul]; exact Nat.le_refl _
          have h4 : sumTo (fun i => (writeF T (i + 1) i).length) T.length = sumTo (fun i => (writeF T (i + 1) i).length) n + (writeF T (n + 1) n).length := by rw [hn]; rfl
          have h5 : writeF T T.length ((T.length : Int) - 1) = writeF T (n + 1) n := by rw [hn, show (((n + 1 : Nat) : Int) - 1) = (n : Int) by omega]
          rw [h5]
          have h6 : T.length * 10485790 ≤ 8192 * 10485790 := Nat.mul_le_mul_right _ (by omega)
          omega
        · cases hc
  · simp
end Go.Proofs.YtpffhckimilppaaDoor
