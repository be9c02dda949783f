/-
  Plain: two trees that Check lets pass, joined under a list.
-/
import Derived.Test.YtpffhckimilppaaDoorLen
namespace Go.Proofs.YtpffhckimilppaaDoor.Jn
open Go.RowKit
set_option maxRecDepth 100000

def shiftV (n : Nat) (x : VI) : VI := { x with kids := x.kids.map fun k => k + (n : Int) }
def nodeJ (a b : Nat) : VI := { kind := 5, kids := [(a : Int) - 1, (a : Int) + (b : Int) - 1] }
/-- Both trees, and the list of their last values. -/
def joinT (A B : List VI) : List VI := A ++ B.map (shiftV A.length) ++ [nodeJ A.length B.length]
structure Okk (T : List VI) : Prop where
  pos : 0 < T.length
  inr : InR 0 (T.map VI.kids)
  once : ∀ i : Nat, i + 1 < T.length → (T.map VI.kids).flatten.count (i : Int) = 1
  plain : T.all plainB = true
theorem check_okk {T : List VI} (h : checkE T = 0) : Okk T := by
  unfold checkE at h
  split at h
  · cases h
  · rename_i h0
    split at h
    · cases h
    · split at h
      · rename_i hj
        obtain ⟨h1, h2⟩ := (joined_iff (K := T.map VI.kids) (by intro e; apply h0; simpa using congrArg List.length e)).1 hj.1
        rw [List.length_map] at h2
        exact ⟨by omega, h1, h2, hj.2⟩
      · cases h
theorem okk_check {T : List VI} (h : Okk T) (hl : T.length ≤ 8192) : checkE T = if 16 < (dpT T).getD (T.length - 1) 0 then 26 else 0 := by
  have hp := h.pos
  unfold checkE
  rw [if_neg (by omega), if_neg (by omega), if_pos]
  refine ⟨?_, h.plain⟩
  rw [joined_iff (by intro e; have := congrArg List.length e; simp at this; rw [this] at hp; simp at hp), List.length_map]
  exact ⟨h.inr, h.once⟩
theorem inR_app : ∀ (A B : List (List Int)) (i : Nat), InR i (A ++ B) ↔ InR i A ∧ InR (i + A.length) B
  | [], B, i => by simp [InR]
  | a :: A, B, i => by
    simp only [List.cons_append, InR, List.length_cons]
    rw [inR_app A B (i + 1), show i + 1 + A.length = i + (A.length + 1) by omega]
    exact ⟨fun ⟨h1, h2, h3⟩ => ⟨⟨h1, h2⟩, h3⟩, fun ⟨⟨h1, h2⟩, h3⟩ => ⟨h1, h2, h3⟩⟩
theorem inR_shift (n : Nat) : ∀ (K : List VI) (i : Nat), InR i (K.map VI.kids) → InR (n + i) ((K.map (shiftV n)).map VI.kids)
  | [], _, _ => trivial
  | x :: K, i, h => by
    refine ⟨fun k hk => ?_, ?_⟩
    · simp only [shiftV, List.mem_map] at hk
      obtain ⟨y, hy, rfl⟩ := hk
      have := h.1 y hy
      omega
    · have := inR_shift n K (i + 1) h.2
      rw [show n + (i + 1) = n + i + 1 by omega] at this
      exact this
theorem flat_shift (n : Nat) : ∀ K : List VI, ((K.map (shiftV n)).map VI.kids).flatten = (K.map VI.kids).flatten.map fun k => k + (n : Int)
  | [] => rfl
  | x :: K => by
    simp only [List.map_cons, List.flatten_cons, List.map_append]
    rw [flat_shift n K]; rfl
theorem count_shift (n : Nat) (i : Int) : ∀ l : List Int, (l.map fun k => k + (n : Int)).count (i + n) = l.count i
  | [] => rfl
  | k :: l => by
    rw [List.map_cons, List.count_cons, List.count_cons, count_shift n i l]
    congr 1
    by_cases h : k = i
    · subst h; simp
    · rw [if_neg (by simp; omega), if_neg (by simpa using h)]
theorem count_out {l : List Int} {i : Int} (h : ∀ k ∈ l, k ≠ i) : l.count i = 0 := List.count_eq_zero_of_not_mem fun hi => h i hi rfl
theorem plain_shift (n : Nat) (x : VI) : plainB (shiftV n x) = plainB x := by
  unfold plainB spareB shiftV
  simp
theorem join_okk {A B : List VI} (hA : Okk A) (hB : Okk B) : Okk (joinT A B) := by
  have pa := hA.pos
  have pb := hB.pos
  have ka := hA.inr.all
  have kb := hB.inr.all
  rw [List.length_map] at ka kb
  refine ⟨by simp [joinT]; omega, ?_, fun i hi => ?_, ?_⟩
  · unfold joinT
    rw [List.map_append, List.map_append, inR_app, inR_app]
    refine ⟨⟨hA.inr, ?_⟩, ?_, trivial⟩
    · rw [List.length_map]
      have := inR_shift A.length B 0 hB.inr
      rw [Nat.add_zero] at this
      rw [Nat.zero_add]; exact this
    · intro k hk
      simp only [nodeJ, List.mem_cons, List.not_mem_nil, or_false] at hk
      simp only [List.length_append, List.length_map]
      rcases hk with rfl | rfl <;> omega
  · have hl : (joinT A B).length = A.length + B.length + 1 := by simp [joinT]; omega
    rw [hl] at hi
    unfold joinT
    rw [List.map_append, List.map_append, List.flatten_append, List.flatten_append, List.count_append, List.count_append, flat_shift]
    simp only [List.map_cons, List.map_nil, List.flatten_cons, List.flatten_nil, List.append_nil, nodeJ]
    have hn : ∀ z : Int, List.count (i : Int) [(A.length : Int) - 1, (A.length : Int) + (B.length : Int) - 1] = (if (A.length : Int) - 1 = i then 1 else 0) + (if (A.length : Int) + (B.length : Int) - 1 = i then 1 else 0) := fun _ => by
      rw [List.count_cons, List.count_cons, List.count_nil]
      by_cases h1 : (A.length : Int) - 1 = i <;> by_cases h2 : (A.length : Int) + (B.length : Int) - 1 = i <;> simp [h1, h2]
    rw [hn 0]
    by_cases c1 : i + 1 < A.length
    · rw [hA.once i c1, count_out (l := List.map _ _) (fun k hk => by
        obtain ⟨y, hy, rfl⟩ := List.mem_map.1 hk
        have := kb y hy
        omega), if_neg (by omega), if_neg (by omega)]
    · rw [count_out (l := (A.map VI.kids).flatten) (fun k hk => by have := ka k hk; omega)]
      by_cases c2 : i + 1 = A.length
      · rw [count_out (l := List.map _ _) (fun k hk => by
          obtain ⟨y, hy, rfl⟩ := List.mem_map.1 hk
          have := kb y hy
          omega), if_pos (by omega), if_neg (by omega)]
      · have e : (i : Int) = ((i - A.length : Nat) : Int) + (A.length : Int) := by omega
        rw [if_neg (by omega)]
        by_cases c3 : i + 1 < A.length + B.length
        · rw [e, count_shift, hB.once (i - A.length) (by omega), if_neg (by omega)]
        · rw [count_out (l := List.map _ _) (fun k hk => by
            obtain ⟨y, hy, rfl⟩ := List.mem_map.1 hk
            have := kb y hy
            omega), if_pos (by omega)]
  · unfold joinT
    rw [List.all_append, List.all_append, hA.plain]
    have : (B.map (shiftV A.length)).all plainB = true := by
      rw [List.all_map]
      have h := hB.plain
      rw [List.all_eq_true] at h ⊢
      intro x hx
      show plainB (shiftV A.length x) = true
      rw [plain_shift]; exact h x hx
    rw [this]
    simp [nodeJ, plainB, spareB]
theorem dpT_len (S : List VI) : (dpT S).length = S.length := (dpT_all S).1
theorem get_right {α : Type} (D E : List α) (k : Nat) : (D ++ E)[D.length + k]? = E[k]? := by
  rw [List.getElem?_append_right (by omega), show D.length + k - D.length = k by omega]
theorem dpK_shift (D E : List Int) : ∀ (ks : List Int) (m : Int), (∀ k ∈ ks, 0 ≤ k) → (ks.map fun k => k + (D.length : Int)).foldl (fun m k => max m ((D ++ E).getD k.toNat 0)) m = ks.foldl (fun m k => max m (E.getD k.toNat 0)) m
  | [], _, _ => rfl
  | k :: ks, m, h => by
    have hk := h k (by simp)
    simp only [List.map_cons, List.foldl_cons]
    have e : (D ++ E).getD (k + (D.length : Int)).toNat 0 = E.getD k.toNat 0 := by
      rw [show (k + (D.length : Int)).toNat = D.length + k.toNat by omega, List.getD, List.getD, get_right]
    rw [e]
    exact dpK_shift D E ks _ fun k hk => h k (by simp [hk])
theorem dpT_shift (A : List VI) : ∀ (R : List VI), (∀ x ∈ R, ∀ k ∈ x.kids, 0 ≤ k) → dpT (A ++ (R.reverse).map (shiftV A.length)) = dpT A ++ dpT R.reverse
  | [], _ => by simp [dpT]
  | x :: R, h => by
    have ih := dpT_shift A R fun y hy => h y (by simp [hy])
    rw [List.reverse_cons, List.map_append, ← List.append_assoc, List.map_cons, List.map_nil, dpT_next, dpT_next, ih, List.append_assoc]
    congr 2
    have hx := h x (by simp)
    unfold dpV1 shiftV dpK
    simp only
    rw [← dpT_len A, dpK_shift (dpT A) (dpT R.reverse) x.kids 0 hx]
theorem dpT_join {A B : List VI} (h : ∀ x ∈ B, ∀ k ∈ x.kids, 0 ≤ k) : dpT (A ++ B.map (shiftV A.length)) = dpT A ++ dpT B := by
  have := dpT_shift A B.reverse (fun x hx => h x (List.mem_reverse.1 hx))
  rwa [List.reverse_reverse] at this
/-! The text. -/
section
variable {A B R : List VI}
theorem write_left (ha : ∀ (i : Nat) x, A[i]? = some x → ∀ k ∈ x.kids, 0 ≤ k ∧ k < (i : Int)) : ∀ (n : Nat) (k : Int), 0 ≤ k → k < (A.length : Int) → writeF (A ++ R) n k = writeF A n k
  | 0, _, _, _ => rfl
  | n + 1, k, h0, h1 => by
    show valT _ ((A ++ R).getD k.toNat {}) = valT _ (A.getD k.toNat {})
    have e : (A ++ R).getD k.toNat {} = A.getD k.toNat {} := by simp [List.getD, List.getElem?_append_left (show k.toNat < A.length by omega)]
    rw [e]
    refine valT_congr fun y hy => ?_
    have := ahead_getD ha k.toNat y hy
    exact write_left ha n y (by omega) (by omega)
theorem kidsT_shift (f g : Nat → Int → List UInt8) (n : Int) : ∀ (ks : List Int) (i : Nat), (∀ j, ∀ k ∈ ks, f j (k + n) = g j k) → kidsT f i (ks.map fun k => k + n) = kidsT g i ks
  | [], _, _ => rfl
  | k :: ks, i, h => by
    show _ ++ f i (k + n) ++ _ = _ ++ g i k ++ _
    rw [h i k (by simp), kidsT_shift f g n ks (i + 1) fun j k hk => h j k (by simp [hk])]
theorem valT_shift {r r' : Int → List UInt8} {x : VI} {n : Nat} (h : ∀ y ∈ x.kids, r (y + (n : Int)) = r' y) : valT r (shiftV n x) = valT r' x := by
  have h1 := kidsT_shift (fun _ k => r k) (fun _ k => r' k) (n : Int) x.kids 0 (fun _ y hy => h y hy)
  have h2 := kidsT_shift (fun i k => quoteM (x.names.getD i []) ++ [58] ++ r k) (fun i k => quoteM (x.names.getD i []) ++ [58] ++ r' k) (n : Int) x.kids 0 (fun _ y hy => by rw [h y hy])
  show (if x.kind = 1 then _ else if x.kind = 2 then _ else if x.kind = 3 then _ else if x.kind = 4 then _ else if x.kind = 5 then [91] ++ kidsT (fun _ k => r k) 0 (x.kids.map fun k => k + (n : Int)) ++ [93] else [123] ++ kidsT (fun i k => quoteM (x.names.getD i []) ++ [58] ++ r k) 0 (x.kids.map fun k => k + (n : Int)) ++ [125]) = _
  rw [h1, h2]
  rfl
theorem write_right (hb : ∀ (i : Nat) x, B[i]? = some x → ∀ k ∈ x.kids, 0 ≤ k ∧ k < (i : Int)) : ∀ (n : Nat) (k : Int), 0 ≤ k → k < (B.length : Int) → writeF (A ++ B.map (shiftV A.length) ++ R) n (k + (A.length : Int)) = writeF B n k
  | 0, _, _, _ => rfl
  | n + 1, k, h0, h1 => by
    show valT _ ((A ++ B.map (shiftV A.length) ++ R).getD (k + (A.length : Int)).toNat {}) = valT _ (B.getD k.toNat {})
    have hk : k.toNat < B.length := by omega
    have e : (A ++ B.map (shiftV A.length) ++ R).getD (k + (A.length : Int)).toNat {} = shiftV A.length (B.getD k.toNat {}) := by
      rw [show (k + (A.length : Int)).toNat = A.length + k.toNat by omega, List.append_assoc, List.getD, List.getD, get_right, List.getElem?_append_left (by simpa using hk), List.getElem?_map, List.getElem?_eq_getElem hk]
      rfl
    rw [e]
    have hkid := ahead_getD hb k.toNat
    generalize B.getD k.toNat {} = x at hkid
    have hrec : ∀ y ∈ x.kids, writeF (A ++ B.map (shiftV A.length) ++ R) n (y + (A.length : Int)) = writeF B n y := fun y hy => by
      have := hkid y hy
      exact write_right hb n y (by omega) (by omega)
    exact valT_shift hrec
end
theorem okk_ahead {T : List VI} (h : Okk T) : ∀ (i : Nat) x, T[i]? = some x → ∀ k ∈ x.kids, 0 ≤ k ∧ k < (i : Int) := fun i x hx k hk => by
  have := inR_at T 0 h.inr i x hx k hk
  simpa using this
theorem joins {A B : List VI} (cA : checkE A = 0) (cB : checkE B = 0) (la : A.length ≤ 300) (lb : B.length ≤ 300) :
    checkE (joinT A B) = 26 ∨ (checkE (joinT A B) = 0 ∧ textM (joinT A B) = [91] ++ textM A ++ [44] ++ textM B ++ [93]) := by
  have hA := check_okk cA
  have hB := check_okk cB
  have pa := hA.pos
  have pb := hB.pos
  have hl : (joinT A B).length = A.length + B.length + 1 := by simp [joinT]; omega
  have hc := okk_check (join_okk hA hB) (by omega)
  by_cases hd : 16 < (dpT (joinT A B)).getD ((joinT A B).length - 1) 0
  · rw [if_pos hd] at hc; exact .inl hc
  · rw [if_neg hd] at hc
    refine .inr ⟨hc, ?_⟩
    rw [textM, if_pos hc, textM, if_pos cA, textM, if_pos cB, hl]
    have e0 : (((A.length + B.length + 1 : Nat) : Int) - 1) = ((A.length + B.length : Nat) : Int) := by omega
    have e1 : (joinT A B).getD ((A.length + B.length : Nat) : Int).toNat {} = nodeJ A.length B.length := by
      unfold joinT
      rw [Int.toNat_natCast, List.getD, show A.length + B.length = (A ++ B.map (shiftV A.length)).length + 0 by simp, get_right]
      rfl
    rw [e0]
    show valT (writeF (joinT A B) (A.length + B.length)) ((joinT A B).getD ((A.length + B.length : Nat) : Int).toNat {}) = _
    rw [e1]
    have f1 : writeF (joinT A B) (A.length + B.length) ((A.length : Int) - 1) = writeF A A.length ((A.length : Int) - 1) := by
      unfold joinT
      rw [List.append_assoc, write_left (okk_ahead hA) _ _ (by omega) (by omega), writeF_fuel (okk_ahead hA) (A.length + B.length) A.length _ (by omega) (by omega) (by omega)]
    have f2 : writeF (joinT A B) (A.length + B.length) ((A.length : Int) + (B.length : Int) - 1) = writeF B B.length ((B.length : Int) - 1) := by
      unfold joinT
      rw [show (A.length : Int) + (B.length : Int) - 1 = ((B.length : Int) - 1) + (A.length : Int) by omega, write_right (okk_ahead hB) _ _ (by omega) (by omega), writeF_fuel (okk_ahead hB) (A.length + B.length) B.length _ (by omega) (by omega) (by omega)]
    show [91] ++ ((if (0 : Nat) = 0 then [] else [44]) ++ writeF (joinT A B) _ _ ++ ((if (1 : Nat) = 0 then [] else [44]) ++ writeF (joinT A B) _ _ ++ [])) ++ [93] = _
    rw [f1, f2]
    simp
end Go.Proofs.YtpffhckimilppaaDoor.Jn
