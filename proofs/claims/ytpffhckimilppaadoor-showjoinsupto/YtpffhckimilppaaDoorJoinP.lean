/-
  Plain: kids that stand ahead of the one whose kids they are, none twice and as many as all the places but the last, are just those that are each a kid once; how deep a tree is.
-/
import Derived.WalkKit
namespace Go.Proofs.YtpffhckimilppaaDoor

/-- The kids of one value behind those seen: none, where one lies outside or was seen. -/
def jnK (i : Int) : List Int → List Int → Option (List Int)
  | seen, [] => some seen
  | seen, k :: ks => if k < 0 ∨ i ≤ k ∨ k ∈ seen then none else jnK i (seen ++ [k]) ks
def jnT : Nat → List Int → List (List Int) → Option (List Int)
  | _, seen, [] => some seen
  | i, seen, ks :: r => (jnK i seen ks).bind fun s => jnT (i + 1) s r
/-- The program's joined. -/
def joinedB (K : List (List Int)) : Bool :=
  match jnT 0 [] K with
  | none => false
  | some s => decide ((s.length : Int) = (K.length : Int) - 1)
/-- Each kid of the values from place i on stands ahead. -/
def InR : Nat → List (List Int) → Prop
  | _, [] => True
  | i, ks :: r => (∀ k ∈ ks, 0 ≤ k ∧ k < (i : Int)) ∧ InR (i + 1) r
theorem jnK_some {i : Int} {ks : List Int} : ∀ {seen s : List Int}, seen.Nodup → (jnK i seen ks = some s ↔ (∀ k ∈ ks, 0 ≤ k ∧ k < i) ∧ (seen ++ ks).Nodup ∧ s = seen ++ ks) := by
  induction ks with
  | nil => intro seen s hn; simp [jnK, hn, eq_comm]
  | cons k ks ih =>
    intro seen s hn
    unfold jnK
    by_cases h : k < 0 ∨ i ≤ k ∨ k ∈ seen
    · rw [if_pos h]
      refine ⟨fun h => by simp at h, fun ⟨h1, h2, _⟩ => ?_⟩
      have hk := h1 k (by simp)
      rcases h with h | h | h
      · omega
      · omega
      · rw [List.nodup_append] at h2
        exact absurd rfl (h2.2.2 k h k (by simp))
    · rw [if_neg h]
      have h3 : (seen ++ [k]).Nodup := by
        rw [List.nodup_append]
        refine ⟨hn, by simp, fun a ha b hb => ?_⟩
        simp at hb; subst hb
        intro e; subst e
        exact h (.inr (.inr ha))
      rw [ih h3, List.append_assoc]
      simp only [List.forall_mem_cons, List.cons_append, List.nil_append]
      refine ⟨fun ⟨a, b, c⟩ => ⟨⟨by omega, a⟩, b, c⟩, fun ⟨a, b, c⟩ => ⟨a.2, b, c⟩⟩
theorem jnT_some {K : List (List Int)} : ∀ {i : Nat} {seen s : List Int}, seen.Nodup → (jnT i seen K = some s ↔ InR i K ∧ (seen ++ K.flatten).Nodup ∧ s = seen ++ K.flatten) := by
  induction K with
  | nil => intro i seen s hn; simp [jnT, InR, hn, eq_comm]
  | cons ks r ih =>
    intro i seen s hn
    unfold jnT InR
    rw [Option.bind_eq_some_iff]
    constructor
    · rintro ⟨m, h1, h2⟩
      obtain ⟨a, b, rfl⟩ := (jnK_some hn).1 h1
      obtain ⟨c, d, rfl⟩ := (ih b).1 h2
      exact ⟨⟨a, c⟩, by simpa using d, by simp⟩
    · rintro ⟨⟨a, c⟩, b, rfl⟩
      have b' : ((seen ++ ks) ++ r.flatten).Nodup := by simpa using b
      have b2 : (seen ++ ks).Nodup := (List.nodup_append.1 b').1
      exact ⟨_, (jnK_some hn).2 ⟨a, b2, rfl⟩, (ih b2).2 ⟨c, b', by simp⟩⟩
/-- How often the numbers below m are there, all together. -/
def sumC (l : List Int) : Nat → Nat
  | 0 => 0
  | m + 1 => sumC l m + l.count (m : Int)
theorem sumC_cons {k : Int} {l : List Int} : ∀ {m : Nat}, sumC (k :: l) m = sumC l m + (if 0 ≤ k ∧ k < (m : Int) then 1 else 0)
  | 0 => by rw [if_neg (by omega)]; rfl
  | m + 1 => by
    unfold sumC
    rw [sumC_cons, List.count_cons]
    by_cases h : k = (m : Int)
    · subst h
      rw [if_neg (by omega), if_pos (by simp), if_pos (by omega)]
      omega
    · rw [if_neg (c := (k == (m : Int)) = true) (by simpa using h)]
      by_cases h2 : 0 ≤ k ∧ k < (m : Int)
      · rw [if_pos h2, if_pos (by omega)]; omega
      · rw [if_neg h2, if_neg (by omega)]; omega
theorem sumC_len {l : List Int} {m : Nat} (h : ∀ k ∈ l, 0 ≤ k ∧ k < (m : Int)) : sumC l m = l.length := by
  induction l with
  | nil => clear h; induction m with
    | zero => rfl
    | succ m ih => unfold sumC; rw [ih]; rfl
  | cons k l ih =>
    rw [sumC_cons, ih (fun x hx => h x (by simp [hx])), if_pos (h k (by simp))]
    rfl
theorem sumC_le {l : List Int} (h : ∀ k : Int, l.count k ≤ 1) : ∀ {m : Nat}, sumC l m ≤ m
  | 0 => Nat.le_refl _
  | m + 1 => by have := sumC_le h (m := m); have := h m; unfold sumC; omega
theorem sumC_all {l : List Int} (h : ∀ k : Int, l.count k ≤ 1) : ∀ {m : Nat}, sumC l m = m → ∀ i, i < m → l.count (i : Int) = 1
  | 0, _, i, hi => by omega
  | m + 1, hs, i, hi => by
    have h1 := sumC_le h (m := m); have h2 := h m
    unfold sumC at hs
    by_cases e : i = m
    · subst e; omega
    · exact sumC_all h (m := m) (by omega) i (by omega)
theorem sumC_one {l : List Int} : ∀ {m : Nat}, (∀ i, i < m → l.count (i : Int) = 1) → sumC l m = m
  | 0, _ => rfl
  | m + 1, h => by unfold sumC; rw [sumC_one fun i hi => h i (by omega), h m (by omega)]
theorem InR.all {K : List (List Int)} : ∀ {i : Nat}, InR i K → ∀ k ∈ K.flatten, 0 ≤ k ∧ k < ((i + K.length : Nat) : Int) - 1 := by
  induction K with
  | nil => intro i _ k hk; simp at hk
  | cons ks r ih =>
    intro i h k hk
    simp only [List.flatten_cons, List.mem_append, List.length_cons] at hk ⊢
    rcases hk with hk | hk
    · have := h.1 k hk; omega
    · have := ih h.2 k hk; omega
/-- Joined is what the document asks: the kids stand ahead, and each place but the last is a kid once. -/
theorem joined_iff {K : List (List Int)} (hK : K ≠ []) : joinedB K = true ↔ InR 0 K ∧ ∀ i : Nat, i + 1 < K.length → K.flatten.count (i : Int) = 1 := by
  have hl : 0 < K.length := List.length_pos_iff.2 hK
  obtain ⟨m, hm⟩ : ∃ m, K.length = m + 1 := ⟨K.length - 1, by omega⟩
  constructor
  · intro h
    unfold joinedB at h
    split at h
    · cases h
    · rename_i s hs
      obtain ⟨h1, h2, rfl⟩ := (jnT_some (by simp)).1 hs
      simp only [List.nil_append] at h h2
      have h3 := of_decide_eq_true h
      have hc : ∀ k : Int, K.flatten.count k ≤ 1 := fun k => List.nodup_iff_count.1 h2 k
      have h4 : sumC K.flatten m = K.flatten.length := sumC_len fun k hk => by have := h1.all k hk; omega
      exact ⟨h1, fun i hi => sumC_all hc (m := m) (by omega) i (by omega)⟩
  · rintro ⟨h1, h2⟩
    have hin : ∀ k ∈ K.flatten, 0 ≤ k ∧ k < (m : Int) := fun k hk => by have := h1.all k hk; omega
    have hn : K.flatten.Nodup := List.nodup_iff_count.2 fun k => by
      by_cases hk : k ∈ K.flatten
      · have := hin k hk
        have e := h2 k.toNat (by omega)
        rw [show ((k.toNat : Nat) : Int) = k by omega] at e
        omega
      · rw [List.count_eq_zero_of_not_mem hk]; omega
    unfold joinedB
    rw [(jnT_some (s := K.flatten) (by simp)).2 ⟨h1, by simpa using hn, by simp⟩]
    have h4 := sumC_len hin
    rw [sumC_one fun i hi => h2 i (by omega)] at h4
    exact decide_eq_true (by omega)
end Go.Proofs.YtpffhckimilppaaDoor
