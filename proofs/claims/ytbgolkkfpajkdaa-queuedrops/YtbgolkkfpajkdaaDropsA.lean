/-
  Two queues and a map of what goes, none in the other's blocks; and plain: what goes of a list.
-/
import Derived.Test.YtbgolkkfpajkdaaTwo
namespace Go.Proofs.Ytbgolkkfpajkdaa
open Go.RowKit Go.Maps

/-- A second queue, and R beside it. -/
def TwoR (qb : Nat) (Y : List Pr) (R : World → (Nat → Prop) → Prop) : World → (Nat → Prop) → Prop := fun w T =>
  ∃ S' T', QAt w qb Y S' ∧ R w T' ∧ (∀ k, T' k → k < w.heap.size) ∧ (∀ k, S' k → ¬ T' k) ∧ (∀ k, T k ↔ S' k ∨ T' k)
theorem keeps_two {qb : Nat} {Y : List Pr} {R : World → (Nat → Prop) → Prop} (hR : Keeps R) : Keeps (TwoR qb Y R) := by
  rintro w w' S T ⟨S', T', h1, h2, h3, h4, h5⟩ f _ hd
  exact ⟨S', T', h1.fr f (fun k hk => hd k ((h5 k).2 (.inl hk))), hR w w' S T' h2 f h3 (fun k hk => hd k ((h5 k).2 (.inr hk))), fun k hk => Nat.lt_of_lt_of_le (h3 k hk) f.size, h4, h5⟩
section
variable {B qa qb : Nat} {R R' : World → (Nat → Prop) → Prop} {w w' : World} {X Y : List Pr}
theorem TwoR.first (hR : Keeps R) (h : Two B (TwoR qb Y R) w qa X) (hB : B ≤ w.heap.size) {f : FuncId} {args : Array Value} {r : Value} {Y' : List Pr}
    (hc : ∀ S, QAt w qb Y S → Calls Try.prog f args w fun e w' => e = .returned r ∧ QAt w' qb Y' (grow S w w') ∧ Fr S w w') :
    Calls Try.prog f args w fun e w' => e = .returned r ∧ Two B (TwoR qb Y' R) w' qa X ∧ Below B w w' := by
  obtain ⟨S, T, h1, ⟨S', T', g1, g2, g3, g4, g5⟩, h3, h4, h5, h6⟩ := h
  refine (hc S' g1).mono ?_
  rintro e w' ⟨rfl, hQ, hF⟩
  have hs := hF.size
  have hlt := g1.lt
  refine ⟨rfl, ⟨S, fun k => grow S' w w' k ∨ T' k, h1.fr hF (fun k a b => h4 k a ((g5 k).2 (.inl b))), ⟨_, T', hQ, hR w w' S' T' g2 hF g3 (fun k a b => g4 k b a), fun k a => Nat.lt_of_lt_of_le (g3 k a) hs, fun k a b => ?_, fun k => Iff.rfl⟩, fun k a => ?_, fun k a b => ?_, h5, fun k a => ?_⟩, hF.below hB (fun k a => h6 k ((g5 k).2 (.inl a)))⟩
  · rcases a with a | a
    · exact g4 k a b
    · have := g3 k b; omega
  · rcases a with (a | a) | a
    · exact Nat.lt_of_lt_of_le (hlt k a) hs
    · exact a.2
    · exact Nat.lt_of_lt_of_le (g3 k a) hs
  · rcases b with (b | b) | b
    · exact h4 k a ((g5 k).2 (.inl b))
    · have := h1.lt k a; omega
    · exact h4 k a ((g5 k).2 (.inr b))
  · rcases a with (a | a) | a
    · exact h6 k ((g5 k).2 (.inl a))
    · omega
    · exact h6 k ((g5 k).2 (.inr a))
theorem twoB_put (hR : Keeps R) (h : Two B (TwoR qb Y R) w qa X) (hB : B ≤ w.heap.size) (x k : Int) (hx : I64 x) (hk : I64 k) :
    Calls Try.prog 16 #[.pointer (some ⟨qb, 0, none⟩), .int .i64 x, .int .i64 k] w fun e w' => e = .returned (.bool (putM Y x k).2) ∧ Two B (TwoR qb (putM Y x k).1 R) w' qa X ∧ Below B w w' :=
  TwoR.first hR h hB (fun _ hS => put_any hS x k hx hk)
theorem twoB_take (hR : Keeps R) (h : Two B (TwoR qb Y R) w qa X) (hB : B ≤ w.heap.size) (p : Pr) (hp : Least Y p) :
    Calls Try.prog 10 #[.pointer (some ⟨qb, 0, none⟩)] w fun e w' => e = .returned (.tuple #[.int .i64 p.1, .int .i64 p.2, .bool true]) ∧ Two B (TwoR qb (dropM Y p.1) R) w' qa X ∧ Below B w w' :=
  TwoR.first hR h hB (fun _ hS => (take_any hS p hp).mono fun _ _ ⟨e, h1, h2⟩ => ⟨e, grow_self h1, h2⟩)
theorem twoB_len (h : Two B (TwoR qb Y R) w qa X) : Calls Try.prog 18 #[.pointer (some ⟨qb, 0, none⟩)] w fun e w' => e = .returned (.int .i64 Y.length) ∧ w' = w := by
  obtain ⟨S, T, h1, ⟨S', T', g1, _⟩, _⟩ := h
  exact qlen_any g1
/-- A step of the third one. -/
theorem TwoR.third (h : Two B (TwoR qb Y R) w qa X) (hB : B ≤ w.heap.size) (f : ∀ T, R w T → (∀ k, T k → k < w.heap.size) → Fr T w w' ∧ R' w' T) : Two B (TwoR qb Y R') w' qa X ∧ Below B w w' := by
  refine h.second hB ?_
  rintro T ⟨S', T', g1, g2, g3, g4, g5⟩ hlt
  obtain ⟨hF, hR'⟩ := f T' g2 g3
  refine ⟨hF.mono (fun k a => (g5 k).2 (.inr a)), T, ⟨S', T', g1.fr hF (fun k a b => g4 k a b), hR', fun k a => Nat.lt_of_lt_of_le (g3 k a) hF.size, g4, g5⟩, fun k a => .inl a, fun k a => Nat.lt_of_lt_of_le (hlt k a) hF.size⟩
theorem TwoR.get (h : Two B (TwoR qb Y R) w qa X) : ∃ T, R w T := by
  obtain ⟨S, T, h1, ⟨S', T', g1, g2, _⟩, _⟩ := h
  exact ⟨T', g2⟩
theorem TwoR.dis (h : Two B (TwoR qb Y R) w qa X) : Dis Y := by
  obtain ⟨S, T, h1, ⟨S', T', g1, _⟩, _⟩ := h
  exact g1.dis
end

/-! ### plain -/
/-- Without the items of G. -/
def less (G : List Int) (X : List Pr) : List Pr := X.filter (fun p => decide (p.1 ∉ G))
theorem mem_less {G : List Int} {X : List Pr} {p : Pr} : p ∈ less G X ↔ p ∈ X ∧ p.1 ∉ G := by simp [less]
theorem look_less {G : List Int} {X : List Pr} {x : Int} (hx : x ∉ G) : look (less G X) x = look X x := by
  unfold look less
  induction X with
  | nil => rfl
  | cons a r ih =>
    by_cases e : a.1 = x
    · have : a.1 ∉ G := by rw [e]; exact hx
      rw [List.filter_cons_of_pos (by simpa using this), List.find?_cons_of_pos (by simpa using e), List.find?_cons_of_pos (by simpa using e)]
    · rw [List.find?_cons_of_neg (l := r) (by simpa using e)]
      by_cases g : a.1 ∈ G
      · rw [List.filter_cons_of_neg (by simpa using g)]; exact ih
      · rw [List.filter_cons_of_pos (by simpa using g), List.find?_cons_of_neg (by simpa using e)]; exact ih
theorem less_repl_in {G : List Int} {X : List Pr} {x k : Int} (hx : x ∈ G) : less G (X.map (repl x k)) = less G X := by
  unfold less
  induction X with
  | nil => rfl
  | cons a r ih =>
    rw [List.map_cons]
    by_cases e : a.1 = x
    · have h1 : repl x k a = (x, k) := by simp [repl, e]
      have : a.1 ∈ G := by rw [e]; exact hx
      rw [h1, List.filter_cons_of_neg (by simp [hx]), List.filter_cons_of_neg (by simp [this])]
      exact ih
    · have h1 : repl x k a = a := by simp [repl, e]
      rw [h1]
      by_cases g : a.1 ∈ G
      · rw [List.filter_cons_of_neg (by simp [g]), List.filter_cons_of_neg (by simp [g])]; exact ih
      · rw [List.filter_cons_of_pos (by simp [g]), List.filter_cons_of_pos (by simp [g]), ih]
theorem less_repl_out {G : List Int} {X : List Pr} {x k : Int} : less G (X.map (repl x k)) = (less G X).map (repl x k) := by
  unfold less
  induction X with
  | nil => rfl
  | cons a r ih =>
    rw [List.map_cons]
    have h1 : (repl x k a).1 = a.1 := by unfold repl; split <;> simp_all
    by_cases g : a.1 ∈ G
    · rw [List.filter_cons_of_neg (by rw [h1]; simp [g]), List.filter_cons_of_neg (by simp [g])]; exact ih
    · rw [List.filter_cons_of_pos (by rw [h1]; simp [g]), List.filter_cons_of_pos (by simp [g]), List.map_cons, ih]
theorem less_len (G : List Int) (X : List Pr) : (less G X).length ≤ X.length := List.length_filter_le _ _
theorem put_less_in {G : List Int} {X : List Pr} {x k : Int} (hx : x ∈ G) : less G (putM X x k).1 = less G X := by
  unfold putM
  cases look X x with
  | none =>
    dsimp only
    split
    · simp [less, hx]
    · rfl
  | some p =>
    dsimp only
    split
    · exact less_repl_in hx
    · rfl
theorem put_less_out {G : List Int} {X : List Pr} {x k : Int} (hx : x ∉ G) (hl : X.length < 4096) : less G (putM X x k).1 = (putM (less G X) x k).1 := by
  unfold putM
  rw [look_less hx]
  have h2 := less_len G X
  cases look X x with
  | none =>
    dsimp only
    rw [if_pos hl, if_pos (by omega)]
    simp [less, hx]
  | some p =>
    dsimp only
    split
    · exact less_repl_out
    · rfl
theorem put_len2 (X : List Pr) (x k : Int) : (putM X x k).1.length ≤ X.length + 1 := by
  unfold putM
  split
  · split <;> simp
  · split <;> simp
theorem less_drop {G : List Int} {X : List Pr} {d : Int} (hd : d ∈ G) : less G (dropM X d) = less G X := by
  unfold less dropM
  rw [List.filter_filter]
  refine List.filter_congr fun p _ => ?_
  by_cases e : p.1 = d
  · have : p.1 ∈ G := by rw [e]; exact hd
    simp [this]
  · simp [e]
theorem look_drop_same (X : List Pr) (d : Int) : look (dropM X d) d = none := look_none.2 (fun p hp => by simpa using (List.mem_filter.1 hp).2)
theorem keyM_some (X : List Pr) (x : Int) : (keyM X x).2 = (look X x).isSome := by unfold keyM; cases look X x <;> rfl
theorem less_all {G : List Int} {X : List Pr} (h : ∀ p ∈ X, p.1 ∉ G) : less G X = X := by
  unfold less
  rw [List.filter_eq_self]
  intro p hp
  simpa using h p hp
end Go.Proofs.Ytbgolkkfpajkdaa
