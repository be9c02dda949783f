/-
  Plain: with one more arc no least weight is greater.
-/
import Derived.Test.YtojkdmkeankcgaaLeastP
import Derived.Test.YtojkdmkeankcgaaNew
namespace Go.Proofs.Ytojkdmkeankcgaa
open Go.RowKit Go.Sort

section
variable {n p q : Nat} {V W : Nat → Nat → Option Int}
theorem way_more (h : ∀ a b, a < n → b < n → Ole (V a b) (W a b)) {d : Int} (k : Way n W p q d) : ∃ d', Way n V p q d' ∧ d' ≤ d := by
  induction k with
  | here => exact ⟨0, .here, Int.le_refl _⟩
  | on k hu hv hx ih =>
    obtain ⟨d', h1, h2⟩ := ih
    obtain ⟨y, h3, h4⟩ := h _ _ hu hv _ hx
    exact ⟨_, .on h1 hu hv h3, by omega⟩
theorem least_more (hV : WOk n V) (hW : WOk n W) (h : ∀ a b, a < n → b < n → Ole (V a b) (W a b)) (hp : p < n) (hq : q < n) : Ole (least n V p q) (least n W p q) := fun d hd => by
  obtain ⟨d', h1, h2⟩ := way_more h ((least_is hW p hp).way q d hq hd)
  obtain ⟨e, h3, h4⟩ := (least_is hV p hp).le h1
  exact ⟨e, h3, by omega⟩
theorem tab_more {L M : List Leg} (h : ∀ l ∈ L, l ∈ M) (p q : Nat) : Ole (tab M p q) (tab L p q) := fun v hv => by
  obtain ⟨⟨l, hl, h1, h2, h3⟩, _⟩ := tab_some.1 hv
  cases hm : tab M p q with
  | none => exact absurd ⟨h1, h2⟩ (tab_none.1 hm l (h l hl))
  | some x => exact ⟨x, rfl, by rw [← h3]; exact (tab_some.1 hm).2 l (h l hl) h1 h2⟩
theorem legs_more (mt : Arc → Int) {A B : List Arc} (h : ∀ x ∈ A, x ∈ B) : ∀ l ∈ legsM mt A, l ∈ legsM mt B := fun l hl => by
  unfold legsM at hl ⊢
  rw [List.mem_map] at hl ⊢
  obtain ⟨a, ha, e⟩ := hl
  rw [List.mem_filter] at ha
  exact ⟨a, List.mem_filter.2 ⟨h a ha.1, ha.2⟩, e⟩
end
end Go.Proofs.Ytojkdmkeankcgaa
