/-
  What the fixed facts of chapter 6 (Awake) do.
-/
import Derived.Test.YtojkdmkeankcgaaWays
import Derived.Test.YtojkdmkeankcgaaGraphs
namespace Go.Proofs.Ytojkdmkeankcgaa
open Go.RowKit Go.Sort

def exB : List Arc := [(0, 1, 4, 0), (1, 2, 0, 0)]
def exW : Nat → Nat → Option Int := tab (legsM timeM exB)
theorem exB_check : (checkM ((3 : Nat) : Int) exB).2 = 0 := by decide
theorem exW_all : ∀ a : Nat, a < 3 → ∀ b : Nat, b < 3 → exW a b = if a = 0 ∧ b = 1 then some 4 else if a = 1 ∧ b = 2 then some 0 else none := by decide
theorem exW_at (a b : Nat) (ha : a < 3) (hb : b < 3) : exW a b = if a = 0 ∧ b = 1 then some 4 else if a = 1 ∧ b = 2 then some 0 else none := exW_all a ha b hb
theorem exW_ok : WOk 3 exW := fun a b v ha hb h => by
  rw [exW_at a b ha hb] at h
  split at h
  · cases h; omega
  · split at h
    · cases h; omega
    · cases h
theorem exW_least : least 3 exW 0 2 = some 4 := by decide
theorem exW_way (L : List Nat) (h : WayOk 3 exW 0 2 4 L) : L = [0, 1, 2] := by
  have hall := h.all
  match L, h with
  | [], h => exact absurd h.first (by simp)
  | [a], h =>
    have h1 := h.first
    have h2 := h.last
    simp at h1 h2
    omega
  | a :: b :: r, h =>
    have h1 := h.first
    simp at h1
    subst h1
    have hb := hall b (by simp)
    obtain ⟨u, v, e1, e2, _⟩ := oadd_some h.sum
    rw [exW_at 0 b (by omega) hb] at e1
    have hb1 : b = 1 := by
      by_cases e : b = 1
      · exact e
      · rw [if_neg (by omega), if_neg (by omega)] at e1; cases e1
    subst hb1
    match r, h, e2 with
    | [], h, _ => have := h.last; simp at this
    | c :: r, h, e2 =>
      have hc := hall c (by simp)
      obtain ⟨u2, v2, e3, e4, _⟩ := oadd_some e2
      rw [exW_at 1 c (by omega) hc] at e3
      have hc2 : c = 2 := by
        by_cases e : c = 2
        · exact e
        · rw [if_neg (by omega), if_neg (by omega)] at e3; cases e3
      subst hc2
      match r, e4 with
      | [], _ => rfl
      | d :: r, e4 =>
        have hd := hall d (by simp)
        obtain ⟨u3, v3, e5, _, _⟩ := oadd_some e4
        rw [exW_at 2 d (by omega) hd, if_neg (by omega), if_neg (by omega)] at e5
        cases e5
theorem exB_at (w : World) : ArcsAt (w.alloc (.cells #[.int .i64 0, .int .i64 1, .int .i64 4, .int .i64 0, .int .i64 1, .int .i64 2, .int .i64 0, .int .i64 0] 33)) (some ⟨w.heap.size, 0, none⟩) 2 exB := by
  refine ⟨rfl, by omega, fun k hk => ⟨w.heap.size, 0, rfl, ?_⟩⟩
  have h := heap_alloc_new w (.cells #[.int .i64 0, .int .i64 1, .int .i64 4, .int .i64 0, .int .i64 1, .int .i64 2, .int .i64 0, .int .i64 0] 33)
  have hk4 : k = 0 ∨ k = 1 := by omega
  rcases hk4 with rfl | rfl <;> exact ⟨by rw [cell_of_row _ _ _ _ _ _ h]; rfl, by rw [cell_of_row _ _ _ _ _ _ h]; rfl, by rw [cell_of_row _ _ _ _ _ _ h]; rfl, by rw [cell_of_row _ _ _ _ _ _ h]; rfl⟩
theorem exB_new (w : World) : Calls Try.prog 8 #[.agg #[.int .i64 3, .slice (some ⟨w.heap.size, 0, none⟩) 2 2], .func (.func 10) #[] #[]] (w.alloc (.cells #[.int .i64 0, .int .i64 1, .int .i64 4, .int .i64 0, .int .i64 1, .int .i64 2, .int .i64 0, .int .i64 0] 33))
    fun e w' => ∃ g, e = .returned (.tuple #[.pointer (some ⟨g, 0, none⟩), .int .i64 0]) ∧ GAt w' g 3 exW ∧ Below w.heap.size w w' := by
  have h := new_good 3 _ 2 2 exB 10 timeM _ (exB_at w) exB_check (time_any _) enters22
  refine Calls.mono h ?_
  rintro e w' ⟨g, rfl, h1, h2, _⟩
  exact ⟨g, rfl, h1, ((Below.refl w.heap.size w).alloc (Nat.le_refl _) _).trans (h2.mono (by simp))⟩
theorem exB_way {w : World} {g : Nat} (h : GAt w g 3 exW) : Calls Try.prog 29 #[.pointer (some ⟨g, 0, none⟩), .int .i64 0, .int .i64 2] w fun e w' => ∃ gb cap, e = .returned (.tuple #[.slice (some ⟨gb, 0, none⟩) 3 cap, .int .i64 4]) ∧ w'.cell? ⟨gb, 1, none⟩ = some (.int .i64 1) ∧ Below w.heap.size w w' := by
  have := way_any h (by omega) exW_ok 0 2 (by omega) (by omega)
  refine Calls.mono this ?_
  rintro e w' ⟨hb, D, hD, hc⟩
  have hd : D 2 = some 4 := by rw [hD.eq (least_is exW_ok 0 (by omega)) 2 (by omega)]; exact exW_least
  rcases hc with ⟨h1, _⟩ | ⟨d, v, L, h1, rfl, h2, h3⟩
  · rw [hd] at h1; cases h1
  · rw [hd] at h1
    cases h1
    have hL := exW_way L h3
    subst hL
    obtain ⟨gb, cap, rfl, _⟩ := h2.form (by simp [natsI])
    exact ⟨gb, cap, rfl, h2.cell 1 (by simp [natsI]), hb⟩
set_option maxRecDepth 100000 in
set_option maxHeartbeats 1600000 in
theorem awakeS_any (w : World) : Calls Try.prog 15 #[] w fun e w' => e = .returned (.bool true) ∧ Below w.heap.size w w' := by
  have HN := hide (exB_new w)
  go_enter Try.func15, Try.ntmps15
  go_wp2_with (first | (go_at_call 8; refine HN.out.mono ?_; rintro e w1 ⟨g, rfl, h1, h2⟩; have H1 := hide (And.intro h1 h2); clear h1 h2) | (go_at_call 29; refine (exB_way H1.out.1).mono ?_; rintro e w2 ⟨gb, cap, rfl, c2, h2⟩; have H2 : Hid (Below w.heap.size w w2) := H1.out.2.trans (h2.mono H1.out.2.size); clear h2))
  go_ret
  exact ⟨rfl, H2.out⟩
end Go.Proofs.Ytojkdmkeankcgaa
