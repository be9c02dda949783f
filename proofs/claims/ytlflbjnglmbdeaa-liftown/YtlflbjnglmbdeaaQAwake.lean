/-
  A queue above a base; what the fixed facts (Awake) and the law of a nil queue (QueueNil) do.
-/
import Derived.Test.YtlflbjnglmbdeaaQQueB
namespace Go.Proofs.Ytlflbjnglmbdeaa.Qu
open Go.RowKit Go.Maps

/-- A queue all of whose blocks lie at base or above. -/
def QB (base : Nat) (w : World) (q : Nat) (X : List Pr) : Prop := ∃ S, QAt w q X S ∧ (∀ b, S b → base ≤ b)
section
variable {w w' : World} {base q : Nat} {X : List Pr}
theorem QB.dis (h : QB base w q X) : Dis X := by obtain ⟨S, h, _⟩ := h; exact h.dis
theorem QB.len (h : QB base w q X) : X.length ≤ 4096 := by obtain ⟨S, h, _⟩ := h; exact h.len
theorem QB.later (h : QB base w q X) (f : Below w.heap.size w w') : QB base w' q X := by obtain ⟨S, h, r⟩ := h; exact ⟨S, h.later f, r⟩
theorem QB.perm {Y : List Pr} (h : QB base w q X) (p : X.Perm Y) : QB base w q Y := by obtain ⟨S, h, r⟩ := h; exact ⟨S, h.perm p, r⟩
theorem qb_new (w : World) (hb : base ≤ w.heap.size) : Calls Try.prog 47 #[] w fun e w' => e = .returned (.pointer (some ⟨w.heap.size, 0, none⟩)) ∧ QB base w' w.heap.size [] ∧ Below w.heap.size w w' := by
  refine (new_any w).mono ?_
  rintro e w' ⟨rfl, h1, h2, _⟩
  exact ⟨rfl, ⟨_, h1, fun b e => by subst e; exact hb⟩, h2⟩
theorem qb_put (h : QB base w q X) (hb : base ≤ w.heap.size) (x k : Int) (hx : I64 x) (hk : I64 k) {b : Bool} {X' : List Pr} (hm : putM X x k = (X', b)) :
    Calls Try.prog 48 #[.pointer (some ⟨q, 0, none⟩), .int .i64 x, .int .i64 k] w fun e w' => e = .returned (.bool b) ∧ QB base w' q X' ∧ Below base w w' := by
  obtain ⟨S, h, r⟩ := h
  have H := put_any h x k hx hk
  rw [hm] at H
  refine H.mono ?_
  rintro e w' ⟨rfl, h1, h2⟩
  exact ⟨rfl, ⟨_, h1, fun b e => by rcases e with e | e; exact r b e; omega⟩, h2.below hb r⟩
theorem qb_take (h : QB base w q X) (hb : base ≤ w.heap.size) (p : Pr) (hp : Least X p) :
    Calls Try.prog 44 #[.pointer (some ⟨q, 0, none⟩)] w fun e w' => e = .returned (.tuple #[.int .i64 p.1, .int .i64 p.2, .bool true]) ∧ QB base w' q (dropM X p.1) ∧ Below base w w' := by
  obtain ⟨S, h, r⟩ := h
  refine (take_any h p hp).mono ?_
  rintro e w' ⟨rfl, h1, h2⟩
  exact ⟨rfl, ⟨_, h1, r⟩, h2.below hb r⟩
theorem qb_empty (h : QB base w q []) : Calls Try.prog 44 #[.pointer (some ⟨q, 0, none⟩)] w fun e w' => e = .returned (.tuple #[.int .i64 0, .int .i64 0, .bool false]) ∧ w' = w := by
  obtain ⟨S, h, r⟩ := h
  exact h.emp
theorem qb_len (h : QB base w q X) : Calls Try.prog 63 #[.pointer (some ⟨q, 0, none⟩)] w fun e w' => e = .returned (.int .i64 X.length) ∧ w' = w := by
  obtain ⟨S, h, r⟩ := h
  exact qlen_any h
theorem least_awake : Least [(7, 5), (3, 5)] ((3, 5) : Pr) := ⟨by simp, by simp [lt]⟩
theorem nil_place (x : Int) (w : World) : Calls Try.prog 67 #[.pointer none, .int .i64 x] w fun e w' => e = .returned (.tuple #[.int .i64 0, .bool false]) ∧ w' = w := by
  go_enter Try.func67, Try.ntmps67
  go_wp2
  go_ret2
  exact ⟨rfl, rfl⟩
theorem nil_len (w : World) : Calls Try.prog 63 #[.pointer none] w fun e w' => e = .returned (.int .i64 0) ∧ w' = w := by
  go_enter Try.func63, Try.ntmps63
  go_wp2
  go_ret
  exact ⟨rfl, rfl⟩
theorem nil_take (w : World) : Calls Try.prog 44 #[.pointer none] w fun e w' => e = .returned (.tuple #[.int .i64 0, .int .i64 0, .bool false]) ∧ w' = w := by
  go_enter Try.func44, Try.ntmps44
  go_wp2_with (go_at_call 63; refine (nil_len _).mono ?_; rintro e w2 ⟨rfl, rfl⟩)
  go_returns
  exact ⟨rfl, rfl⟩
theorem nil_put (x k : Int) (w : World) : Calls Try.prog 48 #[.pointer none, .int .i64 x, .int .i64 k] w fun e w' => e = .returned (.bool false) ∧ w' = w := by
  go_enter Try.func48, Try.ntmps48
  go_wp2
  go_ret
  exact ⟨rfl, rfl⟩
end
end Go.Proofs.Ytlflbjnglmbdeaa.Qu
