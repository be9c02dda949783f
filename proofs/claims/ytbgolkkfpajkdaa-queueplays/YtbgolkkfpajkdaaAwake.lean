/-
  A queue above a base; what the fixed facts (Awake) and the law of a nil queue (QueueNil) do.
-/
import Derived.Test.YtbgolkkfpajkdaaQueB
namespace Go.Proofs.Ytbgolkkfpajkdaa
open Go.RowKit Go.Maps

/-- A queue all of whose blocks lie at base or above. -/
def QB (base : Nat) (w : World) (q : Nat) (X : List Pr) : Prop := ∃ S, QAt w q X S ∧ (∀ b, S b → base ≤ b)
section
variable {w w' : World} {base q : Nat} {X : List Pr}
theorem QB.dis (h : QB base w q X) : Dis X := by obtain ⟨S, h, _⟩ := h; exact h.dis
theorem QB.len (h : QB base w q X) : X.length ≤ 4096 := by obtain ⟨S, h, _⟩ := h; exact h.len
theorem QB.later (h : QB base w q X) (f : Below w.heap.size w w') : QB base w' q X := by obtain ⟨S, h, r⟩ := h; exact ⟨S, h.later f, r⟩
theorem QB.perm {Y : List Pr} (h : QB base w q X) (p : X.Perm Y) : QB base w q Y := by obtain ⟨S, h, r⟩ := h; exact ⟨S, h.perm p, r⟩
theorem qb_new (w : World) (hb : base ≤ w.heap.size) : Calls Try.prog 9 #[] w fun e w' => e = .returned (.pointer (some ⟨w.heap.size, 0, none⟩)) ∧ QB base w' w.heap.size [] ∧ Below w.heap.size w w' := by
  refine (new_any w).mono ?_
  rintro e w' ⟨rfl, h1, h2, _⟩
  exact ⟨rfl, ⟨_, h1, fun b e => by subst e; exact hb⟩, h2⟩
theorem qb_put (h : QB base w q X) (hb : base ≤ w.heap.size) (x k : Int) (hx : I64 x) (hk : I64 k) {b : Bool} {X' : List Pr} (hm : putM X x k = (X', b)) :
    Calls Try.prog 16 #[.pointer (some ⟨q, 0, none⟩), .int .i64 x, .int .i64 k] w fun e w' => e = .returned (.bool b) ∧ QB base w' q X' ∧ Below base w w' := by
  obtain ⟨S, h, r⟩ := h
  have H := put_any h x k hx hk
  rw [hm] at H
  refine H.mono ?_
  rintro e w' ⟨rfl, h1, h2⟩
  exact ⟨rfl, ⟨_, h1, fun b e => by rcases e with e | e; exact r b e; omega⟩, h2.below hb r⟩
theorem qb_take (h : QB base w q X) (hb : base ≤ w.heap.size) (p : Pr) (hp : Least X p) :
    Calls Try.prog 10 #[.pointer (some ⟨q, 0, none⟩)] w fun e w' => e = .returned (.tuple #[.int .i64 p.1, .int .i64 p.2, .bool true]) ∧ QB base w' q (dropM X p.1) ∧ Below base w w' := by
  obtain ⟨S, h, r⟩ := h
  refine (take_any h p hp).mono ?_
  rintro e w' ⟨rfl, h1, h2⟩
  exact ⟨rfl, ⟨_, h1, r⟩, h2.below hb r⟩
theorem qb_empty (h : QB base w q []) : Calls Try.prog 10 #[.pointer (some ⟨q, 0, none⟩)] w fun e w' => e = .returned (.tuple #[.int .i64 0, .int .i64 0, .bool false]) ∧ w' = w := by
  obtain ⟨S, h, r⟩ := h
  exact h.emp
theorem qb_len (h : QB base w q X) : Calls Try.prog 18 #[.pointer (some ⟨q, 0, none⟩)] w fun e w' => e = .returned (.int .i64 X.length) ∧ w' = w := by
  obtain ⟨S, h, r⟩ := h
  exact qlen_any h
theorem qb_key (h : QB base w q X) (x : Int) (hx : I64 x) : Calls Try.prog 14 #[.pointer (some ⟨q, 0, none⟩), .int .i64 x] w fun e w' => e = .returned (.tuple #[.int .i64 (keyM X x).1, .bool (keyM X x).2]) ∧ w' = w := by
  obtain ⟨S, h, r⟩ := h
  exact key_any h x hx
theorem qb_drop (h : QB base w q X) (hb : base ≤ w.heap.size) (x : Int) (hx : I64 x) :
    Calls Try.prog 12 #[.pointer (some ⟨q, 0, none⟩), .int .i64 x] w fun e w' => e = .returned (.bool (look X x).isSome) ∧ QB base w' q (dropM X x) ∧ Below base w w' := by
  obtain ⟨S, h, r⟩ := h
  refine (drop_any h x hx).mono ?_
  rintro e w' ⟨rfl, h1, h2⟩
  exact ⟨rfl, ⟨_, h1, r⟩, h2.below hb r⟩

theorem least_awake : Least [(7, 5), (3, 5)] ((3, 5) : Pr) := ⟨by simp, by simp [lt]⟩
set_option maxRecDepth 100000 in
set_option maxHeartbeats 800000 in
theorem awake_any (w : World) : Calls Try.prog 8 #[] w fun e w' => e = .returned (.bool true) ∧ Below w.heap.size w w' := by
  have HI : Hid (I64 7 ∧ I64 5 ∧ I64 3) := ⟨⟨by omega, by omega⟩, ⟨by omega, by omega⟩, ⟨by omega, by omega⟩⟩
  have HN := hide (qb_new (base := w.heap.size) w (Nat.le_refl _))
  obtain ⟨B, hB⟩ : ∃ B, w.heap.size = B := ⟨_, rfl⟩
  rw [hB] at HN ⊢
  have HB := hide hB
  clear hB
  go_enter Try.func8, Try.ntmps8
  go_wp2_with (first | (go_at_call 9; refine HN.out.mono ?_; rintro e w1 ⟨rfl, q1, b1⟩; have H1 := hide (And.intro q1 b1); clear q1 b1) | (go_at_call 16; refine (qb_put (X := [(7, 5)]) (X' := [(7, 5), (3, 5)]) (b := true) H2.out.1 (Nat.le_trans (Nat.le_of_eq HB.out.symm) H2.out.2.size) 3 5 HI.out.2.2 HI.out.2.1 rfl).mono ?_; rintro e w3 ⟨rfl, q3, b3⟩; have H3 := hide (And.intro q3 (H2.out.2.trans b3)); clear q3 b3) | (go_at_call 16; refine (qb_put (X := []) (X' := [(7, 5)]) (b := true) H1.out.1 (Nat.le_trans (Nat.le_of_eq HB.out.symm) H1.out.2.size) 7 5 HI.out.1 HI.out.2.1 rfl).mono ?_; rintro e w2 ⟨rfl, q2, b2⟩; have H2 := hide (And.intro q2 (H1.out.2.trans b2)); clear q2 b2) | (go_at_call 10; refine (qb_take H3.out.1 (Nat.le_trans (Nat.le_of_eq HB.out.symm) H3.out.2.size) (3, 5) least_awake).mono ?_; rintro e w4 ⟨rfl, q4, b4⟩; have H4 := hide (And.intro q4 (H3.out.2.trans b4)); clear q4 b4; simp only) | (go_at_call 18; refine (qb_len (X := [(7, 5)]) H4.out.1).mono ?_; rintro e w5 ⟨rfl, rfl⟩; simp only [List.length_cons, List.length_nil]))
  go_ret
  exact ⟨rfl, H4.out.2⟩

theorem nil_place (x : Int) (w : World) : Calls Try.prog 20 #[.pointer none, .int .i64 x] w fun e w' => e = .returned (.tuple #[.int .i64 0, .bool false]) ∧ w' = w := by
  go_enter Try.func20, Try.ntmps20
  go_wp2
  go_ret2
  exact ⟨rfl, rfl⟩
theorem nil_len (w : World) : Calls Try.prog 18 #[.pointer none] w fun e w' => e = .returned (.int .i64 0) ∧ w' = w := by
  go_enter Try.func18, Try.ntmps18
  go_wp2
  go_ret
  exact ⟨rfl, rfl⟩
theorem nil_key (x : Int) (w : World) : Calls Try.prog 14 #[.pointer none, .int .i64 x] w fun e w' => e = .returned (.tuple #[.int .i64 0, .bool false]) ∧ w' = w := by
  go_enter Try.func14, Try.ntmps14
  go_wp2_with (go_at_call 20; refine (nil_place _ _).mono ?_; rintro e w2 ⟨rfl, rfl⟩)
  go_ret2
  exact ⟨rfl, rfl⟩
theorem nil_drop (x : Int) (w : World) : Calls Try.prog 12 #[.pointer none, .int .i64 x] w fun e w' => e = .returned (.bool false) ∧ w' = w := by
  go_enter Try.func12, Try.ntmps12
  go_wp2_with (go_at_call 20; refine (nil_place _ _).mono ?_; rintro e w2 ⟨rfl, rfl⟩)
  go_ret
  exact ⟨rfl, rfl⟩
theorem nil_take (w : World) : Calls Try.prog 10 #[.pointer none] w fun e w' => e = .returned (.tuple #[.int .i64 0, .int .i64 0, .bool false]) ∧ w' = w := by
  go_enter Try.func10, Try.ntmps10
  go_wp2_with (go_at_call 18; refine (nil_len _).mono ?_; rintro e w2 ⟨rfl, rfl⟩)
  go_returns
  exact ⟨rfl, rfl⟩
theorem nil_put (x k : Int) (w : World) : Calls Try.prog 16 #[.pointer none, .int .i64 x, .int .i64 k] w fun e w' => e = .returned (.bool false) ∧ w' = w := by
  go_enter Try.func16, Try.ntmps16
  go_wp2
  go_ret
  exact ⟨rfl, rfl⟩
set_option maxRecDepth 100000 in
set_option maxHeartbeats 800000 in
theorem nil_any (x k : Int) (w : World) : Calls Try.prog 6 #[.int .i64 x, .int .i64 k] w fun e w' => e = .returned (.bool true) ∧ Below w.heap.size w w' := by
  go_enter Try.func6, Try.ntmps6
  go_wp2_with (first | (go_at_call 8; refine (awake_any _).mono ?_; rintro e w1 ⟨rfl, hb⟩) | (go_at_call 14; refine (nil_key _ _).mono ?_; rintro e w2 ⟨rfl, rfl⟩) | (go_at_call 10; refine (nil_take _).mono ?_; rintro e w2 ⟨rfl, rfl⟩) | (go_at_call 18; refine (nil_len _).mono ?_; rintro e w2 ⟨rfl, rfl⟩) | (go_at_call 16; refine (nil_put _ _ _).mono ?_; rintro e w2 ⟨rfl, rfl⟩) | (go_at_call 12; refine (nil_drop _ _).mono ?_; rintro e w2 ⟨rfl, rfl⟩))
  go_ret
  exact ⟨rfl, hb⟩
end
end Go.Proofs.Ytbgolkkfpajkdaa
