/-
  A queue beside another thing in memory, neither in the other's blocks; slices of numbers that came in.
-/
import Derived.Test.YtlflbjnglmbdeaaQAwake
namespace Go.Proofs.Ytlflbjnglmbdeaa.Qu
open Go.RowKit Go.Maps

/-- What the blocks outside S say stays. -/
def Keeps (R : World → (Nat → Prop) → Prop) : Prop := ∀ w w' S T, R w T → Fr S w w' → (∀ k, T k → k < w.heap.size) → (∀ k, T k → ¬ S k) → R w' T
/-- A queue with X, and R beside it. -/
def Two (B : Nat) (R : World → (Nat → Prop) → Prop) (w : World) (q : Nat) (X : List Pr) : Prop :=
  ∃ S T, QAt w q X S ∧ R w T ∧ (∀ k, T k → k < w.heap.size) ∧ (∀ k, S k → ¬ T k) ∧ (∀ k, S k → B ≤ k) ∧ (∀ k, T k → B ≤ k)
section
variable {B q : Nat} {R R' : World → (Nat → Prop) → Prop} {w w' : World} {X X' : List Pr}
theorem Two.dis (h : Two B R w q X) : Dis X := by obtain ⟨S, T, h, _⟩ := h; exact h.dis
theorem Two.len (h : Two B R w q X) : X.length ≤ 4096 := by obtain ⟨S, T, h, _⟩ := h; exact h.len
theorem Two.first (hR : Keeps R) (hB : B ≤ w.heap.size) {S T : Nat → Prop} (hw : R w T) (hT : ∀ k, T k → k < w.heap.size) (hd : ∀ k, S k → ¬ T k) (hS : ∀ k, S k → B ≤ k) (hTB : ∀ k, T k → B ≤ k)
    (f : Fr S w w') (hQ' : QAt w' q X' (grow S w w')) : Two B R w' q X' ∧ Below B w w' :=
  ⟨⟨_, T, hQ', hR w w' S T hw f hT (fun k h1 h2 => hd k h2 h1), fun k hk => Nat.lt_of_lt_of_le (hT k hk) f.size, fun k h1 h2 => by rcases h1 with h1 | h1; exact hd k h1 h2; have := hT k h2; omega, fun k h1 => by rcases h1 with h1 | h1; exact hS k h1; omega, hTB⟩, f.below hB hS⟩
theorem grow_self {S : Nat → Prop} (h : QAt w' q X S) : QAt w' q X (grow S w w') := h.widen (fun b e => .inl e) (fun b e => by rcases e with e | e; exact h.lt b e; exact e.2)
theorem two_put (hR : Keeps R) (h : Two B R w q X) (hB : B ≤ w.heap.size) (x k : Int) (hx : I64 x) (hk : I64 k) :
    Calls Try.prog 48 #[.pointer (some ⟨q, 0, none⟩), .int .i64 x, .int .i64 k] w fun e w' => e = .returned (.bool (putM X x k).2) ∧ Two B R w' q (putM X x k).1 ∧ Below B w w' := by
  obtain ⟨S, T, h1, h2, h3, h4, h5, h6⟩ := h
  refine (put_any h1 x k hx hk).mono ?_
  rintro e w' ⟨rfl, hQ, hF⟩
  exact ⟨rfl, Two.first hR hB h2 h3 h4 h5 h6 hF hQ⟩
theorem two_take (hR : Keeps R) (h : Two B R w q X) (hB : B ≤ w.heap.size) (p : Pr) (hp : Least X p) :
    Calls Try.prog 44 #[.pointer (some ⟨q, 0, none⟩)] w fun e w' => e = .returned (.tuple #[.int .i64 p.1, .int .i64 p.2, .bool true]) ∧ Two B R w' q (dropM X p.1) ∧ Below B w w' := by
  obtain ⟨S, T, h1, h2, h3, h4, h5, h6⟩ := h
  refine (take_any h1 p hp).mono ?_
  rintro e w' ⟨rfl, hQ, hF⟩
  exact ⟨rfl, Two.first hR hB h2 h3 h4 h5 h6 hF (grow_self hQ)⟩
theorem two_empty (h : Two B R w q []) : Calls Try.prog 44 #[.pointer (some ⟨q, 0, none⟩)] w fun e w' => e = .returned (.tuple #[.int .i64 0, .int .i64 0, .bool false]) ∧ w' = w := by
  obtain ⟨S, T, h1, _⟩ := h; exact h1.emp
theorem two_len (h : Two B R w q X) : Calls Try.prog 63 #[.pointer (some ⟨q, 0, none⟩)] w fun e w' => e = .returned (.int .i64 X.length) ∧ w' = w := by
  obtain ⟨S, T, h1, _⟩ := h; exact qlen_any h1
/-- A step of the other one. -/
theorem Two.second (h : Two B R w q X) (hB : B ≤ w.heap.size) (f : ∀ T, R w T → (∀ k, T k → k < w.heap.size) → Fr T w w' ∧ ∃ T', R' w' T' ∧ (∀ k, T' k → T k ∨ w.heap.size ≤ k) ∧ (∀ k, T' k → k < w'.heap.size)) : Two B R' w' q X ∧ Below B w w' := by
  obtain ⟨S, T, h1, h2, h3, h4, h5, h6⟩ := h
  obtain ⟨hF, T', g1, g2, g3⟩ := f T h2 h3
  exact ⟨⟨S, T', h1.fr hF (fun k a b => h4 k a b), g1, g3, fun k a b => by rcases g2 k b with c | c; exact h4 k a c; have := h1.lt k a; omega, h5, fun k a => by rcases g2 k a with c | c; exact h6 k c; omega⟩, hF.below hB h6⟩
theorem Two.get (h : Two B R w q X) : ∃ T, R w T ∧ ∀ k, T k → k < w.heap.size := by obtain ⟨S, T, h1, h2, h3, _⟩ := h; exact ⟨T, h2, h3⟩
theorem Two.later (hR : Keeps R) (h : Two B R w q X) (f : Below w.heap.size w w') : Two B R w' q X := by
  obtain ⟨S, T, h1, h2, h3, h4, h5, h6⟩ := h
  exact ⟨S, T, h1.later f, hR w w' (fun _ => False) T h2 (Fr.of_below f) h3 (fun _ _ h => h), fun k hk => Nat.lt_of_lt_of_le (h3 k hk) f.size, h4, h5, h6⟩
theorem Two.perm (h : Two B R w q X) (p : X.Perm X') : Two B R w q X' := by
  obtain ⟨S, T, h1, r⟩ := h; exact ⟨S, T, h1.perm p, r⟩
/-- A map beside the queue. -/
def MapR (e : TypeId) (mb n : Nat) (D : DataW Unit) : World → (Nat → Prop) → Prop := fun w T => T = (fun k => k = mb) ∧ w.ownsMap Try.prog 3 (plainElem Try.prog e) mb n D
theorem keeps_map (e : TypeId) (mb n : Nat) (D : DataW Unit) : Keeps (MapR e mb n D) := by
  rintro w w' S T ⟨rfl, hD⟩ f _ hd
  have hlt := hD.lt
  obtain ⟨es, clock, hb, r⟩ := hD
  exact ⟨rfl, es, clock, (f.block mb hlt (hd mb rfl)).trans hb, r⟩
end

/-- A slice of numbers that came in. -/
structure Ints (w : World) (a : Option Addr) (zs : List Int) : Prop where
  wf : ∀ k, k < zs.length → I64 (zs.getD k 0)
  cell : ∀ k, k < zs.length → ∃ b off, a = some ⟨b, off, none⟩ ∧ w.cell? ⟨b, off + k, none⟩ = some (.int .i64 (zs.getD k 0))
theorem Ints.later {w w' : World} {a : Option Addr} {zs : List Int} {B : Nat} (h : Ints w a zs) (hB : w.heap.size = B) (f : Below B w w') : Ints w' a zs :=
  ⟨h.wf, fun k hk => by obtain ⟨b, off, e, hc⟩ := h.cell k hk; exact ⟨b, off, e, (f.cell (by rw [← hB]; exact block_lt_of_cell hc)).trans hc⟩⟩
end Go.Proofs.Ytlflbjnglmbdeaa.Qu
