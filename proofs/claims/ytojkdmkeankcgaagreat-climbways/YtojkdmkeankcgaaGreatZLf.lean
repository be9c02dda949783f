/-
  Several texts in one.
-/
import Derived.Test.YtojkdmkeankcgaaGreatZQb
import Derived.Test.YtojkdmkeankcgaaGreatZLm
import Derived.Test.YtojkdmkeankcgaaGreatInts
/-  A queue above a base; what the fixed facts (Awake) and the law of a nil queue (QueueNil) do. -/
namespace Go.Proofs.YtojkdmkeankcgaaGreat.Qu
open Go.RowKit Go.Maps

/-- A queue all of whose blocks lie at base or above. -/
def QB (base : Nat) (w : World) (q : Nat) (X : List Pr) : Prop := ∃ S, QAt w q X S ∧ (∀ b, S b → base ≤ b)
section
variable {w w' : World} {base q : Nat} {X : List Pr}
theorem QB.dis (h : QB base w q X) : Dis X := by obtain ⟨S, h, _⟩ := h; exact h.dis
theorem QB.len (h : QB base w q X) : X.length ≤ 4096 := by obtain ⟨S, h, _⟩ := h; exact h.len
theorem QB.later (h : QB base w q X) (f : Below w.heap.size w w') : QB base w' q X := by obtain ⟨S, h, r⟩ := h; exact ⟨S, h.later f, r⟩
theorem QB.perm {Y : List Pr} (h : QB base w q X) (p : X.Perm Y) : QB base w q Y := by obtain ⟨S, h, r⟩ := h; exact ⟨S, h.perm p, r⟩
theorem qb_new (w : World) (hb : base ≤ w.heap.size) : Calls Tryz.prog 30 #[] w fun e w' => e = .returned (.pointer (some ⟨w.heap.size, 0, none⟩)) ∧ QB base w' w.heap.size [] ∧ Below w.heap.size w w' := by
  refine (new_any w).mono ?_
  rintro e w' ⟨rfl, h1, h2, _⟩
  exact ⟨rfl, ⟨_, h1, fun b e => by subst e; exact hb⟩, h2⟩
theorem qb_put (h : QB base w q X) (hb : base ≤ w.heap.size) (x k : Int) (hx : I64 x) (hk : I64 k) {b : Bool} {X' : List Pr} (hm : putM X x k = (X', b)) :
    Calls Tryz.prog 32 #[.pointer (some ⟨q, 0, none⟩), .int .i64 x, .int .i64 k] w fun e w' => e = .returned (.bool b) ∧ QB base w' q X' ∧ Below base w w' := by
  obtain ⟨S, h, r⟩ := h
  have H := put_any h x k hx hk
  rw [hm] at H
  refine H.mono ?_
  rintro e w' ⟨rfl, h1, h2⟩
  exact ⟨rfl, ⟨_, h1, fun b e => by rcases e with e | e; exact r b e; omega⟩, h2.below hb r⟩
theorem qb_take (h : QB base w q X) (hb : base ≤ w.heap.size) (p : Pr) (hp : Least X p) :
    Calls Tryz.prog 63 #[.pointer (some ⟨q, 0, none⟩)] w fun e w' => e = .returned (.tuple #[.int .i64 p.1, .int .i64 p.2, .bool true]) ∧ QB base w' q (dropM X p.1) ∧ Below base w w' := by
  obtain ⟨S, h, r⟩ := h
  refine (take_any h p hp).mono ?_
  rintro e w' ⟨rfl, h1, h2⟩
  exact ⟨rfl, ⟨_, h1, r⟩, h2.below hb r⟩
theorem qb_empty (h : QB base w q []) : Calls Tryz.prog 63 #[.pointer (some ⟨q, 0, none⟩)] w fun e w' => e = .returned (.tuple #[.int .i64 0, .int .i64 0, .bool false]) ∧ w' = w := by
  obtain ⟨S, h, r⟩ := h
  exact h.emp
theorem qb_len (h : QB base w q X) : Calls Tryz.prog 85 #[.pointer (some ⟨q, 0, none⟩)] w fun e w' => e = .returned (.int .i64 X.length) ∧ w' = w := by
  obtain ⟨S, h, r⟩ := h
  exact qlen_any h
theorem least_awake : Least [(7, 5), (3, 5)] ((3, 5) : Pr) := ⟨by simp, by simp [lt]⟩
theorem nil_place (x : Int) (w : World) : Calls Tryz.prog 60 #[.pointer none, .int .i64 x] w fun e w' => e = .returned (.tuple #[.int .i64 0, .bool false]) ∧ w' = w := by
  go_enter Tryz.func60, Tryz.ntmps60
  go_wp2
  go_ret2
  exact ⟨rfl, rfl⟩
theorem nil_len (w : World) : Calls Tryz.prog 85 #[.pointer none] w fun e w' => e = .returned (.int .i64 0) ∧ w' = w := by
  go_enter Tryz.func85, Tryz.ntmps85
  go_wp2
  go_ret
  exact ⟨rfl, rfl⟩
theorem nil_take (w : World) : Calls Tryz.prog 63 #[.pointer none] w fun e w' => e = .returned (.tuple #[.int .i64 0, .int .i64 0, .bool false]) ∧ w' = w := by
  go_enter Tryz.func63, Tryz.ntmps63
  go_wp2_with (go_at_call 85; refine (nil_len _).mono ?_; rintro e w2 ⟨rfl, rfl⟩)
  go_returns
  exact ⟨rfl, rfl⟩
theorem nil_put (x k : Int) (w : World) : Calls Tryz.prog 32 #[.pointer none, .int .i64 x, .int .i64 k] w fun e w' => e = .returned (.bool false) ∧ w' = w := by
  go_enter Tryz.func32, Tryz.ntmps32
  go_wp2
  go_ret
  exact ⟨rfl, rfl⟩
end
end Go.Proofs.YtojkdmkeankcgaaGreat.Qu
/-  A queue beside another thing in memory, neither in the other's blocks; slices of numbers that came in. -/
namespace Go.Proofs.YtojkdmkeankcgaaGreat.Qu
open Go.RowKit Go.Maps

/-- What the blocks outside S say stays. -/
def Keeps (R : World → (Nat → Prop) → Prop) : Prop := ∀ w w' S T, R w T → Fr S w w' → (∀ k, T k → k < w.heap.size) → (∀ k, T k → ¬ S k) → R w' T
/-- A queue with X, and R beside it. -/
def Two (B : Nat) (R : World → (Nat → Prop) → Prop) (w : World) (q : Nat) (X : List Pr) : Prop :=
  ∃ S T, QAt w q X S ∧ R w T ∧ (∀ k, T k → k < w.heap.size) ∧ (∀ k, S k → ¬ T k) ∧ (∀ k, S k → B ≤ k) ∧ (∀ k, T k → B ≤ k)
section
variable {B q : Nat} {R R' : World → (Nat → Prop) → Prop} {w w' : World} {X X' : List Pr}
theorem Two.dis (h : Two B R w q X) : Dis X := by obtain ⟨S, T, h, _⟩ := h; exact h.dis
theorem Two.len (h : Two B R w q X) : X.length ≤ 4096 := by obtain ⟨S, T, h, _⟩ := h; exact h.len
theorem Two.first (hR : Keeps R) (hB : B ≤ w.heap.size) {S T : Nat → Prop} (hw : R w T) (hT : ∀ k, T k → k < w.heap.size) (hd : ∀ k, S k → ¬ T k) (hS : ∀ k, S k → B ≤ k) (hTB : ∀ k, T k → B ≤ k)
    (f : Fr S w w') (hQ' : QAt w' q X' (grow S w w')) : Two B R w' q X' ∧ Below B w w' :=
  ⟨⟨_, T, hQ', hR w w' S T hw f hT (fun k h1 h2 => hd k h2 h1), fun k hk => Nat.lt_of_lt_of_le (hT k hk) f.size, fun k h1 h2 => by rcases h1 with h1 | h1; exact hd k h1 h2; have := hT k h2; omega, fun k h1 => by rcases h1 with h1 | h1; exact hS k h1; omega, hTB⟩, f.below hB hS⟩
theorem grow_self {S : Nat → Prop} (h : QAt w' q X S) : QAt w' q X (grow S w w') := h.widen (fun b e => .inl e) (fun b e => by rcases e with e | e; exact h.lt b e; exact e.2)
theorem two_put (hR : Keeps R) (h : Two B R w q X) (hB : B ≤ w.heap.size) (x k : Int) (hx : I64 x) (hk : I64 k) :
    Calls Tryz.prog 32 #[.pointer (some ⟨q, 0, none⟩), .int .i64 x, .int .i64 k] w fun e w' => e = .returned (.bool (putM X x k).2) ∧ Two B R w' q (putM X x k).1 ∧ Below B w w' := by
  obtain ⟨S, T, h1, h2, h3, h4, h5, h6⟩ := h
  refine (put_any h1 x k hx hk).mono ?_
  rintro e w' ⟨rfl, hQ, hF⟩
  exact ⟨rfl, Two.first hR hB h2 h3 h4 h5 h6 hF hQ⟩
theorem two_take (hR : Keeps R) (h : Two B R w q X) (hB : B ≤ w.heap.size) (p : Pr) (hp : Least X p) :
    Calls Tryz.prog 63 #[.pointer (some ⟨q, 0, none⟩)] w fun e w' => e = .returned (.tuple #[.int .i64 p.1, .int .i64 p.2, .bool true]) ∧ Two B R w' q (dropM X p.1) ∧ Below B w w' := by
  obtain ⟨S, T, h1, h2, h3, h4, h5, h6⟩ := h
  refine (take_any h1 p hp).mono ?_
  rintro e w' ⟨rfl, hQ, hF⟩
  exact ⟨rfl, Two.first hR hB h2 h3 h4 h5 h6 hF (grow_self hQ)⟩
theorem two_empty (h : Two B R w q []) : Calls Tryz.prog 63 #[.pointer (some ⟨q, 0, none⟩)] w fun e w' => e = .returned (.tuple #[.int .i64 0, .int .i64 0, .bool false]) ∧ w' = w := by
  obtain ⟨S, T, h1, _⟩ := h; exact h1.emp
theorem two_len (h : Two B R w q X) : Calls Tryz.prog 85 #[.pointer (some ⟨q, 0, none⟩)] w fun e w' => e = .returned (.int .i64 X.length) ∧ w' = w := by
  obtain ⟨S, T, h1, _⟩ := h; exact qlen_any h1
/-- A step of the other one. -/
theorem Two.second (h : Two B R w q X) (hB : B ≤ w.heap.size) (f : ∀ T, R w T → (∀ k, T k → k < w.heap.size) → Fr T w w' ∧ ∃ T', R' w' T' ∧ (∀ k, T' k → T k ∨ w.heap.size ≤ k) ∧ (∀ k, T' k → k < w'.heap.size)) : Two B R' w' q X ∧ Below B w w' := by
  obtain ⟨S, T, h1, h2, h3, h4, h5, h6⟩ := h
  obtain ⟨hF, T', g1, g2, g3⟩ := f T h2 h3
  exact ⟨⟨S, T', h1.fr hF (fun k a b => h4 k a b), g1, g3, fun k a b => by rcases g2 k b with c | c; exact h4 k a c; have := h1.lt k a; omega, h5, fun k a => by rcases g2 k a with c | c; exact h6 k c; omega⟩, hF.below hB h6⟩
theorem Two.get (h : Two B R w q X) : ∃ T, R w T ∧ ∀ k, T k → k < w.heap.size := by obtain ⟨S, T, h1, h2, h3, _⟩ := h; exact ⟨T, h2, h3⟩
theorem Two.later (hR : Keeps R) (h : Two B R w q X) (f : Below w.heap.size w w') : Two B R w' q X := by
  obtain ⟨S, T, h1, h2, h3, h4, h5, h6⟩ := h
  exact ⟨S, T, h1.later f, hR w w' (fun _ => False) T h2 (Fr.of_below f) h3 (fun _ _ h => h), fun k hk => Nat.lt_of_lt_of_le (h3 k hk) f.size, h4, h5, h6⟩
theorem Two.perm (h : Two B R w q X) (p : X.Perm X') : Two B R w q X' := by
  obtain ⟨S, T, h1, r⟩ := h; exact ⟨S, T, h1.perm p, r⟩
/-- A map beside the queue. -/
def MapR (e : TypeId) (mb n : Nat) (D : DataW Unit) : World → (Nat → Prop) → Prop := fun w T => T = (fun k => k = mb) ∧ w.ownsMap Tryz.prog 3 (plainElem Tryz.prog e) mb n D
theorem keeps_map (e : TypeId) (mb n : Nat) (D : DataW Unit) : Keeps (MapR e mb n D) := by
  rintro w w' S T ⟨rfl, hD⟩ f _ hd
  have hlt := hD.lt
  obtain ⟨es, clock, hb, r⟩ := hD
  exact ⟨rfl, es, clock, (f.block mb hlt (hd mb rfl)).trans hb, r⟩
end

/-- A slice of numbers that came in. -/
structure Ints (w : World) (a : Option Addr) (zs : List Int) : Prop where
  wf : ∀ k, k < zs.length → I64 (zs.getD k 0)
  cell : ∀ k, k < zs.length → ∃ b off, a = some ⟨b, off, none⟩ ∧ w.cell? ⟨b, off + k, none⟩ = some (.int .i64 (zs.getD k 0))
theorem Ints.later {w w' : World} {a : Option Addr} {zs : List Int} {B : Nat} (h : Ints w a zs) (hB : w.heap.size = B) (f : Below B w w') : Ints w' a zs :=
  ⟨h.wf, fun k hk => by obtain ⟨b, off, e, hc⟩ := h.cell k hk; exact ⟨b, off, e, (f.cell (by rw [← hB]; exact block_lt_of_cell hc)).trans hc⟩⟩
end Go.Proofs.YtojkdmkeankcgaaGreat.Qu
/-  A lifted graph in memory: its ranks, and of each place the maps of its links. -/
namespace Go.Proofs.YtojkdmkeankcgaaGreat
open Go.RowKit Go.Maps


def linkV (p q : Nat) (k : Lk) : Value := .agg #[.int .i64 p, .int .i64 q, .int .i64 k.1, .int .i64 k.2]
/-- The links from p, and those to q. -/
def upF (U : Mx) (p : Nat) : Nat → Option Value := fun q => (U p q).map (linkV p q)
def dnF (V : Mx) (q : Nat) : Nat → Option Value := fun p => (V p q).map (linkV p q)
def upd2 (U : Mx) (p q : Nat) (k : Option Lk) : Mx := fun a b => if a = p ∧ b = q then k else U a b
theorem upd2_same (U : Mx) (p q : Nat) (k : Option Lk) : upd2 U p q k p q = k := if_pos ⟨rfl, rfl⟩
theorem upd2_other (U : Mx) {p q a b : Nat} (k : Option Lk) (h : ¬ (a = p ∧ b = q)) : upd2 U p q k a b = U a b := if_neg h
theorem upF_upd (U : Mx) (p q : Nat) (k : Option Lk) : upF (upd2 U p q k) p = upd (upF U p) q (k.map (linkV p q)) := by
  funext t
  by_cases e : t = q
  · subst e; rw [upd_same]; unfold upF; rw [upd2_same]
  · rw [upd_other _ _ e]; unfold upF; rw [upd2_other _ _ (fun h => e h.2)]
theorem upF_upd_other (U : Mx) {p q a : Nat} (k : Option Lk) (h : a ≠ p) : upF (upd2 U p q k) a = upF U a := by
  funext t; unfold upF; rw [upd2_other _ _ (fun e => h e.1)]
theorem dnF_upd (V : Mx) (p q : Nat) (k : Option Lk) : dnF (upd2 V p q k) q = upd (dnF V q) p (k.map (linkV p q)) := by
  funext t
  by_cases e : t = p
  · subst e; rw [upd_same]; unfold dnF; rw [upd2_same]
  · rw [upd_other _ _ e]; unfold dnF; rw [upd2_other _ _ (fun h => e h.1)]
theorem dnF_upd_other (V : Mx) {p q b : Nat} (k : Option Lk) (h : b ≠ q) : dnF (upd2 V p q k) b = dnF V b := by
  funext t; unfold dnF; rw [upd2_other _ _ (fun e => h e.2)]
/-- The blocks of a lifted graph. -/
structure LfB where
  l : Nat
  gr : Nat
  gu : Nat
  gd : Nat
  mu : Nat → Nat
  md : Nat → Nat
def LfB.S (b : LfB) (n : Nat) : Nat → Prop := fun k => k = b.l ∨ k = b.gr ∨ k = b.gu ∨ k = b.gd ∨ ∃ p, p < n ∧ (k = b.mu p ∨ k = b.md p)
def mapsV (n : Nat) (m : Nat → Nat) : List Value := (List.range n).map fun p => .map (some (m p))
theorem mapsV_get {n p : Nat} (m : Nat → Nat) (h : p < n) : (mapsV n m)[p]? = some (.map (some (m p))) := by simp [mapsV, h]
structure LfA (n : Nat) (w : World) (b : LfB) (rv : Nat → Int) (U V : Mx) : Prop where
  box : w.heap[b.l]? = some (.cells #[.slice (some ⟨b.gr, 0, none⟩) n n, .slice (some ⟨b.gu, 0, none⟩) n n, .slice (some ⟨b.gd, 0, none⟩) n n] 96 (0, 0))
  rks : w.heap[b.gr]? = some (.cells ((List.range n).map fun p => Value.int .i64 (rv p)).toArray 3 (0, 0))
  ups : w.heap[b.gu]? = some (.cells (mapsV n b.mu).toArray 93 (0, 0))
  dns : w.heap[b.gd]? = some (.cells (mapsV n b.md).toArray 93 (0, 0))
  mu : ∀ p, p < n → MapAt n w (b.mu p) (upF U p)
  md : ∀ q, q < n → MapAt n w (b.md q) (dnF V q)
  uu : ∀ p q, p < n → q < n → b.mu p = b.mu q → p = q
  dd : ∀ p q, p < n → q < n → b.md p = b.md q → p = q
  ud : ∀ p q, p < n → q < n → b.mu p ≠ b.md q
  apart : b.gu ≠ b.gd
section
variable {n p q : Nat} {w w' : World} {b : LfB} {rv : Nat → Int} {U V : Mx} {S : Nat → Prop}
theorem LfA.of_blocks (h : LfA n w b rv U V) (e : ∀ k, b.S n k → w'.heap[k]? = w.heap[k]?) : LfA n w' b rv U V :=
  ⟨(e _ (.inl rfl)).trans h.box, (e _ (.inr (.inl rfl))).trans h.rks, (e _ (.inr (.inr (.inl rfl)))).trans h.ups, (e _ (.inr (.inr (.inr (.inl rfl))))).trans h.dns,
    fun p hp => (h.mu p hp).of_block (e _ (.inr (.inr (.inr (.inr ⟨p, hp, .inl rfl⟩))))), fun p hp => (h.md p hp).of_block (e _ (.inr (.inr (.inr (.inr ⟨p, hp, .inr rfl⟩))))), h.uu, h.dd, h.ud, h.apart⟩
theorem LfA.lt (h : LfA n w b rv U V) {k : Nat} (hk : b.S n k) : k < w.heap.size := by
  rcases hk with rfl | rfl | rfl | rfl | ⟨p, hp, rfl | rfl⟩
  · exact (Array.getElem?_eq_some_iff.1 h.box).1
  · exact (Array.getElem?_eq_some_iff.1 h.rks).1
  · exact (Array.getElem?_eq_some_iff.1 h.ups).1
  · exact (Array.getElem?_eq_some_iff.1 h.dns).1
  · exact (h.mu p hp).lt
  · exact (h.md p hp).lt
theorem LfA.kept (h : LfA n w b rv U V) (f : Qu.Fr S w w') (hs : ∀ k, b.S n k → ¬ S k) : LfA n w' b rv U V := h.of_blocks fun k hk => f.block k (h.lt hk) (hs k hk)
theorem LfA.later (h : LfA n w b rv U V) (f : Below w.heap.size w w') : LfA n w' b rv U V := h.of_blocks fun k hk => f.block k (h.lt hk)
theorem LfA.drewN (h : LfA n w b rv U V) (k : Nat) : LfA n (w.drewN k) b rv U V := h.of_blocks fun j _ => by rw [Qu.drewN_heap]
theorem LfA.drew (h : LfA n w b rv U V) : LfA n w.drew b rv U V := h.of_blocks fun _ _ => rfl
theorem LfA.c0 (h : LfA n w b rv U V) : w.cell? ⟨b.l, 0, none⟩ = some (.slice (some ⟨b.gr, 0, none⟩) n n) := by rw [cell_of_row _ b.l 0 _ _ _ h.box]; rfl
theorem LfA.c1 (h : LfA n w b rv U V) : w.cell? ⟨b.l, 1, none⟩ = some (.slice (some ⟨b.gu, 0, none⟩) n n) := by rw [cell_of_row _ b.l 1 _ _ _ h.box]; rfl
theorem LfA.c2 (h : LfA n w b rv U V) : w.cell? ⟨b.l, 2, none⟩ = some (.slice (some ⟨b.gd, 0, none⟩) n n) := by rw [cell_of_row _ b.l 2 _ _ _ h.box]; rfl
theorem LfA.cr (h : LfA n w b rv U V) (hp : p < n) : w.cell? ⟨b.gr, p, none⟩ = some (.int .i64 (rv p)) := by rw [cell_of_row _ b.gr p _ _ _ h.rks]; simp [hp]
theorem LfA.cu (h : LfA n w b rv U V) (hp : p < n) : w.cell? ⟨b.gu, p, none⟩ = some (.map (some (b.mu p))) := by rw [cell_of_row _ b.gu p _ _ _ h.ups]; simpa using mapsV_get b.mu hp
theorem LfA.cd (h : LfA n w b rv U V) (hp : p < n) : w.cell? ⟨b.gd, p, none⟩ = some (.map (some (b.md p))) := by rw [cell_of_row _ b.gd p _ _ _ h.dns]; simpa using mapsV_get b.md hp
/-- A block that is cells is none of the maps. -/
theorem MapAt.ne_cells {m k t : Nat} {F : Nat → Option Value} {c : Array Value} {fr : Nat × Nat} (h : MapAt n w m F) (hk : w.heap[k]? = some (.cells c t fr)) : k ≠ m := fun e => by
  subst e
  obtain ⟨es, cl, hm⟩ := h.isMap
  rw [hm] at hk
  cases hk
/-- A map of links has turned. -/
theorem LfA.turn_up (h : LfA n w b rv U V) (hp : p < n) {k : Option Lk} {q : Nat} (f : w.grownBy w' (some (b.mu p))) (hm : MapAt n w' (b.mu p) (upd (upF U p) q (k.map (linkV p q)))) : LfA n w' b rv (upd2 U p q k) V := by
  have keep : ∀ j, j < w.heap.size → j ≠ b.mu p → w'.heap[j]? = w.heap[j]? := fun j hj hne => f.block j hj (fun e => hne (by cases e; rfl))
  have kc : ∀ {j t : Nat} {c : Array Value} {fr : Nat × Nat}, w.heap[j]? = some (.cells c t fr) → w'.heap[j]? = some (.cells c t fr) := fun hj => (keep _ (Array.getElem?_eq_some_iff.1 hj).1 ((h.mu p hp).ne_cells hj)).trans hj
  refine ⟨kc h.box, kc h.rks, kc h.ups, kc h.dns, fun a ha => ?_, fun a ha => (h.md a ha).of_block (keep _ (h.md a ha).lt (fun e => h.ud p a hp ha e.symm)), h.uu, h.dd, h.ud, h.apart⟩
  by_cases e : a = p
  · subst e; rw [upF_upd]; exact hm
  · rw [upF_upd_other U k e]
    exact (h.mu a ha).of_block (keep _ (h.mu a ha).lt (fun e2 => e (h.uu a p ha hp e2)))
theorem LfA.turn_dn (h : LfA n w b rv U V) (hq : q < n) {k : Option Lk} {p : Nat} (f : w.grownBy w' (some (b.md q))) (hm : MapAt n w' (b.md q) (upd (dnF V q) p (k.map (linkV p q)))) : LfA n w' b rv U (upd2 V p q k) := by
  have keep : ∀ j, j < w.heap.size → j ≠ b.md q → w'.heap[j]? = w.heap[j]? := fun j hj hne => f.block j hj (fun e => hne (by cases e; rfl))
  have kc : ∀ {j t : Nat} {c : Array Value} {fr : Nat × Nat}, w.heap[j]? = some (.cells c t fr) → w'.heap[j]? = some (.cells c t fr) := fun hj => (keep _ (Array.getElem?_eq_some_iff.1 hj).1 ((h.md q hq).ne_cells hj)).trans hj
  refine ⟨kc h.box, kc h.rks, kc h.ups, kc h.dns, fun a ha => (h.mu a ha).of_block (keep _ (h.mu a ha).lt (fun e => h.ud a q ha hq e)), fun a ha => ?_, h.uu, h.dd, h.ud, h.apart⟩
  by_cases e : a = q
  · subst e; rw [dnF_upd]; exact hm
  · rw [dnF_upd_other V k e]
    exact (h.md a ha).of_block (keep _ (h.md a ha).lt (fun e2 => e (h.dd a q ha hq e2)))
theorem LfA.su (hp : p < n) : b.S n (b.mu p) := .inr (.inr (.inr (.inr ⟨p, hp, .inl rfl⟩)))
theorem LfA.sd (hp : p < n) : b.S n (b.md p) := .inr (.inr (.inr (.inr ⟨p, hp, .inr rfl⟩)))
end
/-! ### join -/
set_option maxRecDepth 100000 in
set_option maxHeartbeats 3200000 in
theorem join_any {n : Nat} {w : World} {b : LfB} {rv : Nat → Int} {U V : Mx} (h : LfA n w b rv U V) (hn : n ≤ 32) {p q : Nat} (hp : p < n) (hq : q < n) (x m : Int) :
    Calls Tryz.prog 59 #[.pointer (some ⟨b.l, 0, none⟩), .agg #[.int .i64 p, .int .i64 q, .int .i64 x, .int .i64 m]] w fun e w' => e = .returned (.tuple #[]) ∧ LfA n w' b rv (upd2 U p q (some (x, m))) (upd2 V p q (some (x, m))) ∧ Qu.Fr (b.S n) w w' := by
  have hA : Below w.heap.size w (w.alloc (.cells #[.int .i64 p, .int .i64 q, .int .i64 x, .int .i64 m] 46)) := (Below.refl _ _).alloc (Nat.le_refl _) _
  have h1 := h.later hA
  have hF : Qu.Fr (b.S n) w (w.alloc (.cells #[.int .i64 p, .int .i64 q, .int .i64 x, .int .i64 m] 46)) := (Qu.Fr.refl _ _).alloc _
  have hnew := heap_alloc_new w (.cells #[.int .i64 p, .int .i64 q, .int .i64 x, .int .i64 m] 46)
  have hBl : ∀ k, b.S n k → k ≠ w.heap.size := fun k hk e => by have := h.lt hk; omega
  obtain ⟨B, hB⟩ : ∃ B, w.heap.size = B := ⟨_, rfl⟩
  rw [hB] at hnew hBl
  go_enter Tryz.func59, Tryz.ntmps59
  go_wp2
  try rw [hB]
  generalize hW1 : w.alloc (.cells #[.int .i64 p, .int .i64 q, .int .i64 x, .int .i64 m] 46) = W1 at h1 hF hnew ⊢
  obtain ⟨W2, run2, m2, t2⟩ := MapAt.store (w := W1.drew) (t := 93) (e := 46) (h1.mu p hp) Tryz.underlying93 hq (by omega) (linkV p q (x, m))
  have h2 : LfA n W2 b rv (upd2 U p q (some (x, m))) V := LfA.turn_up (w := W1.drew) h1.drew hp t2.grown m2
  have f2 : Qu.Fr (b.S n) w W2 := hF.drew.trans0 (Qu.Fr.of_grown t2.grown (fun k e => by cases e; exact LfA.su hp))
  have new2 : W2.heap[B]? = some (.cells #[.int .i64 p, .int .i64 q, .int .i64 x, .int .i64 m] 46 (0, 0)) := (t2.grown.block B (by show B < W1.heap.size; exact (Array.getElem?_eq_some_iff.1 hnew).1) (fun e => by cases e; exact hBl _ (LfA.su hp) rfl)).trans hnew
  obtain ⟨W3, run3, m3, t3⟩ := MapAt.store (w := W2.drew) (t := 93) (e := 46) (h2.md q hq) Tryz.underlying93 hp (by omega) (linkV p q (x, m))
  have h3 : LfA n W3 b rv (upd2 U p q (some (x, m))) (upd2 V p q (some (x, m))) := LfA.turn_dn (w := W2.drew) h2.drew hq t3.grown m3
  have f3 : Qu.Fr (b.S n) w W3 := f2.drew.trans0 (Qu.Fr.of_grown t3.grown (fun k e => by cases e; exact LfA.sd hq))
  have HE := hide (And.intro h3 f3)
  have a0 := cell_of_row W1 B 0 _ _ _ hnew
  have a1 := cell_of_row W1 B 1 _ _ _ hnew
  have a2 := cell_of_row W1 B 2 _ _ _ hnew
  have a3 := cell_of_row W1 B 3 _ _ _ hnew
  have b0 := cell_of_row W2 B 0 _ _ _ new2
  have b1 := cell_of_row W2 B 1 _ _ _ new2
  have b2 := cell_of_row W2 B 2 _ _ _ new2
  have b3 := cell_of_row W2 B 3 _ _ _ new2
  simp only [List.getElem?_toArray, List.getElem?_cons_succ, List.getElem?_cons_zero] at a0 a1 a2 a3 b0 b1 b2 b3
  have c1 := h1.c1
  have c2 := h2.c2
  have cu := h1.cu hp
  have cd := h2.cd hq
  have i1 : (p : Int) < (n : Int) := by omega
  have i2 : (q : Int) < (n : Int) := by omega
  unfold linkV at run2 run3
  simp only at run2 run3
  clear h h1 h2 h3 hF f2 f3 m2 m3 t2 t3 hnew new2 hA hW1 hBl
  go_region
  go_wp2
  go_region
  go_end0
  exact ⟨rfl, HE.out⟩
end Go.Proofs.YtojkdmkeankcgaaGreat
/-  What Places, isPlace, Rank and burden of a lifted graph answer. -/
namespace Go.Proofs.YtojkdmkeankcgaaGreat
open Go.RowKit Go.Maps

theorem lplaces_nil (w : World) : Calls Tryz.prog 31 #[.pointer none] w fun e w' => e = .returned (.int .i64 0) ∧ w' = w := by
  go_enter Tryz.func31, Tryz.ntmps31
  go_wp2
  go_ret
  exact ⟨rfl, rfl⟩
theorem lisplace_nil (p : Int) (w : World) : Calls Tryz.prog 49 #[.pointer none, .int .i64 p] w fun e w' => e = .returned (.bool false) ∧ w' = w := by
  have HP := hide (lplaces_nil w)
  by_cases h : 0 ≤ p
  · have h2 : decide (p < 0) = false := decide_eq_false (by omega)
    go_enter Tryz.func49, Tryz.ntmps49
    go_wp2_with (go_at_call 31; refine HP.out.mono ?_; rintro e w' ⟨rfl, hw⟩; rw [hw]; clear hw)
    go_ret
    exact ⟨rfl, rfl⟩
  · go_enter Tryz.func49, Tryz.ntmps49
    go_wp2_with (go_at_call 31; refine HP.out.mono ?_; rintro e w' ⟨rfl, hw⟩; rw [hw]; clear hw)
    go_ret
    exact ⟨rfl, rfl⟩
theorem lup_nil (p : Int) (w : World) : Calls Tryz.prog 18 #[.pointer none, .int .i64 p] w fun e w' => e = .returned (.slice none 0 0) ∧ w' = w := by
  have HP := hide (lisplace_nil p w)
  go_enter Tryz.func18, Tryz.ntmps18
  go_wp2_with (go_at_call 49; refine HP.out.mono ?_; rintro e w' ⟨rfl, hw⟩; rw [hw]; clear hw)
  go_ret
  exact ⟨rfl, rfl⟩
theorem ldown_nil (p : Int) (w : World) : Calls Tryz.prog 19 #[.pointer none, .int .i64 p] w fun e w' => e = .returned (.slice none 0 0) ∧ w' = w := by
  have HP := hide (lisplace_nil p w)
  go_enter Tryz.func19, Tryz.ntmps19
  go_wp2_with (go_at_call 49; refine HP.out.mono ?_; rintro e w' ⟨rfl, hw⟩; rw [hw]; clear hw)
  go_ret
  exact ⟨rfl, rfl⟩
section
variable {n : Nat} {w : World} {b : LfB} {rv : Nat → Int} {U V : Mx}
theorem lplaces_any (h : LfA n w b rv U V) (_hn : n ≤ 32) : Calls Tryz.prog 31 #[.pointer (some ⟨b.l, 0, none⟩)] w fun e w' => e = .returned (.int .i64 n) ∧ w' = w := by
  have c0 := h.c0
  clear h
  go_enter Tryz.func31, Tryz.ntmps31
  go_wp2
  go_ret
  exact ⟨rfl, rfl⟩
def inP (n : Nat) (p : Int) : Bool := decide (0 ≤ p ∧ p < n)
theorem lisplace_any (h : LfA n w b rv U V) (hn : n ≤ 32) (p : Int) : Calls Tryz.prog 49 #[.pointer (some ⟨b.l, 0, none⟩), .int .i64 p] w fun e w' => e = .returned (.bool (inP n p)) ∧ w' = w := by
  have HP := hide (lplaces_any h hn)
  clear h
  by_cases h1 : 0 ≤ p
  · by_cases h2 : p < n
    · rw [show inP n p = true from decide_eq_true ⟨h1, h2⟩]
      go_enter Tryz.func49, Tryz.ntmps49
      go_wp2_with (go_at_call 31; refine HP.out.mono ?_; rintro e w' ⟨rfl, hw⟩; rw [hw]; clear hw)
      go_ret
      exact ⟨rfl, rfl⟩
    · rw [show inP n p = false from decide_eq_false (fun e => h2 e.2)]
      have h3 : decide (p < (n : Int)) = false := decide_eq_false h2
      go_enter Tryz.func49, Tryz.ntmps49
      go_wp2_with (go_at_call 31; refine HP.out.mono ?_; rintro e w' ⟨rfl, hw⟩; rw [hw]; clear hw)
      go_ret
      exact ⟨rfl, rfl⟩
  · rw [show inP n p = false from decide_eq_false (fun e => h1 e.1)]
    go_enter Tryz.func49, Tryz.ntmps49
    go_wp2_with (go_at_call 31; refine HP.out.mono ?_; rintro e w' ⟨rfl, hw⟩; rw [hw]; clear hw)
    go_ret
    exact ⟨rfl, rfl⟩
theorem lup_out (h : LfA n w b rv U V) (hn : n ≤ 32) {p : Int} (hp : inP n p = false) : Calls Tryz.prog 18 #[.pointer (some ⟨b.l, 0, none⟩), .int .i64 p] w fun e w' => e = .returned (.slice none 0 0) ∧ w' = w := by
  have HP := hide (lisplace_any h hn p)
  rw [hp] at HP
  clear h
  go_enter Tryz.func18, Tryz.ntmps18
  go_wp2_with (go_at_call 49; refine HP.out.mono ?_; rintro e w' ⟨rfl, hw⟩; rw [hw]; clear hw)
  go_ret
  exact ⟨rfl, rfl⟩
theorem ldown_out (h : LfA n w b rv U V) (hn : n ≤ 32) {p : Int} (hp : inP n p = false) : Calls Tryz.prog 19 #[.pointer (some ⟨b.l, 0, none⟩), .int .i64 p] w fun e w' => e = .returned (.slice none 0 0) ∧ w' = w := by
  have HP := hide (lisplace_any h hn p)
  rw [hp] at HP
  clear h
  go_enter Tryz.func19, Tryz.ntmps19
  go_wp2_with (go_at_call 49; refine HP.out.mono ?_; rintro e w' ⟨rfl, hw⟩; rw [hw]; clear hw)
  go_ret
  exact ⟨rfl, rfl⟩
/-- How many ways lead over p. -/
def bur (n : Nat) (U V : Mx) (p : Nat) : Nat := num (U p) n * num (fun a => V a p) n
theorem num_up (U : Mx) (p n : Nat) : num (upF U p) n = num (U p) n := num_same n fun q _ => by unfold upF; cases U p q <;> rfl
theorem num_dn (V : Mx) (p n : Nat) : num (dnF V p) n = num (fun a => V a p) n := num_same n fun q _ => by unfold dnF; cases V q p <;> rfl
theorem mul_bnd {x y : Nat} (hx : x ≤ 32) (hy : y ≤ 32) : IntKind.i64.wrap ((x : Int) * (y : Int)) = ((x * y : Nat) : Int) ∧ x * y ≤ 1024 := by
  have h := Nat.mul_le_mul hx hy
  refine ⟨?_, h⟩
  rw [← Int.natCast_mul, IntKind.wrap_i64]
  omega
set_option maxRecDepth 100000 in
set_option maxHeartbeats 3200000 in
theorem burden_any (h : LfA n w b rv U V) (hn : n ≤ 32) {p : Nat} (hp : p < n) : Calls Tryz.prog 33 #[.pointer (some ⟨b.l, 0, none⟩), .int .i64 p] w fun e w' => e = .returned (.int .i64 (bur n U V p)) ∧ ∃ k, w' = w.drewN k := by
  have hu := (h.mu p hp).len Tryz.underlying93 3
  have hd := (h.md p hp).len Tryz.underlying93 3
  have hu' : (Builtin.len_ #[93] 3 #[.map (some (b.mu p))]).run Tryz.prog w.drew = .ok (.int .i64 (num (upF U p) n)) w.drew := MapAt.len (w := w.drew) (h.mu p hp) Tryz.underlying93 3
  have hd' : (Builtin.len_ #[93] 3 #[.map (some (b.md p))]).run Tryz.prog w.drew = .ok (.int .i64 (num (dnF V p) n)) w.drew := MapAt.len (w := w.drew) (h.md p hp) Tryz.underlying93 3
  rw [num_up] at hu hu'
  rw [num_dn] at hd hd'
  have l1 := num_le (U p) n
  have l2 := num_le (fun a => V a p) n
  have HB := hide (show bur n U V p = num (U p) n * num (fun a => V a p) n from rfl)
  generalize num (U p) n = x at hu hu' l1 HB
  generalize num (fun a => V a p) n = y at hd hd' l2 HB
  obtain ⟨hm, hm2⟩ := mul_bnd (show x ≤ 32 by omega) (show y ≤ 32 by omega)
  have c1 := h.c1
  have c2 := h.c2
  have cu := h.cu hp
  have cd := h.cd hp
  have i1 : (p : Int) < (n : Int) := by omega
  obtain ⟨z, hz⟩ : ∃ z, x * y = z := ⟨_, rfl⟩
  rw [hz] at hm hm2 HB
  clear h hz
  go_enter Tryz.func33, Tryz.ntmps33
  go_wp2
  go_region
  all_goals
    go_wp2
    go_ret
    exact ⟨by rw [HB.out]; rfl, 1, rfl⟩
end
end Go.Proofs.YtojkdmkeankcgaaGreat
