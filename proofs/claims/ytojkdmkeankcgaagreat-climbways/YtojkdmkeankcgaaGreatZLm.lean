/-
  Several texts in one.
-/
import Derived.Test.YtojkdmkeankcgaaGreatZQa
import Derived.Test.YtojkdmkeankcgaaGreatZDijkP
import Derived.Maps.RangeWalk
import Derived.Test.YtojkdmkeankcgaaGreatLeastP
/-  Maps from places to whatever, in memory: what is there, what is stored and deleted; a loop over one. -/
namespace Go.Proofs.YtojkdmkeankcgaaGreat
open Go.RowKit Go.Maps
open Qu (ki ki_ne ki_key law)

/-! ### how many -/
def num {α : Type} (F : Nat → Option α) : Nat → Nat
  | 0 => 0
  | n + 1 => num F n + (if (F n).isSome then 1 else 0)
section
variable {α : Type}
theorem num_le (F : Nat → Option α) : ∀ n, num F n ≤ n
  | 0 => Nat.le_refl _
  | n + 1 => by have := num_le F n; rw [num]; split <;> omega
theorem num_same {β : Type} {F : Nat → Option α} {G : Nat → Option β} : ∀ n, (∀ q, q < n → (F q).isSome = (G q).isSome) → num F n = num G n
  | 0, _ => rfl
  | n + 1, h => by rw [num, num, num_same n (fun q hq => h q (by omega)), h n (by omega)]
theorem num_put (F : Nat → Option α) (v : Nat) (x : α) : ∀ n, v < n → num (upd F v (some x)) n = if (F v).isSome then num F n else num F n + 1
  | 0, h => absurd h (Nat.not_lt_zero _)
  | n + 1, h => by
    by_cases e : n = v
    · subst e
      rw [num, num, num_same (F := upd F n (some x)) (G := F) n (fun q hq => by rw [upd_other _ _ (by omega)]), upd_same]
      cases hF : (F n).isSome <;> simp
    · rw [num, num, num_put F v x n (by omega), upd_other _ _ e]
      split <;> omega
theorem num_del (F : Nat → Option α) (v : Nat) : ∀ n, v < n → num (upd F v none) n + (if (F v).isSome then 1 else 0) = num F n
  | 0, h => absurd h (Nat.not_lt_zero _)
  | n + 1, h => by
    by_cases e : n = v
    · subst e
      rw [num, num, num_same (F := upd F n none) (G := F) n (fun q hq => by rw [upd_other _ _ (by omega)]), upd_same]
      cases hF : (F n).isSome <;> simp
    · have := num_del F v n (by omega)
      rw [num, num, upd_other _ _ e]
      split <;> omega
theorem num_zero (n : Nat) : num (fun _ => (none : Option α)) n = 0 := by
  induction n with
  | zero => rfl
  | succ n ih => rw [num, ih]; rfl
end
/-! ### a map in memory -/
def heldE (v : Value) : Option (DataW Value × List MemPlace) := some (.held v, [])
abbrev OwnV (w : World) (mb n : Nat) (D : DataW Value) : Prop := w.ownsMap Tryz.prog 3 heldE mb n D
theorem OwnV.tight {w : World} {mb n : Nat} {D : DataW Value} (h : OwnV w mb n D) : OwnV w mb (Maps.size D) D := by
  obtain ⟨es, clock, hb, F, hs, rfl⟩ := h
  exact ⟨es, clock, hb, F, by simp [Maps.size, length_sorted], rfl⟩
/-- D holds F, and nothing else. -/
structure MapD (n : Nat) (D : DataW Value) (F : Nat → Option Value) : Prop where
  has : ∀ q, q < n → Maps.has D (ki q) = (F q).isSome
  val : ∀ q v, q < n → F q = some v → ∀ zd, D.atKey (ki q) zd = .held v
  keys : ∀ x : Int, Maps.has D (ki x) = true → ∃ q : Nat, q < n ∧ x = (q : Int)
  size : Maps.size D = num F n
def MapAt (n : Nat) (w : World) (mb : Nat) (F : Nat → Option Value) : Prop := ∃ D, OwnV w mb n D ∧ MapD n D F
section
variable {n mb q : Nat} {w w' : World} {F : Nat → Option Value}
theorem MapAt.of_block (h : MapAt n w mb F) (e : w'.heap[mb]? = w.heap[mb]?) : MapAt n w' mb F := by
  obtain ⟨D, ⟨es, clock, hb, G, hs, hD⟩, hp⟩ := h
  exact ⟨D, ⟨es, clock, e.trans hb, G, hs, hD⟩, hp⟩
theorem MapAt.lt (h : MapAt n w mb F) : mb < w.heap.size := by
  obtain ⟨D, hD, _⟩ := h
  exact hD.lt
theorem MapAt.isMap (h : MapAt n w mb F) : ∃ es clock, w.heap[mb]? = some (.map es clock) := by
  obtain ⟨D, ⟨es, clock, hb, _⟩, _⟩ := h
  exact ⟨es, clock, hb⟩
theorem MapAt.made (n : Nat) (w : World) : MapAt n (w.alloc (.map #[] 0)) w.heap.size fun _ => none :=
  ⟨.map [], (World.ownsMap_made w Tryz.prog 3 heldE).mono (Nat.zero_le _), ⟨fun _ _ => rfl, fun _ _ _ h => (by cases h), fun x h => (by simp [Maps.has] at h), by rw [num_zero]; rfl⟩⟩
theorem natI64 {q : Nat} (h : q < 4096) : Qu.I64 (q : Int) := by unfold Qu.I64; omega
theorem MapAt.eq {G : Nat → Option Value} (h : MapAt n w mb F) (k : MapAt n w mb G) {q : Nat} (hq : q < n) : F q = G q := by
  obtain ⟨D, ⟨es, cl, hb, Ft, hs, hD⟩, hp⟩ := h
  obtain ⟨D2, ⟨es2, cl2, hb2, _, _, hD2⟩, hp2⟩ := k
  rw [hb] at hb2
  simp only [Option.some.injEq, Obj.map.injEq] at hb2
  obtain ⟨rfl, rfl⟩ := hb2
  rw [← hD] at hD2
  subst hD2
  have h1 := hp.has q hq
  rw [hp2.has q hq] at h1
  cases e : F q with
  | none =>
    rw [e] at h1
    cases e2 : G q with
    | none => rfl
    | some v => rw [e2] at h1; cases h1
  | some v =>
    cases e2 : G q with
    | none => rw [e, e2] at h1; cases h1
    | some u =>
      have a := hp.val q v hq e (.held v)
      rw [hp2.val q u hq e2] at a
      cases a
      rfl
/-- 'len(m)'. -/
theorem MapAt.len {t e : TypeId} (h : MapAt n w mb F) (ht : Tryz.prog.underlying t = some (.map 3 e)) (ty : TypeId) : (Builtin.len_ #[t] ty #[.map (some mb)]).run Tryz.prog w = .ok (.int .i64 (num F n)) w := by
  obtain ⟨D, hD, hp⟩ := h
  rw [← hp.size]
  exact hD.len ht ty
/-- 'm[q]', and 'v, there := m[q]'. -/
theorem MapAt.look {t e : TypeId} (h : MapAt n w mb F) (ht : Tryz.prog.underlying t = some (.map 3 e)) {z : Value} (hz : (zeroValue e).run Tryz.prog w = .ok z w) (hq : q < n) (hn : n ≤ 4096) :
    (Instr.lookup t (.map (some mb)) (.int .i64 q) false).run Tryz.prog w = .ok ((F q).getD z) w ∧ (Instr.lookup t (.map (some mb)) (.int .i64 q) true).run Tryz.prog w = .ok (.tuple #[(F q).getD z, .bool (F q).isSome]) w := by
  obtain ⟨D, hD, hp⟩ := h
  have key : keyOf Tryz.prog 3 (.int .i64 q) = some (ki q) := Qu.keyOf3 (natI64 (by omega))
  obtain ⟨v, ps, r1, r2⟩ := hD.lookup law ht hz (show heldE z = some (.held z, []) from rfl) key
  obtain ⟨v', ps', r3, r4⟩ := hD.look_ok law ht hz (show heldE z = some (.held z, []) from rfl) key
  have hv : D.atKey (ki q) (.held z) = .held ((F q).getD z) := by
    cases e : F q with
    | none => exact atKey_of_not_has (by rw [hp.has q hq, e]; rfl) _
    | some v => exact hp.val q v hq e _
  rw [hv] at r2 r4
  simp only [heldE, Option.some.injEq, Prod.mk.injEq, DataW.held.injEq] at r2 r4
  rw [hp.has q hq] at r3
  rw [r1, r3, r2.1, r4.1]
  exact ⟨rfl, rfl⟩
/-- 'm[q] = v'. -/
theorem MapAt.store {t e : TypeId} (h : MapAt n w mb F) (ht : Tryz.prog.underlying t = some (.map 3 e)) (hq : q < n) (hn : n ≤ 4096) (v : Value) :
    ∃ w', (Instr.mapUpdate t (.map (some mb)) (.int .i64 q) v).run Tryz.prog w = .ok () w' ∧ MapAt n w' mb (upd F q (some v)) ∧ w.mapTurned w' mb := by
  obtain ⟨D, hD, hp⟩ := h
  have key : keyOf Tryz.prog 3 (.int .i64 q) = some (ki q) := Qu.keyOf3 (natI64 (by omega))
  obtain ⟨w', r1, r2, r3⟩ := hD.store law ht (by unfold maxLen; omega) key (show heldE v = some (.held v, []) from rfl)
  have hm := hD.isMap
  refine ⟨w', r1, ⟨_, World.ownsMap.mono (OwnV.tight r2) ?_, fun p hp' => ?_, fun p u hp' e zd => ?_, fun x hx => ?_, ?_⟩, r3⟩
  · rw [size_put (hD.tidy law), hp.has q hq, hp.size]
    have := num_put F q v n hq
    have h2 := num_le (upd F q (some v)) n
    rw [this] at h2
    exact h2
  · by_cases e : p = q
    · subst e; rw [has_put_same hm (ki_key _), upd_same]; rfl
    · rw [has_put_other (ki_ne (by omega)), upd_other _ _ e]; exact hp.has p hp'
  · by_cases e2 : p = q
    · subst e2; rw [upd_same] at e; cases e; rw [atKey_put_same hm (ki_key _)]
    · rw [upd_other _ _ e2] at e; rw [atKey_put_other (ki_ne (by omega))]; exact hp.val p u hp' e zd
  · by_cases e : x = (q : Int)
    · exact ⟨q, hq, e⟩
    · rw [has_put_other (ki_ne e)] at hx; exact hp.keys x hx
  · rw [size_put (hD.tidy law), hp.has q hq, hp.size, num_put F q v n hq]
/-- 'delete(m, q)'. -/
theorem MapAt.drop {t e : TypeId} (h : MapAt n w mb F) (ht : Tryz.prog.underlying t = some (.map 3 e)) (hq : q < n) (hn : n ≤ 4096) (ty : TypeId) :
    ∃ w', (Builtin.delete_ #[t, 3] ty #[.map (some mb), .int .i64 q]).run Tryz.prog w = .ok (.tuple #[]) w' ∧ MapAt n w' mb (upd F q none) ∧ w.mapTurned w' mb := by
  obtain ⟨D, hD, hp⟩ := h
  have key : keyOf Tryz.prog 3 (.int .i64 q) = some (ki q) := Qu.keyOf3 (natI64 (by omega))
  obtain ⟨w', r1, r2, r3⟩ := hD.drop law ht key ty
  refine ⟨w', r1, ⟨_, r2, fun p hp' => ?_, fun p u hp' e zd => ?_, fun x hx => ?_, ?_⟩, r3⟩
  · by_cases e : p = q
    · subst e; rw [has_del_same, upd_same]; rfl
    · rw [has_del_other (ki_ne (by omega)), upd_other _ _ e]; exact hp.has p hp'
  · by_cases e2 : p = q
    · subst e2; rw [upd_same] at e; cases e
    · rw [upd_other _ _ e2] at e; rw [atKey_del_other (ki_ne (by omega))]; exact hp.val p u hp' e zd
  · by_cases e : x = (q : Int)
    · exact ⟨q, hq, e⟩
    · rw [has_del_other (ki_ne e)] at hx; exact hp.keys x hx
  · have h1 := size_del (k := ki q) (hD.tidy law)
    have h2 := num_del F q n hq
    rw [hp.has q hq, hp.size] at h1
    omega
end
/-! ### a loop over a map -/
def RangeAt (n : Nat) (w : World) (mb r : Nat) (F : Nat → Option Value) (todo : Nat → Bool) (cnt : Nat) : Prop :=
  ∃ D left, w.ranges Tryz.prog 3 heldE mb r n D left cnt ∧ MapD n D F ∧ (∀ q, q < n → left (ki q) = todo q) ∧ ∀ kl, left kl = true → Maps.has D kl = true
section
variable {n mb r cnt : Nat} {w w' : World} {F : Nat → Option Value} {todo : Nat → Bool}
theorem RangeAt.map (h : RangeAt n w mb r F todo cnt) : MapAt n w mb F := by
  obtain ⟨D, left, h1, h2, _⟩ := h
  exact ⟨D, h1.owns, h2⟩
theorem RangeAt.ne (h : RangeAt n w mb r F todo cnt) : r ≠ mb := by
  obtain ⟨D, left, h1, _⟩ := h
  exact h1.ne
theorem RangeAt.lt (h : RangeAt n w mb r F todo cnt) : r < w.heap.size := by
  obtain ⟨D, left, h1, _⟩ := h
  exact h1.lt
theorem RangeAt.isIter (h : RangeAt n w mb r F todo cnt) : ∃ since seen c0, w.heap[r]? = some (.mapIter (some mb) since seen c0) := by
  obtain ⟨D, left, ⟨es, clock, since, seen, c0, _, _, _, _, h2, _⟩, _⟩ := h
  exact ⟨since, seen, c0, h2⟩
theorem RangeAt.of_blocks (h : RangeAt n w mb r F todo cnt) (e1 : w'.heap[mb]? = w.heap[mb]?) (e2 : w'.heap[r]? = w.heap[r]?) : RangeAt n w' mb r F todo cnt := by
  obtain ⟨D, left, ⟨es, clock, since, seen, c0, h1, h2, h3, h4, h5, h6⟩, h7⟩ := h
  exact ⟨D, left, ⟨es, clock, since, seen, c0, e1.trans h1, h2, h3, h4, e2.trans h5, h6⟩, h7⟩
theorem RangeAt.some (h : RangeAt n w mb r F todo cnt) {q : Nat} (hq : q < n) (ht : todo q = true) : ∃ v, F q = some v := by
  obtain ⟨D, left, h1, h2, h3, h4⟩ := h
  have := h4 (ki q) (by rw [h3 q hq]; exact ht)
  rw [h2.has q hq] at this
  exact Option.isSome_iff_exists.1 this
theorem range_start {t e : TypeId} (h : MapAt n w mb F) (ht : Tryz.prog.underlying t = some (.map 3 e)) :
    ∃ w', (Instr.range t (.map (some mb))).run Tryz.prog w = .ok (.pointer (some ⟨w.heap.size, 0, none⟩)) w' ∧ RangeAt n w' mb w.heap.size F (fun q => (F q).isSome) (num F n) ∧ w.grownBy w' none ∧ w'.heap.size = w.heap.size + 1 := by
  obtain ⟨D, hD, hp⟩ := h
  obtain ⟨w', r1, r2, r3, r4⟩ := hD.range law ht
  rw [hp.size] at r2
  exact ⟨w', r1, ⟨D, _, r2, hp, fun q hq => hp.has q hq, fun _ h => h⟩, r3, r4⟩
theorem range_next (h : RangeAt n w mb r F todo cnt) (ty : TypeId) :
    (cnt = 0 ∧ (∀ q, q < n → todo q = false) ∧ (Instr.next (.pointer (some ⟨r, 0, none⟩)) false ty).run Tryz.prog w = .ok (.tuple #[.bool false]) w) ∨
    ∃ (q : Nat) (v : Value) (w' : World) (cnt' : Nat), q < n ∧ todo q = true ∧ F q = some v ∧ (Instr.next (.pointer (some ⟨r, 0, none⟩)) false ty).run Tryz.prog w = .ok (.tuple #[.bool true, .int .i64 q, v]) w' ∧
      RangeAt n w' mb r F (fun p => todo p && !(p == q)) cnt' ∧ cnt' < cnt ∧ w.grownBy w' (some r) ∧ w'.heap.size = w.heap.size ∧ (Instr.entry (.pointer (some ⟨r, 0, none⟩))).run Tryz.prog w' = .ok (.tuple #[.int .i64 q, v]) w' := by
  obtain ⟨D, left, h1, h2, h3, h4⟩ := h
  rcases h1.next law ty with ⟨k1, k2, k3⟩ | ⟨key, v, kl, y, w', cnt', k1, k2, k3, k4, k5, k6, k7, k8, k9, k10⟩
  · exact .inl ⟨k1, fun q hq => by rw [← h3 q hq]; exact k2 _, k3⟩
  · obtain ⟨x, rfl, rfl, hwf⟩ := Maps.keyOf_int_inv Tryz.underlying3 k1
    have hh := h4 _ k2
    obtain ⟨q, hq, rfl⟩ := h2.keys x hh
    have hF : F q = some v := by
      have e1 := h2.has q hq
      rw [show ki (q : Int) = Lit.int .i64 (q : Int) from rfl, hh] at e1
      obtain ⟨u, hu⟩ := Option.isSome_iff_exists.1 e1.symm
      have e2 := h2.val q u hq hu (.held v)
      rw [show ki (q : Int) = Lit.int .i64 (q : Int) from rfl, k4] at e2
      simp only [heldE, Option.some.injEq] at k3
      rw [← k3] at e2
      cases e2
      exact hu
    refine .inr ⟨q, v, w', cnt', hq, by rw [← h3 q hq]; exact k2, hF, k5, ⟨D, _, k6, h2, fun p hp => ?_, fun kl hkl => ?_⟩, k7, k8, k9, k10⟩
    · show (left (ki p) && !(ki p).sameKey (ki q)) = _
      rw [h3 p hp]
      by_cases e : p = q
      · subst e
        rw [WideAt.sameKey_self (ki_key _)]
        simp
      · rw [sameKey_ne (ki_ne (by omega))]
        simp [e]
    · simp only [Bool.and_eq_true] at hkl
      exact h4 kl hkl.1
end
end Go.Proofs.YtojkdmkeankcgaaGreat
/-  Plain: places lifted one by one: ranks, links, shortcuts; shortest ways go up, then down. -/
namespace Go.Proofs.YtojkdmkeankcgaaGreat

/-- A link's weight and its Mid. -/
abbrev Lk := Int × Int
abbrev Mx := Nat → Nat → Option Lk
def wtM (K : Mx) : Nat → Nat → Option Int := fun a b => (K a b).map (·.1)
theorem wtM_some {K : Mx} {a b : Nat} {x : Int} : wtM K a b = some x ↔ ∃ m, K a b = some (x, m) := by
  unfold wtM
  cases h : K a b with
  | none => simp
  | some v =>
    obtain ⟨y, m⟩ := v
    simp only [Option.map_some, Option.some.injEq, Prod.mk.injEq]
    constructor
    · rintro rfl; exact ⟨m, rfl, rfl⟩
    · rintro ⟨_, h, _⟩; exact h
/-- The links among the places that wait (those of rank n). -/
def waitW (n : Nat) (K : Mx) (rk : Nat → Nat) : Nat → Nat → Option Int := fun a b => if rk a = n ∧ rk b = n then wtM K a b else none
/-- The same without one place. -/
def avoid (n : Nat) (K : Mx) (rk : Nat → Nat) (p : Nat) : Nat → Nat → Option Int := fun a b => if (rk a = n ∧ rk b = n) ∧ a ≠ p ∧ b ≠ p then wtM K a b else none
/-- Over p a shortcut leads from a to b: nothing that waits is as near about p. -/
structure Short (n : Nat) (K : Mx) (rk : Nat → Nat) (p a b : Nat) (x y : Int) : Prop where
  ab : a ≠ b
  ra : rk a = n
  rb : rk b = n
  ap : a ≠ p
  bp : b ≠ p
  hx : wtM K a p = some x
  hy : wtM K p b = some y
  far : ∀ d, Way n (avoid n K rk p) a b d → x + y < d
/-- What the links are when p is lifted. -/
def IsLift (n : Nat) (K : Mx) (rk : Nat → Nat) (p : Nat) (K' : Mx) : Prop :=
  ∀ a b, (∃ x y, Short n K rk p a b x y ∧ K' a b = some (x + y, (p : Int))) ∨ ((¬ ∃ x y, Short n K rk p a b x y) ∧ K' a b = K a b)
theorem IsLift.eq {n p : Nat} {K K1 K2 : Mx} {rk : Nat → Nat} (h1 : IsLift n K rk p K1) (h2 : IsLift n K rk p K2) : K1 = K2 := by
  funext a b
  rcases h1 a b with ⟨x, y, s1, e1⟩ | ⟨s1, e1⟩
  · rcases h2 a b with ⟨x', y', s2, e2⟩ | ⟨s2, e2⟩
    · have h3 := s1.hx; rw [s2.hx] at h3
      have h4 := s1.hy; rw [s2.hy] at h4
      cases h3; cases h4
      rw [e1, e2]
    · exact absurd ⟨x, y, s1⟩ s2
  · rcases h2 a b with ⟨x', y', s2, e2⟩ | ⟨s2, e2⟩
    · exact absurd ⟨x', y', s2⟩ s1
    · rw [e1, e2]
/-- The links that lead up, and those that lead down. -/
def upW (K : Mx) (rk : Nat → Nat) : Nat → Nat → Option Int := fun a b => if rk a < rk b then wtM K a b else none
def dnW (K : Mx) (rk : Nat → Nat) : Nat → Nat → Option Int := fun a b => if rk b < rk a then wtM K a b else none
def updN (f : Nat → Nat) (a x : Nat) : Nat → Nat := fun b => if b = a then x else f b
theorem updN_same (f : Nat → Nat) (a x : Nat) : updN f a x a = x := if_pos rfl
theorem updN_other (f : Nat → Nat) {a b : Nat} (x : Nat) (h : b ≠ a) : updN f a x b = f b := if_neg h
/-- Up from a, on among those that wait, down to b: or up and down alone. -/
def Over (n : Nat) (K : Mx) (rk : Nat → Nat) (a b : Nat) (d : Int) : Prop :=
  (∃ c d1 d2, c < n ∧ Way n (upW K rk) a c d1 ∧ Way n (dnW K rk) c b d2 ∧ d1 + d2 ≤ d) ∨
  (∃ c1 c2 d1 d2 d3, c1 < n ∧ c2 < n ∧ rk c1 = n ∧ rk c2 = n ∧ Way n (upW K rk) a c1 d1 ∧ Way n (waitW n K rk) c1 c2 d2 ∧ Way n (dnW K rk) c2 b d3 ∧ d1 + d2 + d3 ≤ d)
/-- Behind k lifts. -/
structure Lft (n : Nat) (W : Nat → Nat → Option Int) (k : Nat) (K : Mx) (rk : Nat → Nat) : Prop where
  kn : k ≤ n
  rank : ∀ p, p < n → rk p < k ∨ rk p = n
  inj : ∀ p q, p < n → q < n → rk p = rk q → rk p < k → p = q
  all : ∀ r, r < k → ∃ p, p < n ∧ rk p = r
  lk : ∀ a b x m, K a b = some (x, m) → a < n ∧ b < n ∧ a ≠ b ∧ 0 ≤ x ∧ Way n W a b x
  bnd : ∀ a b x m, K a b = some (x, m) → x ≤ 1000000 * 2 ^ k
  ubnd : ∀ a b x m, K a b = some (x, m) → (rk a < n → rk a ≤ rk b → x ≤ 1000000 * 2 ^ (rk a)) ∧ (rk b < n → rk b ≤ rk a → x ≤ 1000000 * 2 ^ (rk b))
  mid : ∀ a b x m, K a b = some (x, m) → (m = -1 ∧ W a b = some x) ∨ ∃ c : Nat, c < n ∧ m = (c : Int) ∧ rk c < rk a ∧ rk c < rk b ∧ rk c < k ∧ ∃ y z, wtM K a c = some y ∧ wtM K c b = some z ∧ x = y + z
  edge : ∀ a b x, a < n → b < n → W a b = some x → a ≠ b → ∃ y, wtM K a b = some y ∧ y ≤ x
  over : ∀ a b d, a < n → b < n → Way n W a b d → Over n K rk a b d
section
variable {n p : Nat} {W V : Nat → Nat → Option Int} {K K' : Mx} {rk : Nat → Nat}
theorem way_nonneg (h : ∀ a b x, a < n → b < n → V a b = some x → 0 ≤ x) {a b : Nat} {d : Int} (k : Way n V a b d) : 0 ≤ d := by
  induction k with
  | here => exact Int.le_refl _
  | on k hu hv hx ih => have := h _ _ _ hu hv hx; omega
/-- Edge by edge, ways of V as light in W. -/
theorem way_into (h : ∀ a b x, a < n → b < n → V a b = some x → ∃ y, Way n W a b y ∧ y ≤ x) {a b : Nat} {d : Int} (k : Way n V a b d) : ∃ d', Way n W a b d' ∧ d' ≤ d := by
  induction k with
  | here => exact ⟨0, .here, Int.le_refl _⟩
  | on k hu hv hx ih =>
    obtain ⟨d', h1, h2⟩ := ih
    obtain ⟨y, h3, h4⟩ := h _ _ _ hu hv hx
    exact ⟨_, h1.trans h3, by omega⟩
theorem way_one {a b : Nat} {x : Int} (ha : a < n) (hb : b < n) (h : V a b = some x) : Way n V a b x := by
  have := (Way.here (n := n) (W := V) (p := a)).on ha hb h
  rwa [Int.zero_add] at this
theorem waitW_some {a b : Nat} {x : Int} : waitW n K rk a b = some x ↔ rk a = n ∧ rk b = n ∧ wtM K a b = some x := by
  unfold waitW
  split
  · rename_i h; exact ⟨fun e => ⟨h.1, h.2, e⟩, fun e => e.2.2⟩
  · rename_i h; exact ⟨fun e => (by cases e), fun e => absurd ⟨e.1, e.2.1⟩ h⟩
theorem avoid_some {a b : Nat} {x : Int} : avoid n K rk p a b = some x ↔ rk a = n ∧ rk b = n ∧ a ≠ p ∧ b ≠ p ∧ wtM K a b = some x := by
  unfold avoid
  split
  · rename_i h; exact ⟨fun e => ⟨h.1.1, h.1.2, h.2.1, h.2.2, e⟩, fun e => e.2.2.2.2⟩
  · rename_i h; exact ⟨fun e => (by cases e), fun e => absurd ⟨⟨e.1, e.2.1⟩, e.2.2.1, e.2.2.2.1⟩ h⟩
theorem upW_some {a b : Nat} {x : Int} : upW K rk a b = some x ↔ rk a < rk b ∧ wtM K a b = some x := by
  unfold upW
  split
  · rename_i h; exact ⟨fun e => ⟨h, e⟩, fun e => e.2⟩
  · rename_i h; exact ⟨fun e => (by cases e), fun e => absurd e.1 h⟩
theorem dnW_some {a b : Nat} {x : Int} : dnW K rk a b = some x ↔ rk b < rk a ∧ wtM K a b = some x := by
  unfold dnW
  split
  · rename_i h; exact ⟨fun e => ⟨h, e⟩, fun e => e.2⟩
  · rename_i h; exact ⟨fun e => (by cases e), fun e => absurd e.1 h⟩
/-- What is so of p when it is lifted as the k-th. -/
structure LS (n : Nat) (K : Mx) (rk : Nat → Nat) (k p : Nat) (K' : Mx) : Prop where
  kn : k < n
  pn : p < n
  rp : rk p = n
  pos : ∀ a b x, wtM K a b = some x → a < n ∧ b < n ∧ a ≠ b ∧ 0 ≤ x
  il : IsLift n K rk p K'
theorem LS.no_loop {k : Nat} (h : LS n K rk k p K') (a : Nat) : wtM K a a = none := by
  cases e : wtM K a a with
  | none => rfl
  | some x => exact absurd rfl (h.pos a a x e).2.2.1
/-- A link between two that go on waiting is there, or a lighter one. -/
theorem LS.stays {k : Nat} (h : LS n K rk k p K') {a b : Nat} {x : Int} (ra : rk a = n) (rb : rk b = n) (ap : a ≠ p) (bp : b ≠ p) (hx : wtM K a b = some x) : ∃ y, wtM K' a b = some y ∧ y ≤ x := by
  obtain ⟨h1, h2, h3, h4⟩ := h.pos a b x hx
  rcases h.il a b with ⟨u, v, s, e⟩ | ⟨s, e⟩
  · have := s.far x (way_one h1 h2 (avoid_some.2 ⟨ra, rb, ap, bp, hx⟩))
    exact ⟨u + v, wtM_some.2 ⟨_, e⟩, by omega⟩
  · exact ⟨x, by rw [← hx]; unfold wtM; rw [e], Int.le_refl _⟩
theorem LS.rk_other {k q : Nat} (h : q ≠ p) : updN rk p k q = rk q := updN_other rk k h
theorem LS.wait_edge {k : Nat} (h : LS n K rk k p K') {a b : Nat} {x : Int} (ap : a ≠ p) (bp : b ≠ p) (hx : waitW n K rk a b = some x) : ∃ y, waitW n K' (updN rk p k) a b = some y ∧ y ≤ x := by
  obtain ⟨ra, rb, hx⟩ := waitW_some.1 hx
  obtain ⟨y, h1, h2⟩ := h.stays ra rb ap bp hx
  exact ⟨y, waitW_some.2 ⟨by rw [updN_other _ _ ap]; exact ra, by rw [updN_other _ _ bp]; exact rb, h1⟩, h2⟩
/-- Two links over p: as light without it. -/
theorem LS.over {k : Nat} (h : LS n K rk k p K') {a b : Nat} {x y : Int} (ra : rk a = n) (rb : rk b = n) (ap : a ≠ p) (bp : b ≠ p) (hx : wtM K a p = some x) (hy : wtM K p b = some y) : ∃ d, Way n (waitW n K' (updN rk p k)) a b d ∧ d ≤ x + y := by
  obtain ⟨a1, _, _, a4⟩ := h.pos a p x hx
  obtain ⟨_, b2, _, b4⟩ := h.pos p b y hy
  by_cases hab : a = b
  · subst hab
    exact ⟨0, .here, by omega⟩
  · by_cases hs : ∃ d, Way n (avoid n K rk p) a b d ∧ d ≤ x + y
    · obtain ⟨d, h1, h2⟩ := hs
      obtain ⟨d', h3, h4⟩ := way_into (W := waitW n K' (updN rk p k)) (fun u v z hu hv hz => by
        obtain ⟨r1, r2, r3, r4, r5⟩ := avoid_some.1 hz
        obtain ⟨y, q1, q2⟩ := h.wait_edge r3 r4 (waitW_some.2 ⟨r1, r2, r5⟩)
        exact ⟨y, way_one hu hv q1, q2⟩) h1
      exact ⟨d', h3, by omega⟩
    · have s : Short n K rk p a b x y := ⟨hab, ra, rb, ap, bp, hx, hy, fun d hd => by
        by_cases hl : d ≤ x + y
        · exact absurd ⟨d, hd, hl⟩ hs
        · omega⟩
      rcases h.il a b with ⟨u, v, s', e⟩ | ⟨s', _⟩
      · have e1 := s'.hx; rw [hx] at e1
        have e2 := s'.hy; rw [hy] at e2
        cases e1; cases e2
        exact ⟨x + y, way_one a1 b2 (waitW_some.2 ⟨by rw [updN_other _ _ ap]; exact ra, by rw [updN_other _ _ bp]; exact rb, wtM_some.2 ⟨_, e⟩⟩), Int.le_refl _⟩
      · exact absurd ⟨x, y, s⟩ s'
theorem LS.wpos {k : Nat} (h : LS n K rk k p K') {a b : Nat} {x : Int} (hx : waitW n K rk a b = some x) : 0 ≤ x := (h.pos a b x (waitW_some.1 hx).2.2).2.2.2
/-- A way from one that goes on waiting: without p, or its last link comes to p. -/
theorem LS.from_other {k : Nat} (h : LS n K rk k p K') {a b : Nat} {d : Int} (ap : a ≠ p) (hw : Way n (waitW n K rk) a b d) :
    (b ≠ p → ∃ d', Way n (waitW n K' (updN rk p k)) a b d' ∧ d' ≤ d) ∧ (b = p → ∃ u d' x, u < n ∧ u ≠ p ∧ rk u = n ∧ Way n (waitW n K' (updN rk p k)) a u d' ∧ wtM K u p = some x ∧ d' + x ≤ d) := by
  induction hw with
  | here => exact ⟨fun _ => ⟨0, .here, Int.le_refl _⟩, fun e => absurd e ap⟩
  | @on u v d x hw hu hv hx ih =>
    obtain ⟨ih1, ih2⟩ := ih
    obtain ⟨r1, r2, r3⟩ := waitW_some.1 hx
    have hx0 := h.wpos hx
    by_cases hup : u = p
    · subst hup
      refine ⟨fun hvp => ?_, fun hvp => ?_⟩
      · obtain ⟨t, d', y, q1, q2, q3, q4, q5, q6⟩ := ih2 rfl
        obtain ⟨e, w1, w2⟩ := h.over q3 r2 q2 hvp q5 r3
        exact ⟨d' + e, q4.trans w1, by omega⟩
      · subst hvp
        rw [h.no_loop] at r3
        cases r3
    · refine ⟨fun hvp => ?_, fun hvp => ?_⟩
      · obtain ⟨d', q1, q2⟩ := ih1 hup
        obtain ⟨y, w1, w2⟩ := h.wait_edge hup hvp hx
        exact ⟨d' + y, q1.on hu hv w1, by omega⟩
      · subst hvp
        obtain ⟨d', q1, q2⟩ := ih1 hup
        exact ⟨u, d', x, hu, hup, r1, q1, r3, by omega⟩
/-- A way from p to one that goes on waiting. -/
theorem LS.from_p {k : Nat} (h : LS n K rk k p K') {b : Nat} {d : Int} (hw : Way n (waitW n K rk) p b d) :
    0 ≤ d ∧ (b ≠ p → ∃ u d' x, u < n ∧ u ≠ p ∧ rk u = n ∧ wtM K p u = some x ∧ Way n (waitW n K' (updN rk p k)) u b d' ∧ x + d' ≤ d) := by
  induction hw with
  | here => exact ⟨Int.le_refl _, fun e => absurd rfl e⟩
  | @on u v d x hw hu hv hx ih =>
    obtain ⟨ih1, ih2⟩ := ih
    obtain ⟨r1, r2, r3⟩ := waitW_some.1 hx
    have hx0 := h.wpos hx
    refine ⟨by omega, fun hvp => ?_⟩
    by_cases hup : u = p
    · subst hup
      exact ⟨v, 0, x, hv, hvp, r2, r3, .here, by omega⟩
    · obtain ⟨t, d', y, q1, q2, q3, q4, q5, q6⟩ := ih2 hup
      obtain ⟨z, w1, w2⟩ := h.wait_edge hup hvp hx
      exact ⟨t, d' + z, y, q1, q2, q3, q4, q5.on hu hv w1, by omega⟩
/-- Links of places that are lifted already stay. -/
theorem LS.kept {k : Nat} (h : LS n K rk k p K') {a b : Nat} (hab : rk a ≠ n ∨ rk b ≠ n ∨ a = p ∨ b = p) : K' a b = K a b := by
  rcases h.il a b with ⟨u, v, s, e⟩ | ⟨_, e⟩
  · rcases hab with e1 | e1 | e1 | e1
    · exact absurd s.ra e1
    · exact absurd s.rb e1
    · exact absurd e1 s.ap
    · exact absurd e1 s.bp
  · exact e
theorem lft_zero (hW : ∀ a b x, W a b = some x → a < n ∧ b < n ∧ a ≠ b ∧ 0 ≤ x ∧ x ≤ 1000000) : Lft n W 0 (fun a b => (W a b).map fun x => (x, -1)) (fun _ => n) := by
  have hK : ∀ a b x m, ((W a b).map fun x => (x, (-1 : Int))) = some (x, m) → W a b = some x ∧ m = -1 := fun a b x m h => by
    cases e : W a b with
    | none => rw [e] at h; cases h
    | some y => rw [e] at h; simp only [Option.map_some, Option.some.injEq, Prod.mk.injEq] at h; exact ⟨by rw [h.1], h.2.symm⟩
  have hw : ∀ a b x, W a b = some x → wtM (fun a b => (W a b).map fun x => (x, -1)) a b = some x := fun a b x h => by simp [wtM, h]
  refine ⟨Nat.zero_le _, fun _ _ => .inr rfl, fun _ _ _ _ _ h => absurd h (Nat.not_lt_zero _), fun _ h => absurd h (Nat.not_lt_zero _), fun a b x m h => ?_, fun a b x m h => ?_, fun a b x m h => ?_, fun a b x m h => ?_, fun a b x _ _ h _ => ⟨x, hw a b x h, Int.le_refl _⟩, fun a b d ha hb h => ?_⟩
  · obtain ⟨h1, _⟩ := hK a b x m h
    obtain ⟨r1, r2, r3, r4, _⟩ := hW a b x h1
    exact ⟨r1, r2, r3, r4, way_one r1 r2 h1⟩
  · have := (hW a b x (hK a b x m h).1).2.2.2.2
    simpa using this
  · exact ⟨fun e => absurd e (Nat.lt_irrefl _), fun e => absurd e (Nat.lt_irrefl _)⟩
  · exact .inl ⟨(hK a b x m h).2, (hK a b x m h).1⟩
  · refine .inr ⟨a, b, 0, d, 0, ha, hb, rfl, rfl, .here, ?_, .here, by omega⟩
    obtain ⟨d', h1, h2⟩ : ∃ d', Way n (waitW n (fun a b => (W a b).map fun x => (x, -1)) fun _ => n) a b d' ∧ d' = d := by
      induction h with
      | here => exact ⟨0, .here, rfl⟩
      | on _ hu hv hx ih =>
        obtain ⟨d', q1, q2⟩ := ih hu
        subst q2
        exact ⟨_, q1.on hu hv (waitW_some.2 ⟨rfl, rfl, hw _ _ _ hx⟩), rfl⟩
    rw [← h2]; exact h1
theorem two_pow (k : Nat) : (1000000 : Int) * 2 ^ (k + 1) = 1000000 * 2 ^ k + 1000000 * 2 ^ k := by rw [Int.pow_succ]; omega
theorem pow_pos' (k : Nat) : (1 : Int) ≤ 2 ^ k := by
  induction k with
  | zero => simp
  | succ k ih => rw [Int.pow_succ]; omega
theorem pow_mono {a b : Nat} (h : a ≤ b) : (1000000 : Int) * 2 ^ a ≤ 1000000 * 2 ^ b := by
  induction h with
  | refl => exact Int.le_refl _
  | step h ih => rename_i m; have h1 := two_pow m; have h2 := pow_pos' m; rw [Nat.succ_eq_add_one]; omega
theorem Lft.ls {k : Nat} (h : Lft n W k K rk) (hk : k < n) (hp : p < n) (rp : rk p = n) (il : IsLift n K rk p K') : LS n K rk k p K' :=
  ⟨hk, hp, rp, fun a b x hx => by
    obtain ⟨m, e⟩ := wtM_some.1 hx
    obtain ⟨r1, r2, r3, r4, _⟩ := h.lk a b x m e
    exact ⟨r1, r2, r3, r4⟩, il⟩
theorem Lft.lt {k a : Nat} (h : Lft n W k K rk) (ha : a < n) (hr : rk a ≠ n) : rk a < k := by
  rcases h.rank a ha with e | e
  · exact e
  · exact absurd e hr
theorem lft_up {k : Nat} (h : Lft n W k K rk) (s : LS n K rk k p K') {a b : Nat} {x : Int} (ha : a < n) (hx : upW K rk a b = some x) : upW K' (updN rk p k) a b = some x := by
  obtain ⟨h1, h2⟩ := upW_some.1 hx
  obtain ⟨_, hb, _, _⟩ := s.pos a b x h2
  have hb2 : rk b ≤ n := by rcases h.rank b hb with e | e <;> have := h.kn <;> omega
  have ra : rk a < k := h.lt ha (by omega)
  have ap : a ≠ p := fun e => by subst e; have := s.rp; omega
  refine upW_some.2 ⟨?_, by rw [← h2]; unfold wtM; rw [s.kept (.inl (by omega))]⟩
  rw [updN_other _ _ ap]
  by_cases hbp : b = p
  · subst hbp; rw [updN_same]; exact ra
  · rw [updN_other _ _ hbp]; exact h1
theorem lft_dn {k : Nat} (h : Lft n W k K rk) (s : LS n K rk k p K') {a b : Nat} {x : Int} (hb : b < n) (hx : dnW K rk a b = some x) : dnW K' (updN rk p k) a b = some x := by
  obtain ⟨h1, h2⟩ := dnW_some.1 hx
  obtain ⟨ha, _, _, _⟩ := s.pos a b x h2
  have ha2 : rk a ≤ n := by rcases h.rank a ha with e | e <;> have := h.kn <;> omega
  have rb : rk b < k := h.lt hb (by omega)
  have bp : b ≠ p := fun e => by subst e; have := s.rp; omega
  refine dnW_some.2 ⟨?_, by rw [← h2]; unfold wtM; rw [s.kept (.inr (.inl (by omega)))]⟩
  rw [updN_other _ _ bp]
  by_cases hap : a = p
  · subst hap; rw [updN_same]; exact rb
  · rw [updN_other _ _ hap]; exact h1
theorem way_same (h : ∀ a b x, a < n → b < n → V a b = some x → W a b = some x) {a b : Nat} {d : Int} (k : Way n V a b d) : Way n W a b d := by
  induction k with
  | here => exact .here
  | on k hu hv hx ih => exact ih.on hu hv (h _ _ _ hu hv hx)
theorem lft_over {k : Nat} (h : Lft n W k K rk) (s : LS n K rk k p K') {a b : Nat} {d : Int} (ho : Over n K rk a b d) : Over n K' (updN rk p k) a b d := by
  have up : ∀ {a b d}, Way n (upW K rk) a b d → Way n (upW K' (updN rk p k)) a b d := fun hw => way_same (fun a b x ha _ hx => lft_up h s ha hx) hw
  have dn : ∀ {a b d}, Way n (dnW K rk) a b d → Way n (dnW K' (updN rk p k)) a b d := fun hw => way_same (fun a b x _ hb hx => lft_dn h s hb hx) hw
  have kn := s.kn
  rcases ho with ⟨c, d1, d2, hc, w1, w2, w3⟩ | ⟨c1, c2, d1, d2, d3, hc1, hc2, r1, r2, w1, w2, w3, w4⟩
  · exact .inl ⟨c, d1, d2, hc, up w1, dn w2, w3⟩
  · have rk_p : updN rk p k p = k := updN_same rk p k
    by_cases e1 : c1 = p
    · subst e1
      obtain ⟨q0, q1⟩ := s.from_p w2
      by_cases e2 : c2 = c1
      · subst e2
        exact .inl ⟨c2, d1, d3, hc2, up w1, dn w3, by omega⟩
      · obtain ⟨u, d', x, hu, hup, ru, hx, hw, hl⟩ := q1 e2
        have he : upW K' (updN rk c1 k) c1 u = some x := upW_some.2 ⟨by rw [rk_p, updN_other _ _ hup]; omega, by rw [← hx]; unfold wtM; rw [s.kept (.inr (.inr (.inl rfl)))]⟩
        exact .inr ⟨u, c2, d1 + x, d', d3, hu, hc2, by rw [updN_other _ _ hup]; exact ru, by rw [updN_other _ _ e2]; exact r2, (up w1).on hc1 hu he, hw, dn w3, by omega⟩
    · obtain ⟨q1, q2⟩ := s.from_other e1 w2
      by_cases e2 : c2 = p
      · subst e2
        obtain ⟨u, d', x, hu, hup, ru, hw, hx, hl⟩ := q2 rfl
        have he : dnW K' (updN rk c2 k) u c2 = some x := dnW_some.2 ⟨by rw [rk_p, updN_other _ _ hup]; omega, by rw [← hx]; unfold wtM; rw [s.kept (.inr (.inr (.inr rfl)))]⟩
        exact .inr ⟨c1, u, d1, d', x + d3, hc1, hu, by rw [updN_other _ _ e1]; exact r1, by rw [updN_other _ _ hup]; exact ru, up w1, hw, (way_one hu hc2 he).trans (dn w3), by omega⟩
      · obtain ⟨d', hw, hl⟩ := q1 e2
        exact .inr ⟨c1, c2, d1, d', d3, hc1, hc2, by rw [updN_other _ _ e1]; exact r1, by rw [updN_other _ _ e2]; exact r2, up w1, hw, dn w3, by omega⟩
theorem lft_step {k : Nat} (h : Lft n W k K rk) (s : LS n K rk k p K') : Lft n W (k + 1) K' (updN rk p k) := by
  have kn := s.kn
  have rp := s.rp
  have pn := s.pn
  have rle : ∀ a, a < n → rk a ≤ n := fun a ha => by rcases h.rank a ha with e | e <;> omega
  refine ⟨kn, fun q hq => ?_, fun q t hq ht e hl => ?_, fun r hr => ?_, fun a b x m e => ?_, fun a b x m e => ?_, fun a b x m e => ?_, fun a b x m e => ?_, fun a b x ha hb e hab => ?_, fun a b d ha hb hw => lft_over h s (h.over a b d ha hb hw)⟩
  · by_cases e : q = p
    · subst e; rw [updN_same]; exact .inl (by omega)
    · rw [updN_other _ _ e]
      rcases h.rank q hq with e1 | e1
      · exact .inl (by omega)
      · exact .inr e1
  · by_cases e1 : q = p
    · subst e1
      rw [updN_same] at e
      by_cases e2 : t = q
      · exact e2.symm
      · rw [updN_other _ _ e2] at e
        rcases h.rank t ht with e3 | e3 <;> omega
    · rw [updN_other _ _ e1] at e hl
      by_cases e2 : t = p
      · subst e2
        rw [updN_same] at e
        rcases h.rank q hq with e3 | e3 <;> omega
      · rw [updN_other _ _ e2] at e
        refine h.inj q t hq ht e ?_
        rcases h.rank q hq with e3 | e3 <;> omega
  · by_cases e : r = k
    · subst e; exact ⟨p, pn, updN_same rk p r⟩
    · obtain ⟨q, hq, e1⟩ := h.all r (by omega)
      exact ⟨q, hq, by rw [updN_other _ _ (fun e2 => by subst e2; omega)]; exact e1⟩
  · rcases s.il a b with ⟨u, v, q, e1⟩ | ⟨_, e1⟩
    · rw [e1] at e
      simp only [Option.some.injEq, Prod.mk.injEq] at e
      obtain ⟨rfl, rfl⟩ := e
      obtain ⟨m1, e2⟩ := wtM_some.1 q.hx
      obtain ⟨m2, e3⟩ := wtM_some.1 q.hy
      obtain ⟨a1, _, _, a2, a3⟩ := h.lk a p u m1 e2
      obtain ⟨_, b1, _, b2, b3⟩ := h.lk p b v m2 e3
      exact ⟨a1, b1, q.ab, by omega, a3.trans b3⟩
    · rw [e1] at e; exact h.lk a b x m e
  · have h2 := two_pow k
    have h3 := pow_pos' k
    rcases s.il a b with ⟨u, v, q, e1⟩ | ⟨_, e1⟩
    · rw [e1] at e
      simp only [Option.some.injEq, Prod.mk.injEq] at e
      obtain ⟨m1, e2⟩ := wtM_some.1 q.hx
      obtain ⟨m2, e3⟩ := wtM_some.1 q.hy
      have b1 := h.bnd a p u m1 e2
      have b2 := h.bnd p b v m2 e3
      omega
    · rw [e1] at e
      have b1 := h.bnd a b x m e
      omega
  · rcases s.il a b with ⟨u, v, q, e1⟩ | ⟨_, e1⟩
    · rw [updN_other _ _ q.ap, updN_other _ _ q.bp, q.ra, q.rb]
      exact ⟨fun e => absurd e (Nat.lt_irrefl _), fun e => absurd e (Nat.lt_irrefl _)⟩
    · rw [e1] at e
      obtain ⟨b1, b2⟩ := h.ubnd a b x m e
      have b3 := h.bnd a b x m e
      obtain ⟨ha, hb, hab, _, _⟩ := h.lk a b x m e
      have la := rle a ha
      have lb := rle b hb
      by_cases ap : a = p
      · subst ap
        rw [updN_same, updN_other _ _ (fun e => hab e.symm)]
        exact ⟨fun _ _ => b3, fun c1 c2 => b2 c1 (by omega)⟩
      · by_cases bp : b = p
        · subst bp
          rw [updN_same, updN_other _ _ ap]
          exact ⟨fun c1 c2 => b1 c1 (by omega), fun _ _ => b3⟩
        · rw [updN_other _ _ ap, updN_other _ _ bp]
          exact ⟨b1, b2⟩
  · rcases s.il a b with ⟨u, v, q, e1⟩ | ⟨_, e1⟩
    · rw [e1] at e
      simp only [Option.some.injEq, Prod.mk.injEq] at e
      obtain ⟨rfl, rfl⟩ := e
      refine .inr ⟨p, pn, rfl, by rw [updN_same, updN_other _ _ q.ap, q.ra]; exact kn, by rw [updN_same, updN_other _ _ q.bp, q.rb]; exact kn, by rw [updN_same]; omega, u, v, ?_, ?_, rfl⟩
      · rw [← q.hx]; unfold wtM; rw [s.kept (.inr (.inr (.inr rfl)))]
      · rw [← q.hy]; unfold wtM; rw [s.kept (.inr (.inr (.inl rfl)))]
    · rw [e1] at e
      rcases h.mid a b x m e with h1 | ⟨c, hc, h2, h3, h4, h5, y, z, h6, h7, h8⟩
      · exact .inl h1
      · have cp : c ≠ p := fun e => by subst e; omega
        have rr : ∀ q, q < n → rk c < rk q → rk c < updN rk p k q := fun q hq hl => by
          by_cases e : q = p
          · subst e; rw [updN_same]; exact h5
          · rw [updN_other _ _ e]; exact hl
        obtain ⟨ha, hb, _⟩ := h.lk a b x m e
        refine .inr ⟨c, hc, h2, by rw [updN_other _ _ cp]; exact rr a ha h3, by rw [updN_other _ _ cp]; exact rr b hb h4, by rw [updN_other _ _ cp]; omega, y, z, ?_, ?_, h8⟩
        · rw [← h6]; unfold wtM; rw [s.kept (.inr (.inl (by omega)))]
        · rw [← h7]; unfold wtM; rw [s.kept (.inl (by omega))]
  · obtain ⟨y, h1, h2⟩ := h.edge a b x ha hb e hab
    rcases s.il a b with ⟨u, v, q, e1⟩ | ⟨_, e1⟩
    · have := q.far y (way_one ha hb (avoid_some.2 ⟨q.ra, q.rb, q.ap, q.bp, h1⟩))
      exact ⟨u + v, wtM_some.2 ⟨_, e1⟩, by omega⟩
    · exact ⟨y, by rw [← h1]; unfold wtM; rw [e1], h2⟩
/-! ### all lifted -/
theorem Lft.rlt {a : Nat} (h : Lft n W n K rk) (ha : a < n) (hn : rk a ≠ n) : rk a < n := h.lt ha hn
theorem lft_ways (h : Lft n W n K rk) (hall : ∀ a, a < n → rk a < n) {a b : Nat} {d : Int} (ha : a < n) (hb : b < n) (hw : Way n W a b d) : ∃ c d1 d2, c < n ∧ Way n (upW K rk) a c d1 ∧ Way n (dnW K rk) c b d2 ∧ d1 + d2 ≤ d := by
  rcases h.over a b d ha hb hw with k | ⟨c1, _, _, _, _, hc, _, r, _⟩
  · exact k
  · have := hall c1 hc; omega
theorem lft_up_way {k : Nat} (h : Lft n W k K rk) {a b : Nat} {d : Int} (hw : Way n (upW K rk) a b d) : Way n W a b d := by
  induction hw with
  | here => exact .here
  | on _ hu hv hx ih =>
    obtain ⟨m, e⟩ := wtM_some.1 (upW_some.1 hx).2
    exact ih.trans (h.lk _ _ _ m e).2.2.2.2
theorem lft_dn_way {k : Nat} (h : Lft n W k K rk) {a b : Nat} {d : Int} (hw : Way n (dnW K rk) a b d) : Way n W a b d := by
  induction hw with
  | here => exact .here
  | on _ hu hv hx ih =>
    obtain ⟨m, e⟩ := wtM_some.1 (dnW_some.1 hx).2
    exact ih.trans (h.lk _ _ _ m e).2.2.2.2
end
end Go.Proofs.YtojkdmkeankcgaaGreat
/-  Plain: the search about a place, up to a weight: closed places, open ones, and edges that come in any order. -/
namespace Go.Proofs.YtojkdmkeankcgaaGreat
open Qu (Pr lt items Dis repl dropM putM Least look_none look_some dis_put dis_drop)

/-- The links of U that don't lead to o. -/
def offW (U : Mx) (o : Nat) : Nat → Nat → Option Int := fun a b => if b = o then none else wtM U a b
/-- Edges are among n places, and no heavier than M. -/
def EOk (n : Nat) (E : Nat → Nat → Option Int) (M : Int) : Prop := ∀ a b x, E a b = some x → a < n ∧ b < n ∧ 0 ≤ x ∧ x ≤ M
structure ArC (n : Nat) (E : Nat → Nat → Option Int) (s : Nat) (m M : Int) (D : Nat → Option Int) (X : List Pr) : Prop where
  dis : Dis X
  clo : ∀ v d, D v = some d → v < n ∧ 0 ≤ d ∧ d ≤ m ∧ Way n E s v d
  opn : ∀ y ∈ X, ∃ v : Nat, v < n ∧ y.1 = (v : Int) ∧ D v = none ∧ Way n E s v y.2 ∧ 0 ≤ y.2 ∧ y.2 ≤ m + M ∧ ∀ u d, D u = some d → d ≤ y.2
structure ArD (n : Nat) (E : Nat → Nat → Option Int) (s : Nat) (m M : Int) (D : Nat → Option Int) (X : List Pr) : Prop where
  core : ArC n E s m M D X
  led : ∀ u v d x, D u = some d → E u v = some x → Led D X v (d + x)
  start : D s = some 0 ∨ (X = [((s : Int), (0 : Int))] ∧ ∀ v, D v = none)
structure ArM (n : Nat) (E : Nat → Nat → Option Int) (s : Nat) (m M : Int) (D : Nat → Option Int) (X : List Pr) (p : Nat) (k : Int) (todo : Nat → Bool) : Prop where
  core : ArC n E s m M D X
  hp : D p = some k
  top : ∀ u d, D u = some d → d ≤ k
  low : ∀ y ∈ X, k ≤ y.2
  led : ∀ u v d x, u ≠ p → D u = some d → E u v = some x → Led D X v (d + x)
  mine : ∀ q x, todo q = false → E p q = some x → Led D X q (k + x)
  start : D s = some 0
section
variable {n s p : Nat} {E : Nat → Nat → Option Int} {m M k : Int} {D : Nat → Option Int} {X : List Pr} {todo : Nat → Bool}
theorem ar_zero (hs : s < n) (hm : 0 ≤ m) (hM : 0 ≤ M) : ArD n E s m M (fun _ => none) [((s : Int), (0 : Int))] := by
  refine ⟨⟨by simp [Dis, items], fun v d h => (by cases h), fun y hy => ?_⟩, fun u v d x h => (by cases h), .inr ⟨rfl, fun _ => rfl⟩⟩
  simp at hy
  subst hy
  exact ⟨s, hs, rfl, rfl, .here, Int.le_refl _, by simp only; omega, fun u d h => (by cases h)⟩
theorem ar_take (h : ArD n E s m M D X) {y : Pr} (hy : Least X y) (hm : y.2 ≤ m) (t0 : Nat → Bool) (ht : ∀ q x, E p q = some x → t0 q = true) (hp : y.1 = (p : Int)) :
    p < n ∧ D p = none ∧ ArM n E s m M (upd D p (some y.2)) (dropM X y.1) p y.2 t0 := by
  obtain ⟨v, hv, e1, hDv, hw, h0, h1, h2⟩ := h.core.opn y hy.1
  have : v = p := by omega
  subst this
  have low : ∀ z ∈ X, y.2 ≤ z.2 := fun z hz => by
    have := hy.2 z hz
    unfold Qu.lt at this
    have := of_decide_eq_false this
    omega
  have hD : ∀ u d, upd D v (some y.2) u = some d → (u = v ∧ d = y.2) ∨ (u ≠ v ∧ D u = some d) := fun u d e => by
    by_cases eu : u = v
    · subst eu; rw [upd_same] at e; cases e; exact .inl ⟨rfl, rfl⟩
    · rw [upd_other _ _ eu] at e; exact .inr ⟨eu, e⟩
  have hled : ∀ {q : Nat} {e : Int}, Led D X q e → Led (upd D v (some y.2)) (dropM X y.1) q e := fun {q e} hl => by
    rcases hl with ⟨d', a, b⟩ | ⟨z, hz, a, b⟩
    · exact .inl ⟨d', by rw [upd_other _ _ (fun e => by subst e; rw [hDv] at a; cases a)]; exact a, b⟩
    · by_cases eq : q = v
      · subst eq
        have : z = y := h.core.dis.inj hz hy.1 (by rw [a, e1])
        subst this
        exact .inl ⟨z.2, upd_same _ _ _, b⟩
      · exact .inr ⟨z, mem_drop.2 ⟨hz, by omega⟩, a, b⟩
  refine ⟨hv, hDv, ⟨dis_drop h.core.dis _, fun u d e => ?_, fun z hz => ?_⟩, upd_same _ _ _, fun u d e => ?_, fun z hz => low z (mem_drop.1 hz).1, fun u q d x hu e hx => ?_, fun q x e hx => ?_, ?_⟩
  · rcases hD u d e with ⟨rfl, rfl⟩ | ⟨_, e2⟩
    · exact ⟨hv, h0, hm, hw⟩
    · exact h.core.clo u d e2
  · obtain ⟨hz1, hz2⟩ := mem_drop.1 hz
    obtain ⟨t, r1, r2, r3, r4, r5, r6, r7⟩ := h.core.opn z hz1
    refine ⟨t, r1, r2, by rw [upd_other _ _ (fun e => by subst e; omega)]; exact r3, r4, r5, r6, fun u d e => ?_⟩
    rcases hD u d e with ⟨_, rfl⟩ | ⟨_, e2⟩
    · exact low z hz1
    · exact r7 u d e2
  · rcases hD u d e with ⟨_, rfl⟩ | ⟨_, e2⟩
    · exact Int.le_refl _
    · exact h2 u d e2
  · rw [upd_other _ _ hu] at e
    exact hled (h.led u q d x e hx)
  · rw [ht q x hx] at e; cases e
  · rcases h.start with e | ⟨e, _⟩
    · rw [upd_other _ _ (fun e2 => by subst e2; rw [hDv] at e; cases e)]; exact e
    · have := hy.1
      rw [e] at this
      simp at this
      subst this
      simp only at e1
      have : s = v := by omega
      subst this
      exact upd_same _ _ _
theorem ar_skip (h : ArM n E s m M D X p k todo) (hE : EOk n E M) {q : Nat} (hq : E p q = none ∨ ∃ d, D q = some d) : ArM n E s m M D X p k (fun t => todo t && !(t == q)) := by
  refine ⟨h.core, h.hp, h.top, h.low, h.led, fun t x ht hx => ?_, h.start⟩
  by_cases e : t = q
  · subst e
    rcases hq with e | ⟨d, e⟩
    · rw [e] at hx; cases hx
    · exact .inl ⟨d, e, by have := h.top t d e; have := hE p t x hx; omega⟩
  · exact h.mine t x (by simpa [e] using ht) hx
theorem ar_put (h : ArM n E s m M D X p k todo) (hE : EOk n E M) (hl : X.length < 4096) {q : Nat} {x : Int} (hx : E p q = some x) (hD : D q = none) : ArM n E s m M D (putM X q (k + x)).1 p k (fun t => todo t && !(t == q)) := by
  obtain ⟨hp, hq, hx0, hxM⟩ := hE p q x hx
  obtain ⟨_, k0, k1, k2⟩ := h.core.clo p k h.hp
  refine ⟨⟨dis_put h.core.dis _ _, h.core.clo, fun y hy => ?_⟩, h.hp, h.top, fun y hy => ?_, fun u v d z hu e hz => (h.led u v d z hu e hz).put h.core.dis hl, fun t z ht hz => ?_, h.start⟩
  · rcases mem_put hl hy with ⟨hy2, _⟩ | ⟨rfl, _⟩
    · exact h.core.opn y hy2
    · exact ⟨q, hq, rfl, hD, k2.on hp hq hx, by simp only; omega, by simp only; omega, fun u d e => by have := h.top u d e; simp only; omega⟩
  · rcases mem_put hl hy with ⟨hy2, _⟩ | ⟨rfl, _⟩
    · exact h.low y hy2
    · simp only; omega
  · by_cases e : t = q
    · subst e
      obtain ⟨y, hy, a, b⟩ := put_has (v := (t : Int)) (k := k + x) h.core.dis hl
      rw [hx] at hz
      cases hz
      exact .inr ⟨y, hy, a, b⟩
    · exact (h.mine t z (by simpa [e] using ht) hz).put h.core.dis hl
theorem ar_end (h : ArM n E s m M D X p k todo) (ht : ∀ q, q < n → todo q = false) (hE : EOk n E M) : ArD n E s m M D X := by
  refine ⟨h.core, fun u v d x hd hx => ?_, .inl h.start⟩
  by_cases e : u = p
  · subst e
    rw [h.hp] at hd
    cases hd
    exact h.mine v x (ht v (hE _ _ _ hx).2.1) hx
  · exact h.led u v d x e hd hx
theorem ArC.len (h : ArC n E s m M D X) : X.length ≤ n := by
  have := nodup_len n (items X) h.dis (fun x hx => by
    obtain ⟨y, hy, rfl⟩ := List.mem_map.1 hx
    obtain ⟨v, hv, e, _⟩ := h.opn y hy
    omega)
  simpa [items] using this
/-- What the search tells. -/
structure Near (n : Nat) (E : Nat → Nat → Option Int) (s : Nat) (m : Int) (D : Nat → Option Int) : Prop where
  way : ∀ q d, D q = some d → q < n ∧ 0 ≤ d ∧ d ≤ m ∧ Way n E s q d
  least : ∀ q d, Way n E s q d → d ≤ m → ∃ d', D q = some d' ∧ d' ≤ d
theorem ar_near (h : ArD n E s m M D X) (hm : 0 ≤ m) (hE : EOk n E M) (hX : ∀ y ∈ X, m < y.2) : Near n E s m D := by
  refine ⟨h.core.clo, fun q d hw => ?_⟩
  induction hw with
  | here =>
    intro _
    rcases h.start with e | ⟨e, _⟩
    · exact ⟨0, e, Int.le_refl _⟩
    · have := hX ((s : Int), (0 : Int)) (by rw [e]; simp)
      simp only at this
      omega
  | @on u v d x hw hu hv hx ih =>
    intro hl
    have hx0 := (hE _ _ _ hx).2.2.1
    obtain ⟨d', e, hd⟩ := ih (by omega)
    rcases h.led u v d' x e hx with ⟨d2, a, b⟩ | ⟨y, hy, a, b⟩
    · exact ⟨d2, a, by omega⟩
    · have := hX y hy
      omega
theorem Near.eq {D' : Nat → Option Int} (h : Near n E s m D) (h' : Near n E s m D') : D = D' := by
  funext q
  cases e : D q with
  | none =>
    cases e' : D' q with
    | none => rfl
    | some d =>
      obtain ⟨_, _, a, b⟩ := h'.way q d e'
      obtain ⟨d2, c, _⟩ := h.least q d b a
      rw [e] at c
      cases c
  | some d =>
    obtain ⟨_, _, a, b⟩ := h.way q d e
    obtain ⟨d2, c, hc⟩ := h'.least q d b a
    obtain ⟨_, _, a2, b2⟩ := h'.way q d2 c
    obtain ⟨d3, c3, hc3⟩ := h.least q d2 b2 a2
    rw [e] at c3
    cases c3
    rw [c]
    congr 1
    omega
end
end Go.Proofs.YtojkdmkeankcgaaGreat
/-  Plain: the places that are there, rising. -/
namespace Go.Proofs.YtojkdmkeankcgaaGreat

def nI (L : List Nat) : List Int := L.map Int.ofNat
theorem nI_app (L M : List Nat) : nI (L ++ M) = nI L ++ nI M := by simp [nI]
theorem nI_len (L : List Nat) : (nI L).length = L.length := by simp [nI]
theorem nI_get (L : List Nat) (k : Nat) (h : k < L.length) : (nI L)[k]! = ((L[k]! : Nat) : Int) := by
  rw [getElem!_pos (nI L) k (by rw [nI_len]; exact h), getElem!_pos L k h]
  simp [nI]
/-- The places at which F holds something, rising. -/
def risL {α : Type} (n : Nat) (F : Nat → Option α) : List Nat := (List.range n).filter fun q => (F q).isSome
section
variable {α : Type} {n : Nat} {F : Nat → Option α}
theorem mem_risL {q : Nat} : q ∈ risL n F ↔ q < n ∧ (F q).isSome = true := by unfold risL; rw [List.mem_filter, List.mem_range]
theorem risL_nodup (n : Nat) (F : Nat → Option α) : (risL n F).Nodup := List.Pairwise.filter _ List.nodup_range
theorem risL_lt (n : Nat) (F : Nat → Option α) : (risL n F).Pairwise (· < ·) := List.Pairwise.filter _ List.pairwise_lt_range
theorem risL_len (n : Nat) (F : Nat → Option α) : (risL n F).length = num F n := by
  induction n with
  | zero => rfl
  | succ n ih =>
    unfold risL at ih ⊢
    rw [List.range_succ, List.filter_append, List.length_append, ih, num]
    cases h : (F n).isSome <;> simp [h]
theorem risL_same {β : Type} {G : Nat → Option β} (h : ∀ q, q < n → (F q).isSome = (G q).isSome) : risL n F = risL n G := by
  unfold risL
  exact List.filter_congr fun q hq => h q (List.mem_range.1 hq)
/-- Whatever order the keys came in: sorted they are these. -/
theorem sort_risL {L : List Nat} (hn : L.Nodup) (hm : ∀ q, q ∈ L ↔ q < n ∧ (F q).isSome = true) : (nI L).mergeSort (fun x y => decide (x ≤ y)) = nI (risL n F) := by
  have hp : L.Perm (risL n F) := (List.perm_ext_iff_of_nodup hn (risL_nodup n F)).2 fun q => by rw [hm, mem_risL]
  have h1 : ((nI L).mergeSort (fun x y => decide (x ≤ y))).Perm (nI (risL n F)) := (List.mergeSort_perm _ _).trans (hp.map _)
  refine List.Perm.eq_of_pairwise (le := fun a b : Int => a ≤ b) (fun a b _ _ h1 h2 => Int.le_antisymm h1 h2) ?_ ?_ h1
  · have := List.pairwise_mergeSort (le := fun x y : Int => decide (x ≤ y)) (fun a b c h1 h2 => by simp only [decide_eq_true_eq] at *; omega) (fun a b => by simp only [Bool.or_eq_true, decide_eq_true_eq]; omega) (nI L)
    exact this.imp fun h => of_decide_eq_true h
  · unfold nI
    rw [List.pairwise_map]
    exact (risL_lt n F).imp fun h => by show (Int.ofNat _) ≤ Int.ofNat _; simp only [Int.ofNat_eq_natCast]; omega
end
end Go.Proofs.YtojkdmkeankcgaaGreat
