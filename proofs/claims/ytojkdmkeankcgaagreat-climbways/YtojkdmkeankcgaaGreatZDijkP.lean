/-
  Plain: the search from one place: which places are closed, which open, and the places ahead.
-/
import Derived.Test.YtojkdmkeankcgaaGreatLeastP
import Derived.Test.YtojkdmkeankcgaaGreatZQb
namespace Go.Proofs.YtojkdmkeankcgaaGreat
open Qu (Pr lt items Dis repl dropM putM Least look_none look_some dis_put dis_drop)

def upd {α : Type} (f : Nat → α) (a : Nat) (x : α) : Nat → α := fun b => if b = a then x else f b
theorem upd_same {α : Type} (f : Nat → α) (a : Nat) (x : α) : upd f a x a = x := if_pos rfl
theorem upd_other {α : Type} (f : Nat → α) {a b : Nat} (x : α) (h : b ≠ a) : upd f a x b = f b := if_neg h
/-- So many of the first n places are closed. -/
def cnt (D : Nat → Option Int) : Nat → Nat
  | 0 => 0
  | n + 1 => cnt D n + (if (D n).isSome then 1 else 0)
theorem cnt_le (D : Nat → Option Int) : ∀ n, cnt D n ≤ n
  | 0 => Nat.le_refl _
  | n + 1 => by have := cnt_le D n; rw [cnt]; split <;> omega
theorem cnt_far (D : Nat → Option Int) (v : Nat) (k : Int) : ∀ n, n ≤ v → cnt (upd D v (some k)) n = cnt D n
  | 0, _ => rfl
  | n + 1, h => by rw [cnt, cnt, cnt_far D v k n (by omega), upd_other _ _ (by omega)]
theorem cnt_more (D : Nat → Option Int) (v : Nat) (k : Int) (hv : D v = none) : ∀ n, v < n → cnt (upd D v (some k)) n = cnt D n + 1
  | 0, h => by omega
  | n + 1, h => by
    rw [cnt, cnt]
    by_cases e : n = v
    · subst e
      rw [cnt_far D n k n (Nat.le_refl _), upd_same, hv]
      rfl
    · rw [cnt_more D v k hv n (by omega), upd_other _ _ e]
      omega
/-- Where an open place's key comes from. -/
def From1 (W : Nat → Nat → Option Int) (s : Nat) (D : Nat → Option Int) (A : Nat → Int) (v : Nat) (k : Int) : Prop :=
  (v = s ∧ A v = -1 ∧ k = 0) ∨ (v ≠ s ∧ ∃ u d x, D u = some d ∧ W u v = some x ∧ k = d + x ∧ A v = (u : Int))
/-- What is so of all closed and open places, whether or not edges lead on. -/
structure Core (n : Nat) (W : Nat → Nat → Option Int) (s : Nat) (D : Nat → Option Int) (X : List Pr) (A : Nat → Int) (rk : Nat → Nat) : Prop where
  dis : Dis X
  clo : ∀ v d, D v = some d → v < n ∧ 0 ≤ d ∧ d + 1000000 ≤ 1000000 * (cnt D n : Int) ∧ Way n W s v d ∧ rk v < cnt D n
  opn : ∀ y ∈ X, ∃ v : Nat, v < n ∧ y.1 = (v : Int) ∧ D v = none ∧ Way n W s v y.2 ∧ 0 ≤ y.2 ∧ y.2 ≤ 1000000 * (cnt D n : Int) ∧ (∀ u d, D u = some d → d ≤ y.2) ∧ From1 W s D A v y.2
  ahd : ∀ v d, D v = some d → (v = s ∧ A v = -1 ∧ d = 0) ∨ (v ≠ s ∧ ∃ u du x, D u = some du ∧ W u v = some x ∧ d = du + x ∧ A v = (u : Int) ∧ rk u < rk v)
  non : ∀ v, v < n → D v = none → (∀ y ∈ X, y.1 ≠ (v : Int)) → A v = -1
/-- The edge from u (closed at d) to v: v is closed, or open, and no farther than by it. -/
def Led (D : Nat → Option Int) (X : List Pr) (v : Nat) (k : Int) : Prop := (∃ d', D v = some d' ∧ d' ≤ k) ∨ ∃ y ∈ X, y.1 = (v : Int) ∧ y.2 ≤ k
/-- Between two rounds. -/
structure Dj (n : Nat) (W : Nat → Nat → Option Int) (s : Nat) (D : Nat → Option Int) (X : List Pr) (A : Nat → Int) (rk : Nat → Nat) : Prop where
  core : Core n W s D X A rk
  led : ∀ u v d x, u < n → v < n → D u = some d → W u v = some x → Led D X v (d + x)
  start : D s = some 0 ∨ (X = [((s : Int), (0 : Int))] ∧ ∀ v, D v = none)
/-- p is closed at k, and its first c edges have led on. -/
structure Mid (n : Nat) (W : Nat → Nat → Option Int) (s : Nat) (D : Nat → Option Int) (X : List Pr) (A : Nat → Int) (rk : Nat → Nat) (p : Nat) (k : Int) (c : Nat) : Prop where
  core : Core n W s D X A rk
  hp : D p = some k
  top : ∀ u d, D u = some d → d ≤ k
  low : ∀ y ∈ X, k ≤ y.2
  led : ∀ u v d x, u < n → v < n → u ≠ p → D u = some d → W u v = some x → Led D X v (d + x)
  mine : ∀ e ∈ (rowM n W p).take c, Led D X e.1.toNat (k + e.2)
  start : D s = some 0
theorem dj_zero {n s : Nat} (W : Nat → Nat → Option Int) (hs : s < n) : Dj n W s (fun _ => none) [((s : Int), (0 : Int))] (fun _ => -1) (fun _ => 0) := by
  refine ⟨⟨by simp [Dis, items], fun v d h => (by cases h), fun y hy => ?_, fun v d h => (by cases h), fun _ _ _ _ => rfl⟩, fun u v d x _ _ h => (by cases h), .inr ⟨rfl, fun _ => rfl⟩⟩
  simp at hy
  subst hy
  exact ⟨s, hs, rfl, rfl, .here, by simp, by simp; omega, fun u d h => (by cases h), .inl ⟨rfl, rfl, rfl⟩⟩
section
variable {n s : Nat} {W : Nat → Nat → Option Int} {D : Nat → Option Int} {X : List Pr} {A : Nat → Int} {rk : Nat → Nat}
theorem mem_drop {y : Pr} {x : Int} : y ∈ dropM X x ↔ y ∈ X ∧ y.1 ≠ x := by unfold dropM; rw [List.mem_filter]; simp
/-- The least open place is closed. -/
theorem dj_take (h : Dj n W s D X A rk) {q : Pr} (hq : Least X q) : ∃ p : Nat, p < n ∧ q.1 = (p : Int) ∧ D p = none ∧ Mid n W s (upd D p (some q.2)) (dropM X q.1) A (upd rk p (cnt D n)) p q.2 0 ∧ cnt (upd D p (some q.2)) n = cnt D n + 1 := by
  obtain ⟨p, hp, h1, h2, h3, h4, h5, h6, h7⟩ := h.core.opn q hq.1
  have hc := cnt_more D p q.2 h2 n hp
  have hne : ∀ v d, D v = some d → v ≠ p := fun v d hv e => by subst e; rw [h2] at hv; cases hv
  have up : ∀ v d, D v = some d → upd D p (some q.2) v = some d := fun v d hv => by rw [upd_other _ _ (hne v d hv)]; exact hv
  have low : ∀ y ∈ X, q.2 ≤ y.2 := fun y hy => by have := of_decide_eq_false (hq.2 y hy); omega
  refine ⟨p, hp, h1, h2, ⟨⟨dis_drop h.core.dis _, fun v d hv => ?_, fun y hy => ?_, fun v d hv => ?_, fun v hv hn hy => ?_⟩, upd_same _ _ _, fun u d hu => ?_, fun y hy => low y (mem_drop.1 hy).1, fun u v d x hu hv hup hd hx => ?_, fun e he => by simp at he, ?_⟩, hc⟩
  · by_cases e : v = p
    · subst e
      rw [upd_same] at hv ⊢
      cases hv
      exact ⟨hp, h4, by rw [hc]; push_cast; omega, h3, by omega⟩
    · rw [upd_other _ _ e] at hv ⊢
      obtain ⟨a, b, c, d1, f⟩ := h.core.clo v d hv
      exact ⟨a, b, by rw [hc]; push_cast; omega, d1, by omega⟩
  · obtain ⟨hy1, hy2⟩ := mem_drop.1 hy
    obtain ⟨v, a, b, c, d1, e, f, g, k⟩ := h.core.opn y hy1
    have hvp : v ≠ p := fun e => hy2 (by rw [b, h1, e])
    refine ⟨v, a, b, by rw [upd_other _ _ hvp]; exact c, d1, e, by rw [hc]; push_cast; omega, fun u d hu => ?_, ?_⟩
    · by_cases e2 : u = p
      · subst e2; rw [upd_same] at hu; cases hu; exact low y hy1
      · rw [upd_other _ _ e2] at hu; exact g u d hu
    · rcases k with k | ⟨k0, u, d, x, k1, k2, k3, k4⟩
      · exact .inl k
      · exact .inr ⟨k0, u, d, x, up u d k1, k2, k3, k4⟩
  · by_cases e : v = p
    · subst e
      rw [upd_same] at hv
      cases hv
      rcases h7 with k | ⟨k0, u, d, x, k1, k2, k3, k4⟩
      · exact .inl k
      · refine .inr ⟨k0, u, d, x, up u d k1, k2, k3, k4, ?_⟩
        rw [upd_same, upd_other _ _ (hne u d k1)]
        exact (h.core.clo u d k1).2.2.2.2
    · rw [upd_other _ _ e] at hv
      rcases h.core.ahd v d hv with k | ⟨k0, u, du, x, k1, k2, k3, k4, k5⟩
      · exact .inl k
      · refine .inr ⟨k0, u, du, x, up u du k1, k2, k3, k4, ?_⟩
        rw [upd_other _ _ e, upd_other _ _ (hne u du k1)]
        exact k5
  · have e : v ≠ p := fun e => by subst e; rw [upd_same] at hn; cases hn
    rw [upd_other _ _ e] at hn
    exact h.core.non v hv hn (fun y hy2 e2 => hy y (mem_drop.2 ⟨hy2, by rw [e2, h1]; omega⟩) e2)
  · by_cases e2 : u = p
    · subst e2; rw [upd_same] at hu; cases hu; exact Int.le_refl _
    · rw [upd_other _ _ e2] at hu; exact h6 u d hu
  · rw [upd_other _ _ hup] at hd
    rcases h.led u v d x hu hv hd hx with ⟨d', k1, k2⟩ | ⟨y, k1, k2, k3⟩
    · exact .inl ⟨d', up v d' k1, k2⟩
    · by_cases e : y.1 = q.1
      · have := h.core.dis.inj k1 hq.1 e
        subst this
        have hv2 : v = p := by omega
        subst hv2
        exact .inl ⟨y.2, upd_same _ _ _, k3⟩
      · exact .inr ⟨y, mem_drop.2 ⟨k1, e⟩, k2, k3⟩
  · rcases h.start with k | ⟨k1, k2⟩
    · exact up s 0 k
    · have hq1 := hq.1
      rw [k1] at hq1
      simp at hq1
      subst hq1
      have : s = p := by simp at h1; omega
      subst this
      exact upd_same _ _ _
theorem mem_put {v k : Int} {y : Pr} (hl : X.length < 4096) (hy : y ∈ (putM X v k).1) : (y ∈ X ∧ (y.1 = v → (putM X v k).2 = false)) ∨ (y = (v, k) ∧ (putM X v k).2 = true) := by
  unfold putM at hy ⊢
  cases hk : Qu.look X v with
  | none =>
    rw [hk] at hy
    dsimp only at hy ⊢
    rw [if_pos hl] at hy ⊢
    rcases List.mem_append.1 hy with h | h
    · exact .inl ⟨h, fun e => absurd e (look_none.1 hk y h)⟩
    · exact .inr ⟨by simpa using h, rfl⟩
  | some q =>
    rw [hk] at hy
    dsimp only at hy ⊢
    by_cases hlt : k < q.2
    · rw [if_pos hlt] at hy ⊢
      obtain ⟨z, hz, e⟩ := List.mem_map.1 hy
      unfold repl at e
      by_cases hz1 : z.1 = v
      · rw [if_pos hz1] at e
        exact .inr ⟨e.symm, rfl⟩
      · rw [if_neg hz1] at e
        subst e
        exact .inl ⟨hz, fun e => absurd e hz1⟩
    · rw [if_neg hlt] at hy ⊢
      exact .inl ⟨hy, fun e => rfl⟩
theorem put_has {v k : Int} (hd : Dis X) (hl : X.length < 4096) : ∃ y ∈ (putM X v k).1, y.1 = v ∧ y.2 ≤ k := by
  unfold putM
  cases hk : Qu.look X v with
  | none => dsimp only; rw [if_pos hl]; exact ⟨(v, k), by simp, rfl, Int.le_refl _⟩
  | some q =>
    dsimp only
    have hq := (look_some hd).1 hk
    by_cases hlt : k < q.2
    · rw [if_pos hlt]
      exact ⟨(v, k), List.mem_map.2 ⟨q, hq.1, by unfold repl; rw [if_pos hq.2]⟩, rfl, Int.le_refl _⟩
    · rw [if_neg hlt]
      exact ⟨q, hq.1, hq.2, by omega⟩
theorem put_keeps {v k : Int} (hd : Dis X) (hl : X.length < 4096) {y : Pr} (hy : y ∈ X) : ∃ z ∈ (putM X v k).1, z.1 = y.1 ∧ z.2 ≤ y.2 := by
  unfold putM
  cases hk : Qu.look X v with
  | none => dsimp only; rw [if_pos hl]; exact ⟨y, by simp [hy], rfl, Int.le_refl _⟩
  | some q =>
    dsimp only
    by_cases hlt : k < q.2
    · rw [if_pos hlt]
      by_cases hz1 : y.1 = v
      · refine ⟨(v, k), List.mem_map.2 ⟨y, hy, by unfold repl; rw [if_pos hz1]⟩, hz1.symm, ?_⟩
        have hq := (look_some hd).1 hk
        have := hd.inj hy hq.1 (hz1.trans hq.2.symm)
        subst this
        show k ≤ y.2
        omega
      · exact ⟨y, List.mem_map.2 ⟨y, hy, by unfold repl; rw [if_neg hz1]⟩, rfl, Int.le_refl _⟩
    · rw [if_neg hlt]
      exact ⟨y, hy, rfl, Int.le_refl _⟩
theorem nodup_len : ∀ (n : Nat) (l : List Int), l.Nodup → (∀ x ∈ l, 0 ≤ x ∧ x < (n : Int)) → l.length ≤ n
  | 0, l, _, h => by
    cases l with
    | nil => simp
    | cons a r => have := h a (by simp); omega
  | n + 1, l, hd, h => by
    have h1 := nodup_len n (l.erase (n : Int)) (hd.erase _) (fun x hx => by
      obtain ⟨a, b⟩ := hd.mem_erase_iff.1 hx
      have := h x b
      omega)
    have h2 := List.length_erase (a := (n : Int)) (l := l)
    split at h2 <;> omega
theorem Core.len (h : Core n W s D X A rk) : X.length ≤ n := by
  have := nodup_len n (items X) h.dis (fun x hx => by
    obtain ⟨y, hy, rfl⟩ := List.mem_map.1 hx
    obtain ⟨v, a, b, _⟩ := h.opn y hy
    omega)
  simpa [items] using this
theorem Led.put {v k : Int} {c : Nat} {e : Int} (hd : Dis X) (hl : X.length < 4096) (h : Led D X c e) : Led D (putM X v k).1 c e := by
  rcases h with h | ⟨y, h1, h2, h3⟩
  · exact .inl h
  · obtain ⟨z, z1, z2, z3⟩ := put_keeps (v := v) (k := k) hd hl h1
    exact .inr ⟨z, z1, by omega, by omega⟩
theorem take_mem {R : List (Int × Int)} {c : Nat} {e : Int × Int} (hc : c < R.length) (h : e ∈ R.take (c + 1)) : e ∈ R.take c ∨ e = R[c]! := by
  rw [List.take_succ_eq_append_getElem hc] at h
  rcases List.mem_append.1 h with h | h
  · exact .inl h
  · right; rw [getElem!_pos R c hc]; simpa using h
variable {p c : Nat} {k : Int}
/-- An edge to a closed place. -/
theorem mid_skip (h : Mid n W s D X A rk p k c) (hW : WOk n W) (hp : p < n) (hc : c < (rowM n W p).length) {d : Int} (hd : D (rowM n W p)[c]!.1.toNat = some d) : Mid n W s D X A rk p k (c + 1) := by
  refine ⟨h.core, h.hp, h.top, h.low, h.led, fun e he => ?_, h.start⟩
  rcases take_mem hc he with he | rfl
  · exact h.mine e he
  · have hm : (rowM n W p)[c]! ∈ rowM n W p := by rw [getElem!_pos _ c hc]; exact List.getElem_mem _
    obtain ⟨q, x, hq, hx, e⟩ := mem_rowM.1 hm
    have := (hW p q x hp hq hx).1
    have h2 := h.top _ _ hd
    rw [e] at hd ⊢
    exact .inl ⟨d, hd, by simp; omega⟩
/-- An edge to a place that isn't closed. -/
theorem mid_put (h : Mid n W s D X A rk p k c) (hn : n ≤ 32) (hW : WOk n W) (hp : p < n) (hc : c < (rowM n W p).length) {v : Nat} {x : Int} (hr : (rowM n W p)[c]! = ((v : Int), x)) (hd : D v = none) :
    Mid n W s D (putM X v (k + x)).1 (if (putM X v (k + x)).2 then upd A v (p : Int) else A) rk p k (c + 1) := by
  have hm : (rowM n W p)[c]! ∈ rowM n W p := by rw [getElem!_pos _ c hc]; exact List.getElem_mem _
  rw [hr] at hm
  obtain ⟨q, x', hq, hx, e⟩ := mem_rowM.1 hm
  obtain ⟨rfl, rfl⟩ : v = q ∧ x = x' := by simp at e; omega
  have hl : X.length < 4096 := by have := h.core.len; omega
  have hx0 := hW p v x hp hq hx
  have hcp := h.core.clo p k h.hp
  have hvs : v ≠ s := fun e => by subst e; rw [h.start] at hd; cases hd
  have hA : ∀ u, u ≠ v → (if (putM X v (k + x)).2 then upd A v (p : Int) else A) u = A u := fun u hu => by
    split
    · exact upd_other _ _ hu
    · rfl
  have hAc : ∀ u d, D u = some d → (if (putM X v (k + x)).2 then upd A v (p : Int) else A) u = A u := fun u d hu => hA u (fun e => by subst e; rw [hd] at hu; cases hu)
  refine ⟨⟨dis_put h.core.dis _ _, h.core.clo, fun y hy => ?_, fun u d hu => by rw [hAc u d hu]; exact h.core.ahd u d hu, fun u hu hn2 hy => ?_⟩, h.hp, h.top, fun y hy => ?_, fun u w d z hu hw hup h1 h2 => (h.led u w d z hu hw hup h1 h2).put h.core.dis hl, fun e he => ?_, h.start⟩
  · rcases mem_put hl hy with ⟨h1, h2⟩ | ⟨rfl, h2⟩
    · obtain ⟨u, a, b, c1, d1, e1, f, g, k1⟩ := h.core.opn y h1
      refine ⟨u, a, b, c1, d1, e1, f, g, ?_⟩
      by_cases huv : u = v
      · subst huv
        rw [h2 b]
        exact k1
      · unfold From1 at k1 ⊢
        rw [hA u huv]
        exact k1
    · refine ⟨v, hq, rfl, hd, hcp.2.2.2.1.on hp hq hx, by show 0 ≤ k + x; omega, by show k + x ≤ _; omega, fun u d hu => by have := h.top u d hu; show d ≤ k + x; omega, ?_⟩
      rw [h2]
      exact .inr ⟨hvs, p, k, x, h.hp, hx, rfl, upd_same _ _ _⟩
  · have huv : u ≠ v := fun e => by
      subst e
      obtain ⟨y, h1, h2, _⟩ := put_has (X := X) (v := (u : Int)) (k := k + x) h.core.dis hl
      exact hy y h1 h2
    rw [hA u huv]
    refine h.core.non u hu hn2 (fun y h1 h2 => ?_)
    obtain ⟨z, z1, z2, _⟩ := put_keeps (v := (v : Int)) (k := k + x) h.core.dis hl h1
    exact hy z z1 (by omega)
  · rcases mem_put hl hy with ⟨h1, _⟩ | ⟨rfl, _⟩
    · exact h.low y h1
    · show k ≤ k + x; omega
  · rcases take_mem hc he with he | rfl
    · exact (h.mine e he).put h.core.dis hl
    · rw [hr]
      obtain ⟨y, h1, h2, h3⟩ := put_has (X := X) (v := (v : Int)) (k := k + x) h.core.dis hl
      exact .inr ⟨y, h1, by simpa using h2, h3⟩
theorem mid_end (h : Mid n W s D X A rk p k (rowM n W p).length) : Dj n W s D X A rk := by
  refine ⟨h.core, fun u v d x hu hv hd hx => ?_, .inl h.start⟩
  by_cases e : u = p
  · subst e
    rw [h.hp] at hd
    cases hd
    have := h.mine ((v : Int), x) (by rw [List.take_length]; exact mem_rowM.2 ⟨v, x, hv, hx, rfl⟩)
    simpa using this
  · exact h.led u v d x hu hv e hd hx
/-- The places ahead lead back to s. -/
structure Back (n : Nat) (W : Nat → Nat → Option Int) (s : Nat) (D : Nat → Option Int) (A : Nat → Int) (rk : Nat → Nat) : Prop where
  none : ∀ v, v < n → D v = none → A v = -1
  first : A s = -1
  ahead : ∀ v d, v < n → D v = some d → v ≠ s → ∃ u du x, u < n ∧ D u = some du ∧ W u v = some x ∧ d = du + x ∧ A v = (u : Int) ∧ rk u < rk v
  rank : ∀ v d, v < n → D v = some d → rk v < n
  pos : ∀ v d, D v = some d → 0 ≤ d ∧ d ≤ 32000000
theorem dj_end (h : Dj n W s D [] A rk) (hn : n ≤ 32) : IsLeast n W s D ∧ Back n W s D A rk := by
  have hs : D s = some 0 := by
    rcases h.start with k | ⟨k, _⟩
    · exact k
    · cases k
  have hc := cnt_le D n
  refine ⟨⟨hs, fun q d _ hd => (h.core.clo q d hd).2.2.2.1, fun u v d x hu hv hd hx => ?_⟩, fun v hv hn => h.core.non v hv hn (fun y hy => by simp at hy), ?_, fun v d hv hd hvs => ?_, fun v d _ hd => ?_, fun v d hd => ?_⟩
  · rcases h.led u v d x hu hv hd hx with k | ⟨y, hy, _⟩
    · exact k
    · simp at hy
  · rcases h.core.ahd s 0 hs with k | ⟨k, _⟩
    · exact k.2.1
    · exact absurd rfl k
  · rcases h.core.ahd v d hd with k | ⟨_, u, du, x, k1, k2, k3, k4, k5⟩
    · exact absurd k.1 hvs
    · exact ⟨u, du, x, (h.core.clo u du k1).1, k1, k2, k3, k4, k5⟩
  · have := (h.core.clo v d hd).2.2.2.2; omega
  · have := h.core.clo v d hd; omega
end
end Go.Proofs.YtojkdmkeankcgaaGreat
