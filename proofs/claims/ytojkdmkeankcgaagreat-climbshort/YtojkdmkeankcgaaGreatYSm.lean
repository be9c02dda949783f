/-
  Several texts in one.
-/
import Derived.Test.YtojkdmkeankcgaaGreatYLe
import Derived.Test.YtojkdmkeankcgaaGreatYLk
import Derived.Test.YtojkdmkeankcgaaGreatYLm
import Derived.Test.YtojkdmkeankcgaaGreatSearch
import Derived.Test.YtojkdmkeankcgaaGreatYCl
import Derived.Test.YtojkdmkeankcgaaGreatYRs
/-  Plain: one side of a search in a lifted graph: which places are closed, which open, and the links ahead. -/
namespace Go.Proofs.YtojkdmkeankcgaaGreat
open Qu (Pr lt items Dis repl dropM putM Least look_none look_some dis_put dis_drop)

/-- A link by its lower and its upper end. -/
def mkL (up : Bool) (p q : Nat) (k : Lk) : Lnk := if up then (p, q, k) else (q, p, k)
def uppr (up : Bool) (k : Lnk) : Nat := if up then k.2.1 else k.1
def lowr (up : Bool) (k : Lnk) : Nat := if up then k.1 else k.2.1
theorem uppr_mk (up : Bool) (p q : Nat) (k : Lk) : uppr up (mkL up p q k) = q := by cases up <;> rfl
theorem lowr_mk (up : Bool) (p q : Nat) (k : Lk) : lowr up (mkL up p q k) = p := by cases up <;> rfl
theorem wt_mk (up : Bool) (p q : Nat) (k : Lk) : (mkL up p q k).2.2 = k := by cases up <;> rfl
/-- The links by which a side climbs from a place, rising by their upper ends. -/
def rowS (up : Bool) (n : Nat) (E : Mx) (p : Nat) : List Lnk := (List.range n).filterMap fun q => (E p q).map (mkL up p q)
theorem mem_rowS {up : Bool} {n : Nat} {E : Mx} {p : Nat} {k : Lnk} : k ∈ rowS up n E p ↔ ∃ q x, q < n ∧ E p q = some x ∧ k = mkL up p q x := by
  unfold rowS
  rw [List.mem_filterMap]
  constructor
  · rintro ⟨q, hq, h⟩
    rw [List.mem_range] at hq
    cases e : E p q with
    | none => rw [e] at h; cases h
    | some x => rw [e] at h; simp at h; exact ⟨q, x, hq, e, h.symm⟩
  · rintro ⟨q, x, hq, e, h⟩
    exact ⟨q, List.mem_range.2 hq, by rw [e]; simp [h]⟩
theorem rowS_len (up : Bool) (n : Nat) (E : Mx) (p : Nat) : (rowS up n E p).length ≤ n := by
  unfold rowS
  exact Nat.le_trans (List.length_filterMap_le _ _) (by simp)
/-- Links lead up, and no way up is heavier than the height tells. -/
structure EOk8 (n : Nat) (E : Mx) (φ : Nat → Int) (ρ : Nat → Nat) : Prop where
  e : ∀ a b x m, E a b = some (x, m) → a < n ∧ b < n ∧ 0 ≤ x ∧ x + φ a ≤ φ b ∧ ρ a < ρ b
  f : ∀ a, a < n → 0 ≤ φ a ∧ φ a ≤ 4294967296000000
theorem EOk8.way {n s : Nat} {E : Mx} {φ : Nat → Int} {ρ : Nat → Nat} (h : EOk8 n E φ ρ) {v : Nat} {d : Int} (w : Way n (wtM E) s v d) : 0 ≤ d ∧ d + φ s ≤ φ v := by
  induction w with
  | here => omega
  | on w hu hv hx ih =>
    obtain ⟨m, e⟩ := wtM_some.1 hx
    have := h.e _ _ _ m e
    omega
theorem EOk8.lid {n s : Nat} {E : Mx} {φ : Nat → Int} {ρ : Nat → Nat} (h : EOk8 n E φ ρ) {v : Nat} {d : Int} (w : Way n (wtM E) s v d) (hs : s < n) (hv : v < n) : 0 ≤ d ∧ d ≤ 4294967296000000 := by
  have h1 := h.way w
  have h2 := h.f s hs
  have h3 := h.f v hv
  omega
def From8 (up : Bool) (E : Mx) (s : Nat) (D : Nat → Option Int) (A : Nat → Lnk) (v : Nat) (k : Int) : Prop :=
  (v = s ∧ k = 0) ∨ (v ≠ s ∧ ∃ u d x, D u = some d ∧ E u v = some x ∧ k = d + x.1 ∧ A v = mkL up u v x)
structure Core8 (n : Nat) (up : Bool) (E : Mx) (s : Nat) (D : Nat → Option Int) (X : List Pr) (A : Nat → Lnk) : Prop where
  dis : Dis X
  clo : ∀ v d, D v = some d → v < n ∧ Way n (wtM E) s v d
  opn : ∀ y ∈ X, ∃ v : Nat, v < n ∧ y.1 = (v : Int) ∧ D v = none ∧ Way n (wtM E) s v y.2 ∧ (∀ u d, D u = some d → d ≤ y.2) ∧ From8 up E s D A v y.2
  ahd : ∀ v d, D v = some d → From8 up E s D A v d
structure Sd (n : Nat) (up : Bool) (E : Mx) (s : Nat) (D : Nat → Option Int) (X : List Pr) (A : Nat → Lnk) : Prop where
  core : Core8 n up E s D X A
  led : ∀ u v d x, u < n → v < n → D u = some d → wtM E u v = some x → Led D X v (d + x)
  start : D s = some 0 ∨ (X = [((s : Int), (0 : Int))] ∧ ∀ v, D v = none)
structure Md8 (n : Nat) (up : Bool) (E : Mx) (s : Nat) (D : Nat → Option Int) (X : List Pr) (A : Nat → Lnk) (p : Nat) (k : Int) (c : Nat) : Prop where
  core : Core8 n up E s D X A
  hp : D p = some k
  top : ∀ u d, D u = some d → d ≤ k
  low : ∀ y ∈ X, k ≤ y.2
  led : ∀ u v d x, u < n → v < n → u ≠ p → D u = some d → wtM E u v = some x → Led D X v (d + x)
  mine : ∀ e ∈ (rowS up n E p).take c, Led D X (uppr up e) (k + e.2.2.1)
  start : D s = some 0
theorem sd_zero {n s : Nat} (up : Bool) (E : Mx) (hs : s < n) : Sd n up E s (fun _ => none) [((s : Int), (0 : Int))] (fun _ => (0, 0, 0, 0)) := by
  refine ⟨⟨by simp [Dis, items], fun v d h => (by cases h), fun y hy => ?_, fun v d h => (by cases h)⟩, fun u v d x _ _ h => (by cases h), .inr ⟨rfl, fun _ => rfl⟩⟩
  simp at hy
  subst hy
  exact ⟨s, hs, rfl, rfl, .here, fun u d h => (by cases h), .inl ⟨rfl, rfl⟩⟩
section
variable {n s : Nat} {up : Bool} {E : Mx} {D : Nat → Option Int} {X : List Pr} {A : Nat → Lnk} {φ : Nat → Int} {ρ : Nat → Nat}
theorem From8.more {D' : Nat → Option Int} {v : Nat} {k : Int} (hD : ∀ u d, D u = some d → D' u = some d) (h : From8 up E s D A v k) : From8 up E s D' A v k := by
  rcases h with k | ⟨k0, u, d, x, k1, k2, k3, k4⟩
  · exact .inl k
  · exact .inr ⟨k0, u, d, x, hD u d k1, k2, k3, k4⟩
theorem sd_take (h : Sd n up E s D X A) {q : Pr} (hq : Least X q) : ∃ p : Nat, p < n ∧ q.1 = (p : Int) ∧ D p = none ∧ Md8 n up E s (upd D p (some q.2)) (dropM X q.1) A p q.2 0 ∧ cnt (upd D p (some q.2)) n = cnt D n + 1 := by
  obtain ⟨p, hp, h1, h2, h3, h6, h7⟩ := h.core.opn q hq.1
  have hc := cnt_more D p q.2 h2 n hp
  have hne : ∀ v d, D v = some d → v ≠ p := fun v d hv e => by subst e; rw [h2] at hv; cases hv
  have upw : ∀ v d, D v = some d → upd D p (some q.2) v = some d := fun v d hv => by rw [upd_other _ _ (hne v d hv)]; exact hv
  have low : ∀ y ∈ X, q.2 ≤ y.2 := fun y hy => by have := of_decide_eq_false (hq.2 y hy); omega
  refine ⟨p, hp, h1, h2, ⟨⟨dis_drop h.core.dis _, fun v d hv => ?_, fun y hy => ?_, fun v d hv => ?_⟩, upd_same _ _ _, fun u d hu => ?_, fun y hy => low y (mem_drop.1 hy).1, fun u v d x hu hv hup hd hx => ?_, fun e he => by simp at he, ?_⟩, hc⟩
  · by_cases e : v = p
    · subst e
      rw [upd_same] at hv
      cases hv
      exact ⟨hp, h3⟩
    · rw [upd_other _ _ e] at hv
      exact h.core.clo v d hv
  · obtain ⟨hy1, hy2⟩ := mem_drop.1 hy
    obtain ⟨v, a, b, c, d1, g, k⟩ := h.core.opn y hy1
    have hvp : v ≠ p := fun e => hy2 (by rw [b, h1, e])
    refine ⟨v, a, b, by rw [upd_other _ _ hvp]; exact c, d1, fun u d hu => ?_, k.more upw⟩
    by_cases e2 : u = p
    · subst e2; rw [upd_same] at hu; cases hu; exact low y hy1
    · rw [upd_other _ _ e2] at hu; exact g u d hu
  · by_cases e : v = p
    · subst e
      rw [upd_same] at hv
      cases hv
      exact h7.more upw
    · rw [upd_other _ _ e] at hv
      exact (h.core.ahd v d hv).more upw
  · by_cases e2 : u = p
    · subst e2; rw [upd_same] at hu; cases hu; exact Int.le_refl _
    · rw [upd_other _ _ e2] at hu; exact h6 u d hu
  · rw [upd_other _ _ hup] at hd
    rcases h.led u v d x hu hv hd hx with ⟨d', k1, k2⟩ | ⟨y, k1, k2, k3⟩
    · exact .inl ⟨d', upw v d' k1, k2⟩
    · by_cases e : y.1 = q.1
      · have := h.core.dis.inj k1 hq.1 e
        subst this
        have hv2 : v = p := by omega
        subst hv2
        exact .inl ⟨y.2, upd_same _ _ _, k3⟩
      · exact .inr ⟨y, mem_drop.2 ⟨k1, e⟩, k2, k3⟩
  · rcases h.start with k | ⟨k1, k2⟩
    · exact upw s 0 k
    · have hq1 := hq.1
      rw [k1] at hq1
      simp at hq1
      subst hq1
      have : s = p := by simp at h1; omega
      subst this
      exact upd_same _ _ _
theorem Core8.len (h : Core8 n up E s D X A) : X.length ≤ n := by
  have := nodup_len n (items X) h.dis (fun x hx => by
    obtain ⟨y, hy, rfl⟩ := List.mem_map.1 hx
    obtain ⟨v, a, b, _⟩ := h.opn y hy
    omega)
  simpa [items] using this
theorem take_memK {R : List Lnk} {c : Nat} {e : Lnk} (hc : c < R.length) (h : e ∈ R.take (c + 1)) : e ∈ R.take c ∨ e = R[c]! := by
  rw [List.take_succ_eq_append_getElem hc] at h
  rcases List.mem_append.1 h with h | h
  · exact .inl h
  · right; rw [getElem!_pos R c hc]; simpa using h
variable {p c : Nat} {k : Int}
theorem rowS_at (hc : c < (rowS up n E p).length) : ∃ v x, v < n ∧ E p v = some x ∧ (rowS up n E p)[c]! = mkL up p v x :=
  mem_rowS.1 (by rw [getElem!_pos _ c hc]; exact List.getElem_mem _)
theorem md_skip (h : Md8 n up E s D X A p k c) (hE : EOk8 n E φ ρ) (hc : c < (rowS up n E p).length) {v : Nat} {x : Lk} (hx : E p v = some x) (hr : (rowS up n E p)[c]! = mkL up p v x) {d : Int} (hd : D v = some d) : Md8 n up E s D X A p k (c + 1) := by
  refine ⟨h.core, h.hp, h.top, h.low, h.led, fun e he => ?_, h.start⟩
  rcases take_memK hc he with he | rfl
  · exact h.mine e he
  · have := (hE.e p v x.1 x.2 hx).2.2.1
    have h2 := h.top _ _ hd
    rw [hr, uppr_mk, wt_mk]
    exact .inl ⟨d, hd, by omega⟩
theorem md_put (h : Md8 n up E s D X A p k c) (hn : n ≤ 32) (hE : EOk8 n E φ ρ) (hp : p < n) (hc : c < (rowS up n E p).length) {v : Nat} {x : Lk} (hv : v < n) (hx : E p v = some x) (hr : (rowS up n E p)[c]! = mkL up p v x) (hd : D v = none) :
    Md8 n up E s D (putM X v (k + x.1)).1 (if (putM X v (k + x.1)).2 then upd A v (mkL up p v x) else A) p k (c + 1) := by
  have hl : X.length < 4096 := by have := h.core.len; omega
  have hx0 := hE.e p v x.1 x.2 hx
  have hw : wtM E p v = some x.1 := wtM_some.2 ⟨x.2, hx⟩
  have hcp := h.core.clo p k h.hp
  have hvs : v ≠ s := fun e => by subst e; rw [h.start] at hd; cases hd
  have hA : ∀ u, u ≠ v → (if (putM X v (k + x.1)).2 then upd A v (mkL up p v x) else A) u = A u := fun u hu => by
    split
    · exact upd_other _ _ hu
    · rfl
  have hAf : ∀ u z, u ≠ v → From8 up E s D A u z → From8 up E s D (if (putM X v (k + x.1)).2 then upd A v (mkL up p v x) else A) u z := fun u z hu hf => by
    unfold From8 at hf ⊢
    rw [hA u hu]
    exact hf
  refine ⟨⟨dis_put h.core.dis _ _, h.core.clo, fun y hy => ?_, fun u d hu => hAf u d (fun e => by subst e; rw [hd] at hu; cases hu) (h.core.ahd u d hu)⟩, h.hp, h.top, fun y hy => ?_, fun u w d z hu hw hup h1 h2 => (h.led u w d z hu hw hup h1 h2).put h.core.dis hl, fun e he => ?_, h.start⟩
  · rcases mem_put hl hy with ⟨h1, h2⟩ | ⟨rfl, h2⟩
    · obtain ⟨u, a, b, c1, d1, g, k1⟩ := h.core.opn y h1
      refine ⟨u, a, b, c1, d1, g, ?_⟩
      by_cases huv : u = v
      · subst huv
        rw [h2 b]
        exact k1
      · exact hAf u _ huv k1
    · refine ⟨v, hv, rfl, hd, hcp.2.on hp hv hw, fun u d hu => by have := h.top u d hu; show d ≤ k + x.1; omega, ?_⟩
      rw [h2]
      exact .inr ⟨hvs, p, k, x, h.hp, hx, rfl, upd_same _ _ _⟩
  · rcases mem_put hl hy with ⟨h1, _⟩ | ⟨rfl, _⟩
    · exact h.low y h1
    · show k ≤ k + x.1; omega
  · rcases take_memK hc he with he | rfl
    · exact (h.mine e he).put h.core.dis hl
    · rw [hr, uppr_mk, wt_mk]
      obtain ⟨y, h1, h2, h3⟩ := put_has (X := X) (v := (v : Int)) (k := k + x.1) h.core.dis hl
      exact .inr ⟨y, h1, h2, h3⟩
theorem md_end (h : Md8 n up E s D X A p k (rowS up n E p).length) : Sd n up E s D X A := by
  refine ⟨h.core, fun u v d x hu hv hd hx => ?_, .inl h.start⟩
  by_cases e : u = p
  · subst e
    rw [h.hp] at hd
    cases hd
    obtain ⟨m, hm⟩ := wtM_some.1 hx
    have := h.mine (mkL up u v (x, m)) (by rw [List.take_length]; exact mem_rowS.2 ⟨v, _, hv, hm, rfl⟩)
    rw [uppr_mk, wt_mk] at this
    exact this
  · exact h.led u v d x hu hv e hd hx
/-- What a side has come to. -/
structure Side (n : Nat) (up : Bool) (E : Mx) (s : Nat) (D : Nat → Option Int) (A : Nat → Lnk) : Prop where
  least : IsLeast n (wtM E) s D
  lt : ∀ v d, D v = some d → v < n ∧ 0 ≤ d ∧ d ≤ 4294967296000000
  ahead : ∀ v d, D v = some d → v ≠ s → ∃ u d' x, u < n ∧ D u = some d' ∧ E u v = some x ∧ d = d' + x.1 ∧ A v = mkL up u v x
theorem sd_end (h : Sd n up E s D [] A) (hE : EOk8 n E φ ρ) (hs : s < n) : Side n up E s D A := by
  have h0 : D s = some 0 := by
    rcases h.start with k | ⟨k, _⟩
    · exact k
    · cases k
  refine ⟨⟨h0, fun q d _ hd => (h.core.clo q d hd).2, fun u v d x hu hv hd hx => ?_⟩, fun v d hd => ?_, fun v d hd hvs => ?_⟩
  · rcases h.led u v d x hu hv hd hx with k | ⟨y, hy, _⟩
    · exact k
    · simp at hy
  · obtain ⟨h1, h2⟩ := h.core.clo v d hd
    exact ⟨h1, hE.lid h2 hs h1⟩
  · rcases h.core.ahd v d hd with k | ⟨_, u, d', x, k1, k2, k3, k4⟩
    · exact absurd k.1 hvs
    · exact ⟨u, d', x, (h.core.clo u d' k1).1, k1, k2, k3, k4⟩
end
end Go.Proofs.YtojkdmkeankcgaaGreat
/-  One side of a search in memory, and the small functions of climb. -/
namespace Go.Proofs.YtojkdmkeankcgaaGreat
open Go.RowKit Go.Sort

theorem tail_any (a b c d : Int) (w : World) : Calls Tryz.prog 66 #[.agg #[.int .i64 a, .int .i64 b, .int .i64 c, .int .i64 d]] w fun e w' => e = .returned (.int .i64 a) ∧ w' = w.alloc (.cells #[.int .i64 a, .int .i64 b, .int .i64 c, .int .i64 d] 46) := by
  go_enter Tryz.func66, Tryz.ntmps66
  go_wp2
  go_ret
  exact ⟨rfl, rfl⟩
theorem head_any (a b c d : Int) (w : World) : Calls Tryz.prog 67 #[.agg #[.int .i64 a, .int .i64 b, .int .i64 c, .int .i64 d]] w fun e w' => e = .returned (.int .i64 b) ∧ w' = w.alloc (.cells #[.int .i64 a, .int .i64 b, .int .i64 c, .int .i64 d] 46) := by
  go_enter Tryz.func67, Tryz.ntmps67
  go_wp2
  go_ret
  exact ⟨rfl, rfl⟩
def Wt (a : Int) : Prop := 0 ≤ a ∧ a ≤ 9000000000000000
theorem plusC_any (a b : Int) (ha : Wt a) (hb : Wt b) (w : World) : Calls Tryz.prog 40 #[.int .i64 a, .int .i64 b] w fun e w' => e = .returned (.int .i64 (a + b)) ∧ w' = w := by
  unfold Wt at ha hb
  have h1 : IntKind.u64.wrap a = a := by rw [IntKind.wrap_u64]; omega
  have h2 : IntKind.u64.wrap b = b := by rw [IntKind.wrap_u64]; omega
  have h3 : IntKind.u64.wrap (a + b) = a + b := by rw [IntKind.wrap_u64]; omega
  have h4 : IntKind.i64.wrap (a + b) = a + b := by rw [IntKind.wrap_i64]; omega
  have h5 : ¬ (9223372036854775807 : Int) < a + b := by omega
  have h6 : a + b ≤ (9223372036854775807 : Int) := by omega
  have h7 : min (a + b) (9223372036854775807 : Int) = a + b := by omega
  have H7 := hide h7
  clear h7
  go_enter Tryz.func40, Tryz.ntmps40
  go_wp2
  go_ret
  refine ⟨?_, rfl⟩
  show Ending.returned (.int .i64 (min (a + b) 9223372036854775807)) = _
  rw [H7.out]
theorem lighter_any (a b : Int) (w : World) : Calls Tryz.prog 41 #[.int .i64 a, .int .i64 b] w fun e w' => e = .returned (.bool (decide (b < 0 ∨ a < b))) ∧ w' = w := by
  by_cases h : b < 0
  · rw [decide_eq_true (show b < 0 ∨ a < b from .inl h)]
    go_enter Tryz.func41, Tryz.ntmps41
    go_wp2
    go_ret
    exact ⟨rfl, rfl⟩
  · by_cases h2 : a < b
    · rw [decide_eq_true (show b < 0 ∨ a < b from .inr h2)]
      have h3 : decide (b < 0) = false := decide_eq_false h
      go_enter Tryz.func41, Tryz.ntmps41
      go_wp2
      go_ret
      exact ⟨rfl, rfl⟩
    · rw [decide_eq_false (show ¬ (b < 0 ∨ a < b) from fun e => by rcases e with e | e <;> omega)]
      have h3 : decide (b < 0) = false := decide_eq_false h
      have h4 : decide (a < b) = false := decide_eq_false h2
      go_enter Tryz.func41, Tryz.ntmps41
      go_wp2
      go_ret
      exact ⟨rfl, rfl⟩
def bysV (n : Nat) (A : Nat → Lnk) : List Value := flatK ((List.range n).map A)
theorem bysV_len (n : Nat) (A : Nat → Lnk) : (bysV n A).length = n * 4 := by rw [bysV, flatK_len]; simp
theorem bysV_get {n : Nat} (A : Nat → Lnk) {v j : Nat} (hv : v < n) (hj : j < 4) : (bysV n A)[v * 4 + j]? = (lnkC (A v))[j]? := by
  unfold bysV
  rw [flatK_get _ _ _ (by simpa using hv) hj, getElem!_pos _ _ (by simpa using hv)]
  simp
/-- A side in memory: its box, what is closed, the least weights, the links ahead. -/
structure SdAt (B : Nat) (w : World) (sb gc gl gy n : Nat) (lk lo hi : Value) (s : Int) (D : Nat → Option Int) (A : Nat → Lnk) : Prop where
  box : w.heap[sb]? = some (.cells #[lk, lo, hi, .int .i64 s, .slice (some ⟨gc, 0, none⟩) n n, .slice (some ⟨gl, 0, none⟩) n n, .slice (some ⟨gy, 0, none⟩) n n] 90 (0, 0))
  clo : w.heap[gc]? = some (.cells ((List.range n).map fun v => Value.bool (D v).isSome).toArray 4 (0, 0))
  lst : w.heap[gl]? = some (.cells ((List.range n).map fun v => Value.int .i64 ((D v).getD 0)).toArray 3 (0, 0))
  bys : w.heap[gy]? = some (.cells (bysV n A).toArray 46 (0, 0))
  ge : B ≤ sb ∧ B ≤ gc ∧ B ≤ gl ∧ B ≤ gy
section
variable {B sb gc gl gy n : Nat} {w w' : World} {lk lo hi : Value} {s : Int} {D : Nat → Option Int} {A : Nat → Lnk}
theorem SdAt.lts (h : SdAt B w sb gc gl gy n lk lo hi s D A) : sb < w.heap.size ∧ gc < w.heap.size ∧ gl < w.heap.size ∧ gy < w.heap.size :=
  ⟨(Array.getElem?_eq_some_iff.1 h.box).1, (Array.getElem?_eq_some_iff.1 h.clo).1, (Array.getElem?_eq_some_iff.1 h.lst).1, (Array.getElem?_eq_some_iff.1 h.bys).1⟩
theorem SdAt.blocks (h : SdAt B w sb gc gl gy n lk lo hi s D A) (f : ∀ k, k = sb ∨ k = gc ∨ k = gl ∨ k = gy → w'.heap[k]? = w.heap[k]?) : SdAt B w' sb gc gl gy n lk lo hi s D A :=
  ⟨(f _ (.inl rfl)).trans h.box, (f _ (.inr (.inl rfl))).trans h.clo, (f _ (.inr (.inr (.inl rfl)))).trans h.lst, (f _ (.inr (.inr (.inr rfl)))).trans h.bys, h.ge⟩
theorem SdAt.later (h : SdAt B w sb gc gl gy n lk lo hi s D A) (f : Below w.heap.size w w') : SdAt B w' sb gc gl gy n lk lo hi s D A := by
  obtain ⟨l1, l2, l3, l4⟩ := h.lts
  exact h.blocks fun k hk => f.block k (by rcases hk with e | e | e | e <;> omega)
theorem SdAt.drewN (h : SdAt B w sb gc gl gy n lk lo hi s D A) (q : Nat) : SdAt B (w.drewN q) sb gc gl gy n lk lo hi s D A := h.later (Qu.below_drewN (Below.refl _ _) q)
theorem SdAt.nes (h : SdAt B w sb gc gl gy n lk lo hi s D A) : sb ≠ gc ∧ sb ≠ gl ∧ sb ≠ gy ∧ gc ≠ gl ∧ gc ≠ gy ∧ gl ≠ gy := by
  refine ⟨fun e => ?_, fun e => ?_, fun e => ?_, fun e => ?_, fun e => ?_, fun e => ?_⟩
  · have := h.box; rw [e, h.clo] at this; simp at this
  · have := h.box; rw [e, h.lst] at this; simp at this
  · have := h.box; rw [e, h.bys] at this; simp at this
  · have := h.clo; rw [e, h.lst] at this; simp at this
  · have := h.clo; rw [e, h.bys] at this; simp at this
  · have := h.lst; rw [e, h.bys] at this; simp at this
theorem SdAt.c (h : SdAt B w sb gc gl gy n lk lo hi s D A) : w.cell? ⟨sb, 0, none⟩ = some lk ∧ w.cell? ⟨sb, 1, none⟩ = some lo ∧ w.cell? ⟨sb, 2, none⟩ = some hi ∧ w.cell? ⟨sb, 3, none⟩ = some (.int .i64 s) ∧ w.cell? ⟨sb, 4, none⟩ = some (.slice (some ⟨gc, 0, none⟩) n n) ∧ w.cell? ⟨sb, 5, none⟩ = some (.slice (some ⟨gl, 0, none⟩) n n) ∧ w.cell? ⟨sb, 6, none⟩ = some (.slice (some ⟨gy, 0, none⟩) n n) :=
  ⟨by rw [cell_of_row _ sb 0 _ _ _ h.box]; rfl, by rw [cell_of_row _ sb 1 _ _ _ h.box]; rfl, by rw [cell_of_row _ sb 2 _ _ _ h.box]; rfl, by rw [cell_of_row _ sb 3 _ _ _ h.box]; rfl, by rw [cell_of_row _ sb 4 _ _ _ h.box]; rfl, by rw [cell_of_row _ sb 5 _ _ _ h.box]; rfl, by rw [cell_of_row _ sb 6 _ _ _ h.box]; rfl⟩
theorem SdAt.cclo (h : SdAt B w sb gc gl gy n lk lo hi s D A) {v : Nat} (hv : v < n) : w.cell? ⟨gc, v, none⟩ = some (.bool (D v).isSome) := by rw [cell_of_row _ gc v _ _ _ h.clo]; simp [hv]
theorem SdAt.clst (h : SdAt B w sb gc gl gy n lk lo hi s D A) {v : Nat} (hv : v < n) : w.cell? ⟨gl, v, none⟩ = some (.int .i64 ((D v).getD 0)) := by rw [cell_of_row _ gl v _ _ _ h.lst]; simp [hv]
theorem SdAt.cbys (h : SdAt B w sb gc gl gy n lk lo hi s D A) {v : Nat} (hv : v < n) : w.cell? ⟨gy, v * 4, none⟩ = some (.int .i64 (A v).1) ∧ w.cell? ⟨gy, v * 4 + 1, none⟩ = some (.int .i64 (A v).2.1) ∧ w.cell? ⟨gy, v * 4 + 2, none⟩ = some (.int .i64 (A v).2.2.1) ∧ w.cell? ⟨gy, v * 4 + 3, none⟩ = some (.int .i64 (A v).2.2.2) := by
  have f : ∀ j, j < 4 → ∀ u, (lnkC (A v))[j]? = some u → w.cell? ⟨gy, v * 4 + j, none⟩ = some u := fun j hj u hu => by
    rw [cell_of_row _ gy (v * 4 + j) _ _ _ h.bys]
    simp only [List.getElem?_toArray]
    rw [bysV_get A hv hj]
    exact hu
  exact ⟨f 0 (by omega) _ rfl, f 1 (by omega) _ rfl, f 2 (by omega) _ rfl, f 3 (by omega) _ rfl⟩
theorem SdAt.mark (h : SdAt B w sb gc gl gy n lk lo hi s D A) (p : Nat) (k : Int) : SdAt B ((w.setCell ⟨gc, p, none⟩ (.bool true)).setCell ⟨gl, p, none⟩ (.int .i64 k)) sb gc gl gy n lk lo hi s (upd D p (some k)) A := by
  obtain ⟨n1, n2, n3, n4, n5, n6⟩ := h.nes
  have e1 := map_set (fun v => Value.bool (D v).isSome) (fun v => Value.bool (upd D p (some k) v).isSome) n p (fun v hv => by rw [upd_other _ _ hv])
  have e2 := map_set (fun v => Value.int .i64 ((D v).getD 0)) (fun v => Value.int .i64 ((upd D p (some k) v).getD 0)) n p (fun v hv => by rw [upd_other _ _ hv])
  simp only [upd_same, Option.isSome_some, Option.getD_some] at e1 e2
  refine ⟨?_, ?_, ?_, ?_, h.ge⟩
  · rw [heap_setCell_other _ _ _ _ n2, heap_setCell_other _ _ _ _ n1]; exact h.box
  · rw [heap_setCell_other _ _ _ _ n4, heap_setCell_same w gc p _ _ _ h.clo, ← e1]; simp
  · have := heap_setCell_same (w.setCell ⟨gc, p, none⟩ (.bool true)) gl p _ _ (.int .i64 k) (by rw [heap_setCell_other _ _ _ _ n4.symm]; exact h.lst)
    rw [this, ← e2]; simp
  · rw [heap_setCell_other _ _ _ _ n6.symm, heap_setCell_other _ _ _ _ n5.symm]; exact h.bys
/-- A link written over one of the row of links ahead. -/
def putL (w : World) (gy v : Nat) (k : Lnk) : World := (((w.setCell ⟨gy, v * 4, none⟩ (.int .i64 k.1)).setCell ⟨gy, v * 4 + 1, none⟩ (.int .i64 k.2.1)).setCell ⟨gy, v * 4 + 2, none⟩ (.int .i64 k.2.2.1)).setCell ⟨gy, v * 4 + 3, none⟩ (.int .i64 k.2.2.2)
theorem putL_other (w : World) (gy v : Nat) (k : Lnk) {b : Nat} (hb : b ≠ gy) : (putL w gy v k).heap[b]? = w.heap[b]? := by
  unfold putL
  rw [heap_setCell_other _ _ _ _ hb, heap_setCell_other _ _ _ _ hb, heap_setCell_other _ _ _ _ hb, heap_setCell_other _ _ _ _ hb]
theorem putL_size (w : World) (gy v : Nat) (k : Lnk) : (putL w gy v k).heap.size = w.heap.size := by simp [putL, World.setCell]
theorem putL_below {B : Nat} {a w : World} (h : Below B a w) {gy : Nat} (hB : B ≤ gy) (v : Nat) (k : Lnk) : Below B a (putL w gy v k) := (((h.setCell hB _).setCell hB _).setCell hB _).setCell hB _
theorem bysV_set {n : Nat} (A : Nat → Lnk) {v : Nat} (hv : v < n) (k : Lnk) : ((((bysV n A).set (v * 4) (.int .i64 k.1)).set (v * 4 + 1) (.int .i64 k.2.1)).set (v * 4 + 2) (.int .i64 k.2.2.1)).set (v * 4 + 3) (.int .i64 k.2.2.2) = bysV n (upd A v k) := by
  apply List.ext_getElem?
  intro i
  by_cases hi : i < n * 4
  · obtain ⟨u, j, hj, rfl⟩ : ∃ u j, j < 4 ∧ i = u * 4 + j := ⟨i / 4, i % 4, Nat.mod_lt _ (by omega), by omega⟩
    have hu : u < n := by omega
    rw [bysV_get _ hu hj]
    have hl := bysV_len n A
    by_cases e : u = v
    · subst e
      rw [upd_same]
      rcases (show j = 0 ∨ j = 1 ∨ j = 2 ∨ j = 3 by omega) with rfl | rfl | rfl | rfl
      · rw [List.getElem?_set_ne (by omega), List.getElem?_set_ne (by omega), List.getElem?_set_ne (by omega), show u * 4 + 0 = u * 4 from rfl, List.getElem?_set_self (by omega)]; rfl
      · rw [List.getElem?_set_ne (by omega), List.getElem?_set_ne (by omega), List.getElem?_set_self (by simp; omega)]; rfl
      · rw [List.getElem?_set_ne (by omega), List.getElem?_set_self (by simp; omega)]; rfl
      · rw [List.getElem?_set_self (by simp; omega)]; rfl
    · rw [upd_other _ _ e, List.getElem?_set_ne (by omega), List.getElem?_set_ne (by omega), List.getElem?_set_ne (by omega), List.getElem?_set_ne (by omega), bysV_get _ hu hj]
  · rw [List.getElem?_eq_none (by simp [bysV_len]; omega), List.getElem?_eq_none (by rw [bysV_len]; omega)]
theorem SdAt.lead (h : SdAt B w sb gc gl gy n lk lo hi s D A) {v : Nat} (hv : v < n) (k : Lnk) : SdAt B (putL w gy v k) sb gc gl gy n lk lo hi s D (upd A v k) := by
  obtain ⟨n1, n2, n3, n4, n5, n6⟩ := h.nes
  refine ⟨(putL_other _ _ _ _ n3).trans h.box, (putL_other _ _ _ _ n5).trans h.clo, (putL_other _ _ _ _ n6).trans h.lst, ?_, h.ge⟩
  unfold putL
  have e1 := heap_setCell_same w gy (v * 4) _ _ (.int .i64 k.1) h.bys
  have e2 := heap_setCell_same _ gy (v * 4 + 1) _ _ (.int .i64 k.2.1) e1
  have e3 := heap_setCell_same _ gy (v * 4 + 2) _ _ (.int .i64 k.2.2.1) e2
  have e4 := heap_setCell_same _ gy (v * 4 + 3) _ _ (.int .i64 k.2.2.2) e3
  rw [e4, ← bysV_set A hv k]
  simp
end
/-- A side and its queue. -/
structure SqAt (B : Nat) (w : World) (sb q gc gl gy n : Nat) (lk lo hi : Value) (s : Int) (D : Nat → Option Int) (A : Nat → Lnk) (X : List Qu.Pr) (S : Nat → Prop) : Prop where
  sd : SdAt B w sb gc gl gy n lk lo hi s D A
  que : Qu.QAt w q X S
  out : ¬ S sb ∧ ¬ S gc ∧ ¬ S gl ∧ ¬ S gy
  ge : ∀ k, S k → B ≤ k
section
variable {B sb q gc gl gy n : Nat} {w w' : World} {lk lo hi : Value} {s : Int} {D : Nat → Option Int} {A : Nat → Lnk} {X X' : List Qu.Pr} {S S' : Nat → Prop}
theorem SqAt.queue (h : SqAt B w sb q gc gl gy n lk lo hi s D A X S) (hq : Qu.QAt w' q X' S') (f : Qu.Fr S w w') (hS : ∀ k, S' k → S k ∨ w.heap.size ≤ k) (hB : B ≤ w.heap.size) : SqAt B w' sb q gc gl gy n lk lo hi s D A X' S' := by
  obtain ⟨l1, l2, l3, l4⟩ := h.sd.lts
  obtain ⟨o1, o2, o3, o4⟩ := h.out
  have nS : ∀ k, k < w.heap.size → ¬ S k → ¬ S' k := fun k hk hn e => by rcases hS k e with e | e; exact hn e; omega
  exact ⟨h.sd.blocks fun k hk => f.block k (by rcases hk with e | e | e | e <;> omega) (by rcases hk with e | e | e | e <;> (rw [e]; assumption)), hq, ⟨nS _ l1 o1, nS _ l2 o2, nS _ l3 o3, nS _ l4 o4⟩, fun k hk => by rcases hS k hk with e | e; exact h.ge k e; omega⟩
theorem SqAt.later (h : SqAt B w sb q gc gl gy n lk lo hi s D A X S) (f : Below w.heap.size w w') : SqAt B w' sb q gc gl gy n lk lo hi s D A X S := ⟨h.sd.later f, h.que.later f, h.out, h.ge⟩
theorem SqAt.drewN (h : SqAt B w sb q gc gl gy n lk lo hi s D A X S) (k : Nat) : SqAt B (w.drewN k) sb q gc gl gy n lk lo hi s D A X S := h.later (Qu.below_drewN (Below.refl _ _) k)
theorem sq_put (h : SqAt B w sb q gc gl gy n lk lo hi s D A X S) (hB : B ≤ w.heap.size) (x k : Int) (hx : Qu.I64 x) (hk : Qu.I64 k) :
    Calls Tryz.prog 32 #[.pointer (some ⟨q, 0, none⟩), .int .i64 x, .int .i64 k] w fun e w' => e = .returned (.bool (Qu.putM X x k).2) ∧ ∃ S', SqAt B w' sb q gc gl gy n lk lo hi s D A (Qu.putM X x k).1 S' ∧ Qu.Fr S w w' ∧ (∀ k, S' k → S k ∨ w.heap.size ≤ k) := by
  refine (Qu.put_any h.que x k hx hk).mono ?_
  rintro e w' ⟨rfl, h1, h2⟩
  have hs : ∀ k, Qu.grow S w w' k → S k ∨ w.heap.size ≤ k := fun k e => by rcases e with e | e; exact .inl e; exact .inr e.1
  exact ⟨rfl, _, h.queue h1 h2 hs hB, h2, hs⟩
theorem sq_take (h : SqAt B w sb q gc gl gy n lk lo hi s D A X S) (hB : B ≤ w.heap.size) (p : Qu.Pr) (hp : Qu.Least X p) :
    Calls Tryz.prog 63 #[.pointer (some ⟨q, 0, none⟩)] w fun e w' => e = .returned (.tuple #[.int .i64 p.1, .int .i64 p.2, .bool true]) ∧ (∃ S', SqAt B w' sb q gc gl gy n lk lo hi s D A (Qu.dropM X p.1) S') ∧ Below B w w' := by
  refine (Qu.take_any h.que p hp).mono ?_
  rintro e w' ⟨rfl, h1, h2⟩
  exact ⟨rfl, ⟨_, h.queue h1 h2 (fun k e => .inl e) hB⟩, h2.below hB h.ge⟩
theorem sq_empty (h : SqAt B w sb q gc gl gy n lk lo hi s D A [] S) : Calls Tryz.prog 63 #[.pointer (some ⟨q, 0, none⟩)] w fun e w' => e = .returned (.tuple #[.int .i64 0, .int .i64 0, .bool false]) ∧ w' = w := h.que.emp
theorem SqAt.mark (h : SqAt B w sb q gc gl gy n lk lo hi s D A X S) (p : Nat) (k : Int) : SqAt B ((w.setCell ⟨gc, p, none⟩ (.bool true)).setCell ⟨gl, p, none⟩ (.int .i64 k)) sb q gc gl gy n lk lo hi s (upd D p (some k)) A X S :=
  ⟨h.sd.mark p k, QAt_set (QAt_set h.que h.out.2.1 _) h.out.2.2.1 _, h.out, h.ge⟩
theorem SqAt.lead (h : SqAt B w sb q gc gl gy n lk lo hi s D A X S) {v : Nat} (hv : v < n) (k : Lnk) : SqAt B (putL w gy v k) sb q gc gl gy n lk lo hi s D (upd A v k) X S :=
  ⟨h.sd.lead hv k, QAt_set (QAt_set (QAt_set (QAt_set h.que h.out.2.2.2 _) h.out.2.2.2 _) h.out.2.2.2 _) h.out.2.2.2 _, h.out, h.ge⟩
end
/-- A row of links that no side writes. -/
def KRow (w : World) (va : Option Addr) (R : List Lnk) (gc gl gy : Nat) (S : Nat → Prop) : Prop :=
  ∀ k, k < R.length → ∃ gb, va = some ⟨gb, 0, none⟩ ∧ ¬ S gb ∧ gb ≠ gc ∧ gb ≠ gl ∧ gb ≠ gy ∧ gb < w.heap.size ∧ w.cell? ⟨gb, k * 4, none⟩ = some (.int .i64 (R[k]!).1) ∧ w.cell? ⟨gb, k * 4 + 1, none⟩ = some (.int .i64 (R[k]!).2.1) ∧ w.cell? ⟨gb, k * 4 + 2, none⟩ = some (.int .i64 (R[k]!).2.2.1) ∧ w.cell? ⟨gb, k * 4 + 3, none⟩ = some (.int .i64 (R[k]!).2.2.2)
section
variable {w w' : World} {va : Option Addr} {R : List Lnk} {gc gl gy : Nat} {S S' : Nat → Prop}
theorem KRow.block (h : KRow w va R gc gl gy S) (hs : w.heap.size ≤ w'.heap.size) (f : ∀ gb, gb < w.heap.size → ¬ S gb → gb ≠ gc → gb ≠ gl → gb ≠ gy → w'.heap[gb]? = w.heap[gb]?) (hS : ∀ k, S' k → S k ∨ w.heap.size ≤ k) : KRow w' va R gc gl gy S' := fun k hk => by
  obtain ⟨gb, e, h1, h2, h3, h4, h5, h6, h7, h8, h9⟩ := h k hk
  have hb := f gb h5 h1 h2 h3 h4
  have hc : ∀ j, w'.cell? ⟨gb, j, none⟩ = w.cell? ⟨gb, j, none⟩ := fun j => by unfold World.cell?; simp only [hb]
  exact ⟨gb, e, fun e2 => by rcases hS gb e2 with e3 | e3; exact h1 e3; omega, h2, h3, h4, by omega, by rw [hc]; exact h6, by rw [hc]; exact h7, by rw [hc]; exact h8, by rw [hc]; exact h9⟩
theorem KRow.fr (h : KRow w va R gc gl gy S) (f : Qu.Fr S w w') (hS : ∀ k, S' k → S k ∨ w.heap.size ≤ k) : KRow w' va R gc gl gy S' := h.block f.size (fun gb h1 h2 _ _ _ => f.block gb h1 h2) hS
theorem KRow.later (h : KRow w va R gc gl gy S) (f : Below w.heap.size w w') : KRow w' va R gc gl gy S := h.fr (Qu.Fr.of_below f) (fun _ h => .inl h)
theorem KRow.set (h : KRow w va R gc gl gy S) {b j : Nat} (hb : b = gc ∨ b = gl ∨ b = gy) (u : Value) : KRow (w.setCell ⟨b, j, none⟩ u) va R gc gl gy S :=
  h.block (by simp [World.setCell]) (fun gb _ _ h2 h3 h4 => heap_setCell_other _ _ _ _ (by rcases hb with e | e | e <;> (rw [e]; assumption))) (fun _ h => .inl h)
theorem KRow.lead (h : KRow w va R gc gl gy S) (v : Nat) (k : Lnk) : KRow (putL w gy v k) va R gc gl gy S := (((h.set (.inr (.inr rfl)) _).set (.inr (.inr rfl)) _).set (.inr (.inr rfl)) _).set (.inr (.inr rfl)) _
theorem krow_of {base rc : Nat} (h : LRow w base (.slice va R.length rc) R) (hS : ∀ k, S k → k < base) (h1 : gc < base) (h2 : gl < base) (h3 : gy < base) : KRow w va R gc gl gy S := fun k hk => by
  obtain ⟨g, cap, hv, hb, hlt, _, _⟩ := h.form (by omega)
  injection hv with e1 e2 e3
  subst e1 e3
  obtain ⟨c0, c1, c2, c3⟩ := h.cells k hk
  exact ⟨g, rfl, fun e => by have := hS g e; omega, by omega, by omega, by omega, hlt, c0, c1, c2, c3⟩
end
end Go.Proofs.YtojkdmkeankcgaaGreat
/-  Plain: two sides meet: the least sum over a place is the least weight. -/
namespace Go.Proofs.YtojkdmkeankcgaaGreat

def dnE (K : Mx) (rk : Nat → Nat) : Mx := fun a c => dnM K rk c a
section
variable {n : Nat} {W : Nat → Nat → Option Int} {K : Mx} {rk : Nat → Nat} {Q : Nat → Option Int} {rv : Nat → Int}
theorem up_link (h : Bd n W n K rk Q rv) {a c : Nat} {x : Lk} (e : upM K rk a c = some x) : a < n ∧ c < n ∧ rk a < rk c ∧ K a c = some x := by
  unfold upM at e
  split at e
  · rename_i hle
    obtain ⟨r1, r2, r3⟩ := h.lft.rk'.lk a c _ e
    rcases bd_ne h r1 r2 r3 with e2 | e2
    · exact ⟨r1, r2, e2, e⟩
    · omega
  · cases e
theorem dn_link (h : Bd n W n K rk Q rv) {a c : Nat} {x : Lk} (e : dnE K rk a c = some x) : a < n ∧ c < n ∧ rk a < rk c ∧ K c a = some x := by
  unfold dnE dnM at e
  split at e
  · rename_i hle
    obtain ⟨r1, r2, r3⟩ := h.lft.rk'.lk c a _ e
    rcases bd_ne h r1 r2 r3 with e2 | e2
    · omega
    · exact ⟨r2, r1, e2, e⟩
  · cases e
theorem two_le8 {a b : Nat} (h : a < b) : (1000000 : Int) * 2 ^ a + 1000000 * 2 ^ a ≤ 1000000 * 2 ^ b := by
  have := pow_mono (show a + 1 ≤ b by omega)
  rw [two_pow] at this
  exact this
theorem pow_lid8 {a : Nat} (h : a ≤ 32) : 0 ≤ (1000000 : Int) * 2 ^ a ∧ (1000000 : Int) * 2 ^ a ≤ 4294967296000000 := by
  have h1 := pow_mono h
  have h2 := pow_pos' a
  have h4 : (1000000 : Int) * 2 ^ 32 = 4294967296000000 := by decide
  omega
theorem eok_up (h : Bd n W n K rk Q rv) (hn : n ≤ 32) : EOk8 n (upM K rk) (fun a => 1000000 * 2 ^ (rk a)) rk := by
  refine ⟨fun a b x m e => ?_, fun a ha => pow_lid8 (by have := bd_all h a ha; omega)⟩
  obtain ⟨h1, h2, h3, h4⟩ := up_link h e
  have h5 := (h.lft.ubnd a b x m h4).1 (bd_all h a h1) (by omega)
  have h6 := two_le8 h3
  exact ⟨h1, h2, (h.lft.lk a b x m h4).2.2.2.1, by omega, h3⟩
theorem eok_dn (h : Bd n W n K rk Q rv) (hn : n ≤ 32) : EOk8 n (dnE K rk) (fun a => 1000000 * 2 ^ (rk a)) rk := by
  refine ⟨fun a b x m e => ?_, fun a ha => pow_lid8 (by have := bd_all h a ha; omega)⟩
  obtain ⟨h1, h2, h3, h4⟩ := dn_link h e
  have h5 := (h.lft.ubnd b a x m h4).2 (bd_all h a h1) (by omega)
  have h6 := two_le8 h3
  exact ⟨h1, h2, (h.lft.lk b a x m h4).2.2.2.1, by omega, h3⟩
theorem up_wt (h : Bd n W n K rk Q rv) (a c : Nat) : wtM (upM K rk) a c = upW K rk a c := by
  unfold upW
  cases e : upM K rk a c with
  | none =>
    have h1 : wtM (upM K rk) a c = none := by unfold wtM; rw [e]; rfl
    rw [h1]
    split
    · rename_i hl
      unfold upM at e
      rw [if_pos (by omega)] at e
      unfold wtM
      rw [e]
      rfl
    · rfl
  | some x =>
    obtain ⟨h1, h2, h3, h4⟩ := up_link h e
    rw [if_pos h3]
    unfold wtM
    rw [e, h4]
theorem dn_wt (h : Bd n W n K rk Q rv) (a c : Nat) : wtM (dnE K rk) a c = dnW K rk c a := by
  unfold dnW
  cases e : dnE K rk a c with
  | none =>
    have h1 : wtM (dnE K rk) a c = none := by unfold wtM; rw [e]; rfl
    rw [h1]
    split
    · rename_i hl
      unfold dnE dnM at e
      rw [if_pos (by omega)] at e
      unfold wtM
      rw [e]
      rfl
    · rfl
  | some x =>
    obtain ⟨h1, h2, h3, h4⟩ := dn_link h e
    rw [if_pos h3]
    unfold wtM
    rw [e, h4]
theorem up_way (h : Bd n W n K rk Q rv) {a c : Nat} {d : Int} : Way n (wtM (upM K rk)) a c d ↔ Way n (upW K rk) a c d :=
  ⟨way_same fun a b x _ _ e => by rw [← up_wt h]; exact e, way_same fun a b x _ _ e => by rw [up_wt h]; exact e⟩
theorem dn_way (h : Bd n W n K rk Q rv) {a c : Nat} {d : Int} : Way n (wtM (dnE K rk)) a c d ↔ Way n (dnW K rk) c a d :=
  ⟨fun w => w.turn fun a b _ _ => (dn_wt h a b).symm, fun w => w.turn fun a b _ _ => dn_wt h b a⟩
/-- Over each place that both sides come to leads a way. -/
theorem meet_way (h : Bd n W n K rk Q rv) {a b c : Nat} {D F : Nat → Option Int} {x y : Int} (hD : IsLeast n (wtM (upM K rk)) a D) (hF : IsLeast n (wtM (dnE K rk)) b F) (hc : c < n) (hx : D c = some x) (hy : F c = some y) : Way n W a b (x + y) := by
  have h1 := res_way.1 (lft_up_way h.lft ((up_way h).1 (hD.way c x hc hx)))
  have h2 := res_way.1 (lft_dn_way h.lft ((dn_way h).1 (hF.way c y hc hy)))
  exact h1.trans h2
theorem meet_ex (h : Bd n W n K rk Q rv) {a b : Nat} {D F : Nat → Option Int} {d : Int} (ha : a < n) (hb : b < n) (hD : IsLeast n (wtM (upM K rk)) a D) (hF : IsLeast n (wtM (dnE K rk)) b F) (hw : Way n W a b d) : ∃ c x y, c < n ∧ D c = some x ∧ F c = some y ∧ x + y ≤ d := by
  obtain ⟨c, d1, d2, hc, w1, w2, hl⟩ := lft_ways h.lft (bd_all h) ha hb (res_way.2 hw)
  obtain ⟨x, hx, hx2⟩ := hD.le ((up_way h).2 w1)
  obtain ⟨y, hy, hy2⟩ := hF.le ((dn_way h).2 w2)
  exact ⟨c, x, y, hc, hx, hy, by omega⟩
end
/-- The best place among the first k, and its weight. -/
def meetP (D F : Nat → Option Int) : Nat → Option (Nat × Int)
  | 0 => none
  | k + 1 => match D k, F k with
    | some x, some y => (match meetP D F k with | none => some (k, x + y) | some t => if x + y < t.2 then some (k, x + y) else some t)
    | _, _ => meetP D F k
theorem meetP_is (D F : Nat → Option Int) : ∀ k, (meetP D F k = none ∧ ∀ c x y, c < k → D c = some x → F c = some y → False) ∨ ∃ t l, meetP D F k = some (t, l) ∧ t < k ∧ (∃ x y, D t = some x ∧ F t = some y ∧ l = x + y) ∧ ∀ c x y, c < k → D c = some x → F c = some y → l ≤ x + y
  | 0 => .inl ⟨rfl, fun c x y hc => by omega⟩
  | k + 1 => by
    have ih := meetP_is D F k
    unfold meetP
    cases hD : D k with
    | none =>
      simp only
      rcases ih with ⟨h1, h2⟩ | ⟨t, l, h1, h2, h3, h4⟩
      · refine .inl ⟨h1, fun c x y hc hx hy => ?_⟩
        by_cases e : c = k
        · subst e; rw [hD] at hx; cases hx
        · exact h2 c x y (by omega) hx hy
      · refine .inr ⟨t, l, h1, by omega, h3, fun c x y hc hx hy => ?_⟩
        by_cases e : c = k
        · subst e; rw [hD] at hx; cases hx
        · exact h4 c x y (by omega) hx hy
    | some a =>
      cases hF : F k with
      | none =>
        simp only
        rcases ih with ⟨h1, h2⟩ | ⟨t, l, h1, h2, h3, h4⟩
        · refine .inl ⟨h1, fun c x y hc hx hy => ?_⟩
          by_cases e : c = k
          · subst e; rw [hF] at hy; cases hy
          · exact h2 c x y (by omega) hx hy
        · refine .inr ⟨t, l, h1, by omega, h3, fun c x y hc hx hy => ?_⟩
          by_cases e : c = k
          · subst e; rw [hF] at hy; cases hy
          · exact h4 c x y (by omega) hx hy
      | some b =>
        simp only
        rcases ih with ⟨h1, h2⟩ | ⟨t, l, h1, h2, h3, h4⟩
        · rw [h1]
          refine .inr ⟨k, a + b, rfl, by omega, ⟨a, b, hD, hF, rfl⟩, fun c x y hc hx hy => ?_⟩
          by_cases e : c = k
          · subst e; rw [hD] at hx; rw [hF] at hy; cases hx; cases hy; omega
          · exact (h2 c x y (by omega) hx hy).elim
        · rw [h1]
          simp only
          split
          · refine .inr ⟨k, a + b, rfl, by omega, ⟨a, b, hD, hF, rfl⟩, fun c x y hc hx hy => ?_⟩
            by_cases e : c = k
            · subst e; rw [hD] at hx; rw [hF] at hy; cases hx; cases hy; omega
            · have := h4 c x y (by omega) hx hy; omega
          · refine .inr ⟨t, l, rfl, by omega, h3, fun c x y hc hx hy => ?_⟩
            by_cases e : c = k
            · subst e; rw [hD] at hx; rw [hF] at hy; cases hx; cases hy; omega
            · exact h4 c x y (by omega) hx hy
theorem meet_least {n : Nat} {W : Nat → Nat → Option Int} {K : Mx} {rk : Nat → Nat} {Q : Nat → Option Int} {rv : Nat → Int} (h : Bd n W n K rk Q rv) (hW : WOk n W) {a b : Nat} {D F : Nat → Option Int} (ha : a < n) (hb : b < n) (hD : IsLeast n (wtM (upM K rk)) a D) (hF : IsLeast n (wtM (dnE K rk)) b F) : (meetP D F n).map (·.2) = least n W a b := by
  have hl := least_is hW a ha
  rcases meetP_is D F n with ⟨h1, h2⟩ | ⟨t, l, h1, h2, ⟨x, y, h3, h4, h5⟩, h6⟩
  · rw [h1]
    cases e : least n W a b with
    | none => rfl
    | some d =>
      obtain ⟨c, x, y, hc, hx, hy, _⟩ := meet_ex h ha hb hD hF (hl.way b d hb e)
      exact (h2 c x y hc hx hy).elim
  · rw [h1]
    obtain ⟨d, e1, e2⟩ := hl.le (meet_way h hD hF h2 h3 h4)
    obtain ⟨c, x', y', hc, hx, hy, hs⟩ := meet_ex h ha hb hD hF (hl.way b d hb e1)
    have := h6 c x' y' hc hx hy
    rw [e1]
    simp only [Option.map_some, Option.some.injEq]
    omega
end Go.Proofs.YtojkdmkeankcgaaGreat
