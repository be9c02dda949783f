/-
  Several texts in one.
-/
import Derived.Test.YtojkdmkeankcgaaGreatZDijkP
import Derived.Test.YtojkdmkeankcgaaGreatZLk
import Derived.Test.YtojkdmkeankcgaaGreatZLm
/-  Plain: one side of a search in a lifted graph: which places are closed, which open, and the links ahead. -/
namespace Go.Proofs.YtojkdmkeankcgaaGreat
open Qu (Pr lt items Dis repl dropM putM Least look_none look_some dis_put dis_drop)

/-- A link by its lower and its upper end. -/
def mkL (up : Bool) (p q : Nat) (k : Lk) : Lnk := if up then (p, q, k) else (q, p, k)
def uppr (up : Bool) (k : Lnk) : Nat := if up then k.2.1 else k.1
def lowr (up : Bool) (k : Lnk) : Nat := if up then k.1 else k.2.1
theorem uppr_mk (up : Bool) (p q : Nat) (k : Lk) : uppr up (mkL up p q k) = q := by cases up <;> rfl
theorem lowr_mk (up : Bool) (p q : Nat) (k : Lk) : lowr up (mkL up p q k) = p := by cases up <;> rfl
theorem wt_mk (up : Bool) (p q : Nat) (k : Lk) : (mkL up p q k).2.2 = k := by cases up <;> rfl
/-- The links by which a side climbs from a place, rising by their upper ends. -/
def rowS (up : Bool) (n : Nat) (E : Mx) (p : Nat) : List Lnk := (List.range n).filterMap fun q => (E p q).map (mkL up p q)
theorem mem_rowS {up : Bool} {n : Nat} {E : Mx} {p : Nat} {k : Lnk} : k ∈ rowS up n E p ↔ ∃ q x, q < n ∧ E p q = some x ∧ k = mkL up p q x := by
  unfold rowS
  rw [List.mem_filterMap]
  constructor
  · rintro ⟨q, hq, h⟩
    rw [List.mem_range] at hq
    cases e : E p q with
    | none => rw [e] at h; cases h
    | some x => rw [e] at h; simp at h; exact ⟨q, x, hq, e, h.symm⟩
  · rintro ⟨q, x, hq, e, h⟩
    exact ⟨q, List.mem_range.2 hq, by rw [e]; simp [h]⟩
theorem rowS_len (up : Bool) (n : Nat) (E : Mx) (p : Nat) : (rowS up n E p).length ≤ n := by
  unfold rowS
  exact Nat.le_trans (List.length_filterMap_le _ _) (by simp)
/-- Links lead up, and no way up is heavier than the height tells. -/
structure EOk8 (n : Nat) (E : Mx) (φ : Nat → Int) (ρ : Nat → Nat) : Prop where
  e : ∀ a b x m, E a b = some (x, m) → a < n ∧ b < n ∧ 0 ≤ x ∧ x + φ a ≤ φ b ∧ ρ a < ρ b
  f : ∀ a, a < n → 0 ≤ φ a ∧ φ a ≤ 4294967296000000
theorem EOk8.way {n s : Nat} {E : Mx} {φ : Nat → Int} {ρ : Nat → Nat} (h : EOk8 n E φ ρ) {v : Nat} {d : Int} (w : Way n (wtM E) s v d) : 0 ≤ d ∧ d + φ s ≤ φ v := by
  induction w with
  | here => omega
  | on w hu hv hx ih =>
    obtain ⟨m, e⟩ := wtM_some.1 hx
    have := h.e _ _ _ m e
    omega
theorem EOk8.lid {n s : Nat} {E : Mx} {φ : Nat → Int} {ρ : Nat → Nat} (h : EOk8 n E φ ρ) {v : Nat} {d : Int} (w : Way n (wtM E) s v d) (hs : s < n) (hv : v < n) : 0 ≤ d ∧ d ≤ 4294967296000000 := by
  have h1 := h.way w
  have h2 := h.f s hs
  have h3 := h.f v hv
  omega
def From8 (up : Bool) (E : Mx) (s : Nat) (D : Nat → Option Int) (A : Nat → Lnk) (v : Nat) (k : Int) : Prop :=
  (v = s ∧ k = 0) ∨ (v ≠ s ∧ ∃ u d x, D u = some d ∧ E u v = some x ∧ k = d + x.1 ∧ A v = mkL up u v x)
structure Core8 (n : Nat) (up : Bool) (E : Mx) (s : Nat) (D : Nat → Option Int) (X : List Pr) (A : Nat → Lnk) : Prop where
  dis : Dis X
  clo : ∀ v d, D v = some d → v < n ∧ Way n (wtM E) s v d
  opn : ∀ y ∈ X, ∃ v : Nat, v < n ∧ y.1 = (v : Int) ∧ D v = none ∧ Way n (wtM E) s v y.2 ∧ (∀ u d, D u = some d → d ≤ y.2) ∧ From8 up E s D A v y.2
  ahd : ∀ v d, D v = some d → From8 up E s D A v d
structure Sd (n : Nat) (up : Bool) (E : Mx) (s : Nat) (D : Nat → Option Int) (X : List Pr) (A : Nat → Lnk) : Prop where
  core : Core8 n up E s D X A
  led : ∀ u v d x, u < n → v < n → D u = some d → wtM E u v = some x → Led D X v (d + x)
  start : D s = some 0 ∨ (X = [((s : Int), (0 : Int))] ∧ ∀ v, D v = none)
structure Md8 (n : Nat) (up : Bool) (E : Mx) (s : Nat) (D : Nat → Option Int) (X : List Pr) (A : Nat → Lnk) (p : Nat) (k : Int) (c : Nat) : Prop where
  core : Core8 n up E s D X A
  hp : D p = some k
  top : ∀ u d, D u = some d → d ≤ k
  low : ∀ y ∈ X, k ≤ y.2
  led : ∀ u v d x, u < n → v < n → u ≠ p → D u = some d → wtM E u v = some x → Led D X v (d + x)
  mine : ∀ e ∈ (rowS up n E p).take c, Led D X (uppr up e) (k + e.2.2.1)
  start : D s = some 0
theorem sd_zero {n s : Nat} (up : Bool) (E : Mx) (hs : s < n) : Sd n up E s (fun _ => none) [((s : Int), (0 : Int))] (fun _ => (0, 0, 0, 0)) := by
  refine ⟨⟨by simp [Dis, items], fun v d h => (by cases h), fun y hy => ?_, fun v d h => (by cases h)⟩, fun u v d x _ _ h => (by cases h), .inr ⟨rfl, fun _ => rfl⟩⟩
  simp at hy
  subst hy
  exact ⟨s, hs, rfl, rfl, .here, fun u d h => (by cases h), .inl ⟨rfl, rfl⟩⟩
section
variable {n s : Nat} {up : Bool} {E : Mx} {D : Nat → Option Int} {X : List Pr} {A : Nat → Lnk} {φ : Nat → Int} {ρ : Nat → Nat}
theorem From8.more {D' : Nat → Option Int} {v : Nat} {k : Int} (hD : ∀ u d, D u = some d → D' u = some d) (h : From8 up E s D A v k) : From8 up E s D' A v k := by
  rcases h with k | ⟨k0, u, d, x, k1, k2, k3, k4⟩
  · exact .inl k
  · exact .inr ⟨k0, u, d, x, hD u d k1, k2, k3, k4⟩
theorem sd_take (h : Sd n up E s D X A) {q : Pr} (hq : Least X q) : ∃ p : Nat, p < n ∧ q.1 = (p : Int) ∧ D p = none ∧ Md8 n up E s (upd D p (some q.2)) (dropM X q.1) A p q.2 0 ∧ cnt (upd D p (some q.2)) n = cnt D n + 1 := by
  obtain ⟨p, hp, h1, h2, h3, h6, h7⟩ := h.core.opn q hq.1
  have hc := cnt_more D p q.2 h2 n hp
  have hne : ∀ v d, D v = some d → v ≠ p := fun v d hv e => by subst e; rw [h2] at hv; cases hv
  have upw : ∀ v d, D v = some d → upd D p (some q.2) v = some d := fun v d hv => by rw [upd_other _ _ (hne v d hv)]; exact hv
  have low : ∀ y ∈ X, q.2 ≤ y.2 := fun y hy => by have := of_decide_eq_false (hq.2 y hy); omega
  refine ⟨p, hp, h1, h2, ⟨⟨dis_drop h.core.dis _, fun v d hv => ?_, fun y hy => ?_, fun v d hv => ?_⟩, upd_same _ _ _, fun u d hu => ?_, fun y hy => low y (mem_drop.1 hy).1, fun u v d x hu hv hup hd hx => ?_, fun e he => by simp at he, ?_⟩, hc⟩
  · by_cases e : v = p
    · subst e
      rw [upd_same] at hv
      cases hv
      exact ⟨hp, h3⟩
    · rw [upd_other _ _ e] at hv
      exact h.core.clo v d hv
  · obtain ⟨hy1, hy2⟩ := mem_drop.1 hy
    obtain ⟨v, a, b, c, d1, g, k⟩ := h.core.opn y hy1
    have hvp : v ≠ p := fun e => hy2 (by rw [b, h1, e])
    refine ⟨v, a, b, by rw [upd_other _ _ hvp]; exact c, d1, fun u d hu => ?_, k.more upw⟩
    by_cases e2 : u = p
    · subst e2; rw [upd_same] at hu; cases hu; exact low y hy1
    · rw [upd_other _ _ e2] at hu; exact g u d hu
  · by_cases e : v = p
    · subst e
      rw [upd_same] at hv
      cases hv
      exact h7.more upw
    · rw [upd_other _ _ e] at hv
      exact (h.core.ahd v d hv).more upw
  · by_cases e2 : u = p
    · subst e2; rw [upd_same] at hu; cases hu; exact Int.le_refl _
    · rw [upd_other _ _ e2] at hu; exact h6 u d hu
  · rw [upd_other _ _ hup] at hd
    rcases h.led u v d x hu hv hd hx with ⟨d', k1, k2⟩ | ⟨y, k1, k2, k3⟩
    · exact .inl ⟨d', upw v d' k1, k2⟩
    · by_cases e : y.1 = q.1
      · have := h.core.dis.inj k1 hq.1 e
        subst this
        have hv2 : v = p := by omega
        subst hv2
        exact .inl ⟨y.2, upd_same _ _ _, k3⟩
      · exact .inr ⟨y, mem_drop.2 ⟨k1, e⟩, k2, k3⟩
  · rcases h.start with k | ⟨k1, k2⟩
    · exact upw s 0 k
    · have hq1 := hq.1
      rw [k1] at hq1
      simp at hq1
      subst hq1
      have : s = p := by simp at h1; omega
      subst this
      exact upd_same _ _ _
theorem Core8.len (h : Core8 n up E s D X A) : X.length ≤ n := by
  have := nodup_len n (items X) h.dis (fun x hx => by
    obtain ⟨y, hy, rfl⟩ := List.mem_map.1 hx
    obtain ⟨v, a, b, _⟩ := h.opn y hy
    omega)
  simpa [items] using this
theorem take_memK {R : List Lnk} {c : Nat} {e : Lnk} (hc : c < R.length) (h : e ∈ R.take (c + 1)) : e ∈ R.take c ∨ e = R[c]! := by
  rw [List.take_succ_eq_append_getElem hc] at h
  rcases List.mem_append.1 h with h | h
  · exact .inl h
  · right; rw [getElem!_pos R c hc]; simpa using h
variable {p c : Nat} {k : Int}
theorem rowS_at (hc : c < (rowS up n E p).length) : ∃ v x, v < n ∧ E p v = some x ∧ (rowS up n E p)[c]! = mkL up p v x :=
  mem_rowS.1 (by rw [getElem!_pos _ c hc]; exact List.getElem_mem _)
theorem md_skip (h : Md8 n up E s D X A p k c) (hE : EOk8 n E φ ρ) (hc : c < (rowS up n E p).length) {v : Nat} {x : Lk} (hx : E p v = some x) (hr : (rowS up n E p)[c]! = mkL up p v x) {d : Int} (hd : D v = some d) : Md8 n up E s D X A p k (c + 1) := by
  refine ⟨h.core, h.hp, h.top, h.low, h.led, fun e he => ?_, h.start⟩
  rcases take_memK hc he with he | rfl
  · exact h.mine e he
  · have := (hE.e p v x.1 x.2 hx).2.2.1
    have h2 := h.top _ _ hd
    rw [hr, uppr_mk, wt_mk]
    exact .inl ⟨d, hd, by omega⟩
theorem md_put (h : Md8 n up E s D X A p k c) (hn : n ≤ 32) (hE : EOk8 n E φ ρ) (hp : p < n) (hc : c < (rowS up n E p).length) {v : Nat} {x : Lk} (hv : v < n) (hx : E p v = some x) (hr : (rowS up n E p)[c]! = mkL up p v x) (hd : D v = none) :
    Md8 n up E s D (putM X v (k + x.1)).1 (if (putM X v (k + x.1)).2 then upd A v (mkL up p v x) else A) p k (c + 1) := by
  have hl : X.length < 4096 := by have := h.core.len; omega
  have hx0 := hE.e p v x.1 x.2 hx
  have hw : wtM E p v = some x.1 := wtM_some.2 ⟨x.2, hx⟩
  have hcp := h.core.clo p k h.hp
  have hvs : v ≠ s := fun e => by subst e; rw [h.start] at hd; cases hd
  have hA : ∀ u, u ≠ v → (if (putM X v (k + x.1)).2 then upd A v (mkL up p v x) else A) u = A u := fun u hu => by
    split
    · exact upd_other _ _ hu
    · rfl
  have hAf : ∀ u z, u ≠ v → From8 up E s D A u z → From8 up E s D (if (putM X v (k + x.1)).2 then upd A v (mkL up p v x) else A) u z := fun u z hu hf => by
    unfold From8 at hf ⊢
    rw [hA u hu]
    exact hf
  refine ⟨⟨dis_put h.core.dis _ _, h.core.clo, fun y hy => ?_, fun u d hu => hAf u d (fun e => by subst e; rw [hd] at hu; cases hu) (h.core.ahd u d hu)⟩, h.hp, h.top, fun y hy => ?_, fun u w d z hu hw hup h1 h2 => (h.led u w d z hu hw hup h1 h2).put h.core.dis hl, fun e he => ?_, h.start⟩
  · rcases mem_put hl hy with ⟨h1, h2⟩ | ⟨rfl, h2⟩
    · obtain ⟨u, a, b, c1, d1, g, k1⟩ := h.core.opn y h1
      refine ⟨u, a, b, c1, d1, g, ?_⟩
      by_cases huv : u = v
      · subst huv
        rw [h2 b]
        exact k1
      · exact hAf u _ huv k1
    · refine ⟨v, hv, rfl, hd, hcp.2.on hp hv hw, fun u d hu => by have := h.top u d hu; show d ≤ k + x.1; omega, ?_⟩
      rw [h2]
      exact .inr ⟨hvs, p, k, x, h.hp, hx, rfl, upd_same _ _ _⟩
  · rcases mem_put hl hy with ⟨h1, _⟩ | ⟨rfl, _⟩
    · exact h.low y h1
    · show k ≤ k + x.1; omega
  · rcases take_memK hc he with he | rfl
    · exact (h.mine e he).put h.core.dis hl
    · rw [hr, uppr_mk, wt_mk]
      obtain ⟨y, h1, h2, h3⟩ := put_has (X := X) (v := (v : Int)) (k := k + x.1) h.core.dis hl
      exact .inr ⟨y, h1, h2, h3⟩
theorem md_end (h : Md8 n up E s D X A p k (rowS up n E p).length) : Sd n up E s D X A := by
  refine ⟨h.core, fun u v d x hu hv hd hx => ?_, .inl h.start⟩
  by_cases e : u = p
  · subst e
    rw [h.hp] at hd
    cases hd
    obtain ⟨m, hm⟩ := wtM_some.1 hx
    have := h.mine (mkL up u v (x, m)) (by rw [List.take_length]; exact mem_rowS.2 ⟨v, _, hv, hm, rfl⟩)
    rw [uppr_mk, wt_mk] at this
    exact this
  · exact h.led u v d x hu hv e hd hx
/-- What a side has come to. -/
structure Side (n : Nat) (up : Bool) (E : Mx) (s : Nat) (D : Nat → Option Int) (A : Nat → Lnk) : Prop where
  least : IsLeast n (wtM E) s D
  lt : ∀ v d, D v = some d → v < n ∧ 0 ≤ d ∧ d ≤ 4294967296000000
  ahead : ∀ v d, D v = some d → v ≠ s → ∃ u d' x, u < n ∧ D u = some d' ∧ E u v = some x ∧ d = d' + x.1 ∧ A v = mkL up u v x
theorem sd_end (h : Sd n up E s D [] A) (hE : EOk8 n E φ ρ) (hs : s < n) : Side n up E s D A := by
  have h0 : D s = some 0 := by
    rcases h.start with k | ⟨k, _⟩
    · exact k
    · cases k
  refine ⟨⟨h0, fun q d _ hd => (h.core.clo q d hd).2, fun u v d x hu hv hd hx => ?_⟩, fun v d hd => ?_, fun v d hd hvs => ?_⟩
  · rcases h.led u v d x hu hv hd hx with k | ⟨y, hy, _⟩
    · exact k
    · simp at hy
  · obtain ⟨h1, h2⟩ := h.core.clo v d hd
    exact ⟨h1, hE.lid h2 hs h1⟩
  · rcases h.core.ahd v d hd with k | ⟨_, u, d', x, k1, k2, k3, k4⟩
    · exact absurd k.1 hvs
    · exact ⟨u, d', x, (h.core.clo u d' k1).1, k1, k2, k3, k4⟩
end
end Go.Proofs.YtojkdmkeankcgaaGreat
/-  Plain: two sides meet: the least sum over a place is the least weight. -/
namespace Go.Proofs.YtojkdmkeankcgaaGreat

def dnE (K : Mx) (rk : Nat → Nat) : Mx := fun a c => dnM K rk c a
section
variable {n : Nat} {W : Nat → Nat → Option Int} {K : Mx} {rk : Nat → Nat} {Q : Nat → Option Int} {rv : Nat → Int}
theorem up_link (h : Bd n W n K rk Q rv) {a c : Nat} {x : Lk} (e : upM K rk a c = some x) : a < n ∧ c < n ∧ rk a < rk c ∧ K a c = some x := by
  unfold upM at e
  split at e
  · rename_i hle
    obtain ⟨r1, r2, r3⟩ := h.lft.rk'.lk a c _ e
    rcases bd_ne h r1 r2 r3 with e2 | e2
    · exact ⟨r1, r2, e2, e⟩
    · omega
  · cases e
theorem dn_link (h : Bd n W n K rk Q rv) {a c : Nat} {x : Lk} (e : dnE K rk a c = some x) : a < n ∧ c < n ∧ rk a < rk c ∧ K c a = some x := by
  unfold dnE dnM at e
  split at e
  · rename_i hle
    obtain ⟨r1, r2, r3⟩ := h.lft.rk'.lk c a _ e
    rcases bd_ne h r1 r2 r3 with e2 | e2
    · omega
    · exact ⟨r2, r1, e2, e⟩
  · cases e
theorem two_le8 {a b : Nat} (h : a < b) : (1000000 : Int) * 2 ^ a + 1000000 * 2 ^ a ≤ 1000000 * 2 ^ b := by
  have := pow_mono (show a + 1 ≤ b by omega)
  rw [two_pow] at this
  exact this
theorem pow_lid8 {a : Nat} (h : a ≤ 32) : 0 ≤ (1000000 : Int) * 2 ^ a ∧ (1000000 : Int) * 2 ^ a ≤ 4294967296000000 := by
  have h1 := pow_mono h
  have h2 := pow_pos' a
  have h4 : (1000000 : Int) * 2 ^ 32 = 4294967296000000 := by decide
  omega
theorem eok_up (h : Bd n W n K rk Q rv) (hn : n ≤ 32) : EOk8 n (upM K rk) (fun a => 1000000 * 2 ^ (rk a)) rk := by
  refine ⟨fun a b x m e => ?_, fun a ha => pow_lid8 (by have := bd_all h a ha; omega)⟩
  obtain ⟨h1, h2, h3, h4⟩ := up_link h e
  have h5 := (h.lft.ubnd a b x m h4).1 (bd_all h a h1) (by omega)
  have h6 := two_le8 h3
  exact ⟨h1, h2, (h.lft.lk a b x m h4).2.2.2.1, by omega, h3⟩
theorem eok_dn (h : Bd n W n K rk Q rv) (hn : n ≤ 32) : EOk8 n (dnE K rk) (fun a => 1000000 * 2 ^ (rk a)) rk := by
  refine ⟨fun a b x m e => ?_, fun a ha => pow_lid8 (by have := bd_all h a ha; omega)⟩
  obtain ⟨h1, h2, h3, h4⟩ := dn_link h e
  have h5 := (h.lft.ubnd b a x m h4).2 (bd_all h a h1) (by omega)
  have h6 := two_le8 h3
  exact ⟨h1, h2, (h.lft.lk b a x m h4).2.2.2.1, by omega, h3⟩
theorem up_wt (h : Bd n W n K rk Q rv) (a c : Nat) : wtM (upM K rk) a c = upW K rk a c := by
  unfold upW
  cases e : upM K rk a c with
  | none =>
    have h1 : wtM (upM K rk) a c = none := by unfold wtM; rw [e]; rfl
    rw [h1]
    split
    · rename_i hl
      unfold upM at e
      rw [if_pos (by omega)] at e
      unfold wtM
      rw [e]
      rfl
    · rfl
  | some x =>
    obtain ⟨h1, h2, h3, h4⟩ := up_link h e
    rw [if_pos h3]
    unfold wtM
    rw [e, h4]
theorem dn_wt (h : Bd n W n K rk Q rv) (a c : Nat) : wtM (dnE K rk) a c = dnW K rk c a := by
  unfold dnW
  cases e : dnE K rk a c with
  | none =>
    have h1 : wtM (dnE K rk) a c = none := by unfold wtM; rw [e]; rfl
    rw [h1]
    split
    · rename_i hl
      unfold dnE dnM at e
      rw [if_pos (by omega)] at e
      unfold wtM
      rw [e]
      rfl
    · rfl
  | some x =>
    obtain ⟨h1, h2, h3, h4⟩ := dn_link h e
    rw [if_pos h3]
    unfold wtM
    rw [e, h4]
theorem up_way (h : Bd n W n K rk Q rv) {a c : Nat} {d : Int} : Way n (wtM (upM K rk)) a c d ↔ Way n (upW K rk) a c d :=
  ⟨way_same fun a b x _ _ e => by rw [← up_wt h]; exact e, way_same fun a b x _ _ e => by rw [up_wt h]; exact e⟩
theorem dn_way (h : Bd n W n K rk Q rv) {a c : Nat} {d : Int} : Way n (wtM (dnE K rk)) a c d ↔ Way n (dnW K rk) c a d :=
  ⟨fun w => w.turn fun a b _ _ => (dn_wt h a b).symm, fun w => w.turn fun a b _ _ => dn_wt h b a⟩
/-- Over each place that both sides come to leads a way. -/
theorem meet_way (h : Bd n W n K rk Q rv) {a b c : Nat} {D F : Nat → Option Int} {x y : Int} (hD : IsLeast n (wtM (upM K rk)) a D) (hF : IsLeast n (wtM (dnE K rk)) b F) (hc : c < n) (hx : D c = some x) (hy : F c = some y) : Way n W a b (x + y) := by
  have h1 := res_way.1 (lft_up_way h.lft ((up_way h).1 (hD.way c x hc hx)))
  have h2 := res_way.1 (lft_dn_way h.lft ((dn_way h).1 (hF.way c y hc hy)))
  exact h1.trans h2
theorem meet_ex (h : Bd n W n K rk Q rv) {a b : Nat} {D F : Nat → Option Int} {d : Int} (ha : a < n) (hb : b < n) (hD : IsLeast n (wtM (upM K rk)) a D) (hF : IsLeast n (wtM (dnE K rk)) b F) (hw : Way n W a b d) : ∃ c x y, c < n ∧ D c = some x ∧ F c = some y ∧ x + y ≤ d := by
  obtain ⟨c, d1, d2, hc, w1, w2, hl⟩ := lft_ways h.lft (bd_all h) ha hb (res_way.2 hw)
  obtain ⟨x, hx, hx2⟩ := hD.le ((up_way h).2 w1)
  obtain ⟨y, hy, hy2⟩ := hF.le ((dn_way h).2 w2)
  exact ⟨c, x, y, hc, hx, hy, by omega⟩
end
/-- The best place among the first k, and its weight. -/
def meetP (D F : Nat → Option Int) : Nat → Option (Nat × Int)
  | 0 => none
  | k + 1 => match D k, F k with
    | some x, some y => (match meetP D F k with | none => some (k, x + y) | some t => if x + y < t.2 then some (k, x + y) else some t)
    | _, _ => meetP D F k
theorem meetP_is (D F : Nat → Option Int) : ∀ k, (meetP D F k = none ∧ ∀ c x y, c < k → D c = some x → F c = some y → False) ∨ ∃ t l, meetP D F k = some (t, l) ∧ t < k ∧ (∃ x y, D t = some x ∧ F t = some y ∧ l = x + y) ∧ ∀ c x y, c < k → D c = some x → F c = some y → l ≤ x + y
  | 0 => .inl ⟨rfl, fun c x y hc => by omega⟩
  | k + 1 => by
    have ih := meetP_is D F k
    unfold meetP
    cases hD : D k with
    | none =>
      simp only
      rcases ih with ⟨h1, h2⟩ | ⟨t, l, h1, h2, h3, h4⟩
      · refine .inl ⟨h1, fun c x y hc hx hy => ?_⟩
        by_cases e : c = k
        · subst e; rw [hD] at hx; cases hx
        · exact h2 c x y (by omega) hx hy
      · refine .inr ⟨t, l, h1, by omega, h3, fun c x y hc hx hy => ?_⟩
        by_cases e : c = k
        · subst e; rw [hD] at hx; cases hx
        · exact h4 c x y (by omega) hx hy
    | some a =>
      cases hF : F k with
      | none =>
        simp only
        rcases ih with ⟨h1, h2⟩ | ⟨t, l, h1, h2, h3, h4⟩
        · refine .inl ⟨h1, fun c x y hc hx hy => ?_⟩
          by_cases e : c = k
          · subst e; rw [hF] at hy; cases hy
          · exact h2 c x y (by omega) hx hy
        · refine .inr ⟨t, l, h1, by omega, h3, fun c x y hc hx hy => ?_⟩
          by_cases e : c = k
          · subst e; rw [hF] at hy; cases hy
          · exact h4 c x y (by omega) hx hy
      | some b =>
        simp only
        rcases ih with ⟨h1, h2⟩ | ⟨t, l, h1, h2, h3, h4⟩
        · rw [h1]
          refine .inr ⟨k, a + b, rfl, by omega, ⟨a, b, hD, hF, rfl⟩, fun c x y hc hx hy => ?_⟩
          by_cases e : c = k
          · subst e; rw [hD] at hx; rw [hF] at hy; cases hx; cases hy; omega
          · exact (h2 c x y (by omega) hx hy).elim
        · rw [h1]
          simp only
          split
          · refine .inr ⟨k, a + b, rfl, by omega, ⟨a, b, hD, hF, rfl⟩, fun c x y hc hx hy => ?_⟩
            by_cases e : c = k
            · subst e; rw [hD] at hx; rw [hF] at hy; cases hx; cases hy; omega
            · have := h4 c x y (by omega) hx hy; omega
          · refine .inr ⟨t, l, rfl, by omega, h3, fun c x y hc hx hy => ?_⟩
            by_cases e : c = k
            · subst e; rw [hD] at hx; rw [hF] at hy; cases hx; cases hy; omega
            · exact h4 c x y (by omega) hx hy
theorem meet_least {n : Nat} {W : Nat → Nat → Option Int} {K : Mx} {rk : Nat → Nat} {Q : Nat → Option Int} {rv : Nat → Int} (h : Bd n W n K rk Q rv) (hW : WOk n W) {a b : Nat} {D F : Nat → Option Int} (ha : a < n) (hb : b < n) (hD : IsLeast n (wtM (upM K rk)) a D) (hF : IsLeast n (wtM (dnE K rk)) b F) : (meetP D F n).map (·.2) = least n W a b := by
  have hl := least_is hW a ha
  rcases meetP_is D F n with ⟨h1, h2⟩ | ⟨t, l, h1, h2, ⟨x, y, h3, h4, h5⟩, h6⟩
  · rw [h1]
    cases e : least n W a b with
    | none => rfl
    | some d =>
      obtain ⟨c, x, y, hc, hx, hy, _⟩ := meet_ex h ha hb hD hF (hl.way b d hb e)
      exact (h2 c x y hc hx hy).elim
  · rw [h1]
    obtain ⟨d, e1, e2⟩ := hl.le (meet_way h hD hF h2 h3 h4)
    obtain ⟨c, x', y', hc, hx, hy, hs⟩ := meet_ex h ha hb hD hF (hl.way b d hb e1)
    have := h6 c x' y' hc hx hy
    rw [e1]
    simp only [Option.map_some, Option.some.injEq]
    omega
end Go.Proofs.YtojkdmkeankcgaaGreat
