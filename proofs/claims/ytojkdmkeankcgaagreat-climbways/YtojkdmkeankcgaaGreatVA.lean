/-
  Several texts in one.
-/
import Derived.Test.YtojkdmkeankcgaaGreatZDijkP
import Derived.Test.YtojkdmkeankcgaaGreatInts
import Derived.Test.YtojkdmkeankcgaaGreatZRs
import Derived.Test.YtojkdmkeankcgaaGreatZLm
import Derived.Test.YtojkdmkeankcgaaGreatRoadIn
import Derived.DeepKeys4
/-  Ways, plain: a list of places, edge by edge. -/
namespace Go.Proofs.YtojkdmkeankcgaaGreat
open Go.RowKit Go.Sort

/-- The weight of a list of places, edge by edge. -/
def weighL (W : Nat → Nat → Option Int) : List Nat → Option Int
  | [] => none
  | [_] => some 0
  | a :: b :: r => oadd (W a b) (weighL W (b :: r))
/-- A way from s to t. -/
structure WayOk (n : Nat) (W : Nat → Nat → Option Int) (s t : Nat) (d : Int) (L : List Nat) : Prop where
  sum : weighL W L = some d
  first : L.head? = some s
  last : L.getLast? = some t
  all : ∀ x ∈ L, x < n
  len : L.length ≤ 32
def natsI (L : List Nat) : List Int := L.map Int.ofNat
theorem natsI_app (L M : List Nat) : natsI (L ++ M) = natsI L ++ natsI M := by simp [natsI]
theorem natsI_rev (L : List Nat) : (natsI L).reverse = natsI L.reverse := by simp [natsI]
theorem natsI_len (L : List Nat) : (natsI L).length = L.length := by simp [natsI]
end Go.Proofs.YtojkdmkeankcgaaGreat
/-  Plain: a part of a shortest way is a shortest way. -/
namespace Go.Proofs.YtojkdmkeankcgaaGreat
open Go.RowKit Go.Sort

section
variable {n : Nat} {W : Nat → Nat → Option Int}
theorem weighL_split (v : Nat) (B : List Nat) : ∀ A : List Nat, weighL W (A ++ v :: B) = oadd (weighL W (A ++ [v])) (weighL W (v :: B))
  | [] => by
    show _ = oadd (some 0) _
    cases h : weighL W (v :: B) with
    | none => rw [List.nil_append, h]; rfl
    | some x => rw [List.nil_append, h]; show some x = some (0 + x); rw [Int.zero_add]
  | [a] => by
    show oadd (W a v) (weighL W (v :: B)) = oadd (oadd (W a v) (some 0)) _
    cases W a v with
    | none => rfl
    | some x => show _ = oadd (some (x + 0)) _; rw [Int.add_zero]
  | a :: b :: r => by
    show oadd (W a b) (weighL W ((b :: r) ++ v :: B)) = oadd (oadd (W a b) (weighL W ((b :: r) ++ [v]))) _
    rw [weighL_split v B (b :: r), oadd_assoc]
theorem way_of_list : ∀ (L : List Nat) (a b : Nat) (d : Int), weighL W L = some d → L.head? = some a → L.getLast? = some b → (∀ x ∈ L, x < n) → Way n W a b d
  | [], a, b, d, _, h, _, _ => by cases h
  | [x], a, b, d, h, h1, h2, _ => by
    simp at h1 h2
    subst h1 h2
    have : (0 : Int) = d := by simpa [weighL] using h
    subst this
    exact .here
  | x :: y :: r, a, b, d, h, h1, h2, hall => by
    simp at h1
    subst h1
    obtain ⟨u, v, e1, e2, e3⟩ := oadd_some h
    have := way_of_list (y :: r) y b v e2 rfl (by simpa using h2) (fun z hz => hall z (by simp at hz ⊢; exact .inr hz))
    rw [← e3, show u + v = (0 + u) + v by omega]
    exact Way.trans (.on .here (hall x (by simp)) (hall y (by simp)) e1) this
theorem part_ok {p q i j : Nat} {d : Int} {L : List Nat} (hW : WOk n W) (h : WayOk n W p q d L) (hp : p < n) (hd : least n W p q = some d) (hij : i ≤ j) (hj : j < L.length) :
    ∃ x, least n W L[i]! L[j]! = some x ∧ WayOk n W L[i]! L[j]! x ((L.drop i).take (j + 1 - i)) := by
  have hi : i < L.length := by omega
  rw [getElem!_pos L i hi, getElem!_pos L j hj]
  have e1 : L = L.take i ++ L[i] :: L.drop (i + 1) := by rw [← List.drop_eq_getElem_cons hi, List.take_append_drop]
  have e1b : L.drop i = L[i] :: L.drop (i + 1) := List.drop_eq_getElem_cons hi
  have e2 : L.drop i = (L.drop i).take (j - i) ++ L[j] :: L.drop (j + 1) := by
    have : (L.drop i).drop (j - i) = L[j] :: L.drop (j + 1) := by rw [List.drop_drop, show i + (j - i) = j by omega]; exact List.drop_eq_getElem_cons hj
    rw [← this, List.take_append_drop]
  have e3 : (L.drop i).take (j + 1 - i) = (L.drop i).take (j - i) ++ [L[j]] := by
    rw [show j + 1 - i = (j - i) + 1 by omega, List.take_succ_eq_append_getElem (by rw [List.length_drop]; omega), List.getElem_drop]
    congr 2
    simp only [show i + (j - i) = j by omega]
  have s1 : weighL W L = oadd (weighL W (L.take i ++ [L[i]])) (weighL W (L.drop i)) := by
    rw [e1b, ← weighL_split, ← e1]
  have s2 : weighL W (L.drop i) = oadd (weighL W ((L.drop i).take (j + 1 - i))) (weighL W (L[j] :: L.drop (j + 1))) := by
    rw [e3, ← weighL_split, ← e2]
  have hs := h.sum
  rw [s1, s2] at hs
  obtain ⟨x1, y1, h1, h2, h3⟩ := oadd_some hs
  obtain ⟨x2, x3, h4, h5, h6⟩ := oadd_some h2
  have hall := h.all
  have aM : ∀ x ∈ (L.drop i).take (j + 1 - i), x < n := fun x hx => hall x (List.mem_of_mem_drop (List.mem_of_mem_take hx))
  have fM : ((L.drop i).take (j + 1 - i)).head? = some L[i] := by rw [e1b, show j + 1 - i = (j - i) + 1 by omega]; rfl
  have lM : ((L.drop i).take (j + 1 - i)).getLast? = some L[j] := by rw [e3]; simp
  have w2 := way_of_list _ _ _ _ h4 fM lM aM
  have w1 : Way n W p L[i] x1 := by
    refine way_of_list _ _ _ _ h1 ?_ List.getLast?_concat (fun x hx => ?_)
    · rw [← List.take_succ_eq_append_getElem hi, List.head?_take, if_neg (by omega)]
      exact h.first
    · rw [List.mem_append] at hx
      rcases hx with hx | hx
      · exact hall x (List.mem_of_mem_take hx)
      · simp at hx; subst hx; exact hall _ (List.getElem_mem _)
  have w3 : Way n W L[j] q x3 := by
    refine way_of_list _ _ _ _ h5 rfl ?_ (fun x hx => ?_)
    · rw [← List.drop_eq_getElem_cons hj, List.getLast?_drop, if_neg (by omega)]
      exact h.last
    · rw [← List.drop_eq_getElem_cons hj] at hx
      exact hall x (List.mem_of_mem_drop hx)
  have hIi : L[i] < n := hall _ (List.getElem_mem _)
  have hIj : L[j] < n := hall _ (List.getElem_mem _)
  have hl := least_is hW L[i] hIi
  obtain ⟨y, hy1, hy2⟩ := hl.le w2
  have w2' := hl.way _ _ hIj hy1
  obtain ⟨z, hz1, hz2⟩ := (least_is hW p hp).le ((w1.trans w2').trans w3)
  rw [hd] at hz1
  cases hz1
  have : y = x2 := by omega
  subst this
  exact ⟨y, hy1, h4, fM, lM, aM, Nat.le_trans (Nat.le_trans (List.length_take_le' _ _) (by rw [List.length_drop]; omega)) h.len⟩
end
end Go.Proofs.YtojkdmkeankcgaaGreat
/-  Ways joined so that no place comes twice: plain. -/
namespace Go.Proofs.YtojkdmkeankcgaaGreat

/-- A way from s to t that comes to no place twice, and weighs at most d. -/
structure WayLe (n : Nat) (W : Nat → Nat → Option Int) (s t : Nat) (d : Int) (L : List Nat) : Prop where
  sum : ∃ x, weighL W L = some x ∧ x ≤ d
  first : L.head? = some s
  last : L.getLast? = some t
  all : ∀ x ∈ L, x < n
  nd : L.Nodup
theorem nodupN_len : ∀ (n : Nat) (L : List Nat), L.Nodup → (∀ x ∈ L, x < n) → L.length ≤ n
  | 0, L, _, h => by
    cases L with
    | nil => simp
    | cons a r => have := h a (List.mem_cons_self ..); omega
  | n + 1, L, hn, h => by
    by_cases hm : n ∈ L
    · have h1 := nodupN_len n (L.erase n) (hn.erase n) fun x hx => by
        have h2 := hn.mem_erase_iff.1 hx
        have := h x h2.2
        omega
      rw [List.length_erase_of_mem hm] at h1
      omega
    · have := nodupN_len n L hn fun x hx => by
        have h1 := h x hx
        have h2 : x ≠ n := fun e => hm (e ▸ hx)
        omega
      omega
def joinS (L : List Nat) (p : Nat) : List Nat := L.takeWhile (fun q => decide (q ≠ p)) ++ [p]
def joinM (a b : List Nat) : List Nat := b.foldl joinS a
theorem take_split {p : Nat} : ∀ {L : List Nat}, p ∈ L → ∃ B, L = L.takeWhile (fun q => decide (q ≠ p)) ++ p :: B
  | [], h => by cases h
  | a :: r, h => by
    by_cases e : a = p
    · exact ⟨r, by simp [e]⟩
    · obtain ⟨B, hB⟩ := take_split (p := p) (L := r) ((List.mem_cons.1 h).resolve_left fun h' => e h'.symm)
      refine ⟨B, ?_⟩
      rw [List.takeWhile_cons, if_pos (by simpa using e), List.cons_append, ← hB]
theorem take_none {p : Nat} : ∀ {L : List Nat}, p ∉ L → L.takeWhile (fun q => decide (q ≠ p)) = L
  | [], _ => rfl
  | a :: r, h => by
    have e : a ≠ p := fun e => h (e ▸ List.mem_cons_self ..)
    rw [List.takeWhile_cons, if_pos (by simpa using e), take_none fun h' => h (List.mem_cons_of_mem _ h')]
section
variable {n : Nat} {W : Nat → Nat → Option Int}
theorem weighL_pos (hW : ∀ a b x, W a b = some x → 0 ≤ x) : ∀ (L : List Nat) (d : Int), weighL W L = some d → 0 ≤ d
  | [], _, h => by cases h
  | [_], _, h => by cases h; omega
  | a :: b :: r, d, h => by
    have h' : oadd (W a b) (weighL W (b :: r)) = some d := h
    cases e1 : W a b with
    | none => rw [e1] at h'; cases h'
    | some x =>
      cases e2 : weighL W (b :: r) with
      | none => rw [e1, e2] at h'; cases h'
      | some y =>
        rw [e1, e2] at h'
        cases h'
        have := hW a b x e1
        have := weighL_pos hW (b :: r) y e2
        show 0 ≤ x + y
        omega
theorem WayLe.len {s t : Nat} {d : Int} {L : List Nat} (h : WayLe n W s t d L) : L.length ≤ n := nodupN_len n L h.nd h.all
theorem WayLe.le {s t : Nat} {d d' : Int} {L : List Nat} (h : WayLe n W s t d L) (hd : d ≤ d') : WayLe n W s t d' L := by
  obtain ⟨x, h1, h2⟩ := h.sum
  exact ⟨⟨x, h1, by omega⟩, h.first, h.last, h.all, h.nd⟩
theorem joinS_way (hW : ∀ a b x, W a b = some x → 0 ≤ x) {s t p : Nat} {d e : Int} {L : List Nat} (h : WayLe n W s t d L) (hp : p < n) (he : 0 ≤ e) (hst : p = t ∨ W t p = some e) : WayLe n W s p (d + e) (joinS L p) := by
  obtain ⟨x, hx, hxd⟩ := h.sum
  by_cases hm : p ∈ L
  · obtain ⟨B, hB⟩ := take_split hm
    unfold joinS
    generalize L.takeWhile (fun q => decide (q ≠ p)) = A at hB
    subst hB
    rw [weighL_split] at hx
    have hf := h.first
    have ha := h.all
    have hn := h.nd
    refine ⟨?_, ?_, by simp, fun y hy => ha y (by simp at hy ⊢; rcases hy with hy | hy; exact .inl hy; exact .inr (.inl hy)), ?_⟩
    · cases e1 : weighL W (A ++ [p]) with
      | none => rw [e1] at hx; cases hx
      | some y =>
        cases e2 : weighL W (p :: B) with
        | none => rw [e1, e2] at hx; cases hx
        | some z =>
          rw [e1, e2] at hx
          have hz := weighL_pos hW _ _ e2
          have : x = y + z := by cases hx; rfl
          exact ⟨y, rfl, by omega⟩
    · cases A with
      | nil => exact hf
      | cons a r => exact hf
    · exact hn.sublist (by
        rw [show A ++ p :: B = (A ++ [p]) ++ B by simp]
        exact List.sublist_append_left _ _)
  · unfold joinS
    rw [take_none hm]
    have hne : L ≠ [] := fun e => by have := h.last; rw [e] at this; cases this
    obtain ⟨A, rfl⟩ : ∃ A, L = A ++ [t] := by
      have h1 := h.last
      rw [List.getLast?_eq_some_getLast hne] at h1
      cases h1
      exact ⟨L.dropLast, (List.dropLast_concat_getLast hne).symm⟩
    have hpt : p ≠ t := fun e => hm (by rw [e]; simp)
    have hwt := hst.resolve_left hpt
    refine ⟨⟨x + e, ?_, by omega⟩, ?_, by simp, fun y hy => ?_, ?_⟩
    · rw [List.append_assoc, List.singleton_append, weighL_split, hx]
      show oadd (some x) (oadd (W t p) (some 0)) = _
      rw [hwt]
      show some (x + (e + 0)) = _
      congr 1
      omega
    · have := h.first
      cases A with
      | nil => exact this
      | cons a r => exact this
    · rcases List.mem_append.1 hy with hy | hy
      · exact h.all y hy
      · simp at hy; subst hy; exact hp
    · rw [List.nodup_append]
      refine ⟨h.nd, by simp, fun a ha b hb => ?_⟩
      simp at hb
      subst hb
      exact fun e => hm (e ▸ ha)
theorem foldS_way (hW : ∀ a b x, W a b = some x → 0 ≤ x) {s u : Nat} : ∀ (r : List Nat) {v : Nat} {d y : Int} {L : List Nat}, WayLe n W s v d L → weighL W (v :: r) = some y → (v :: r).getLast? = some u → (∀ x ∈ r, x < n) → WayLe n W s u (d + y) (r.foldl joinS L)
  | [], v, d, y, L, h, hy, hl, _ => by
    cases hy
    cases hl
    exact h.le (by omega)
  | p :: r, v, d, y, L, h, hy, hl, ha => by
    have hy' : oadd (W v p) (weighL W (p :: r)) = some y := hy
    cases e1 : W v p with
    | none => rw [e1] at hy'; cases hy'
    | some a =>
      cases e2 : weighL W (p :: r) with
      | none => rw [e1, e2] at hy'; cases hy'
      | some b =>
        rw [e1, e2] at hy'
        have hab : y = a + b := by cases hy'; rfl
        have h1 := joinS_way hW h (ha p (List.mem_cons_self ..)) (hW _ _ _ e1) (.inr e1)
        have h2 := foldS_way hW r h1 e2 (by rw [List.getLast?_cons_cons] at hl; exact hl) fun x hx => ha x (List.mem_cons_of_mem _ hx)
        exact h2.le (by omega)
/-- Two ways, the second from where the first ends. -/
theorem joinM_way (hW : ∀ a b x, W a b = some x → 0 ≤ x) {s t u : Nat} {d e : Int} {a b : List Nat} (ha : WayLe n W s t d a) (hb : WayLe n W t u e b) : WayLe n W s u (d + e) (joinM a b) := by
  obtain ⟨y, hy, hye⟩ := hb.sum
  cases b with
  | nil => have := hb.first; cases this
  | cons v r =>
    have hv : v = t := by have := hb.first; cases this; rfl
    subst hv
    have h1 := joinS_way hW (e := 0) ha (hb.all v (List.mem_cons_self ..)) (Int.le_refl 0) (.inl rfl)
    have h2 := foldS_way hW r (h1.le (d' := d) (by omega)) hy hb.last fun x hx => hb.all x (List.mem_cons_of_mem _ hx)
    exact h2.le (by omega)
/-- A way of no more than the least weight is a shortest one. -/
theorem WayLe.ok (hn : n ≤ 32) {s t : Nat} {d : Int} {L : List Nat} (h : WayLe n W s t d L) (hmin : ∀ x, Way n W s t x → d ≤ x) : WayOk n W s t d L := by
  obtain ⟨x, h1, h2⟩ := h.sum
  have h3 := hmin x (way_of_list L s t x h1 h.first h.last h.all)
  have : x = d := by omega
  subst this
  exact ⟨h1, h.first, h.last, h.all, by have := h.len; omega⟩
/-- A link that is an edge. -/
theorem edge_way {a b : Nat} {x : Int} (ha : a < n) (hb : b < n) (hne : a ≠ b) (hx : W a b = some x) : WayLe n W a b x [a, b] := by
  refine ⟨⟨x, ?_, Int.le_refl _⟩, rfl, rfl, fun y hy => ?_, by simp [hne]⟩
  · show oadd (W a b) (some 0) = _
    rw [hx]
    show some (x + 0) = _
    congr 1
    omega
  · simp at hy
    rcases hy with rfl | rfl
    · exact ha
    · exact hb
end
end Go.Proofs.YtojkdmkeankcgaaGreat
/-  Plain: of a place's links up one alone leads to a place, of its links down one alone comes from it; and a link's way. -/
namespace Go.Proofs.YtojkdmkeankcgaaGreat

theorem upL_rise (n : Nat) (U : Mx) (p : Nat) : (upL n U p).Pairwise fun x y => x.2.1 < y.2.1 := by
  unfold upL
  rw [List.pairwise_filterMap]
  refine List.Pairwise.imp ?_ List.pairwise_lt_range
  intro a b h x hx y hy
  obtain ⟨_, _, rfl⟩ := Option.map_eq_some_iff.1 hx
  obtain ⟨_, _, rfl⟩ := Option.map_eq_some_iff.1 hy
  exact h
theorem dnL_rise (n : Nat) (V : Mx) (q : Nat) : (dnL n V q).Pairwise fun x y => x.1 < y.1 := by
  unfold dnL
  rw [List.pairwise_filterMap]
  refine List.Pairwise.imp ?_ List.pairwise_lt_range
  intro a b h x hx y hy
  obtain ⟨_, _, rfl⟩ := Option.map_eq_some_iff.1 hx
  obtain ⟨_, _, rfl⟩ := Option.map_eq_some_iff.1 hy
  exact h
theorem rise_one {L : List Lnk} {f : Lnk → Nat} (h : L.Pairwise fun x y => f x < f y) {k : Lnk} (hk : k ∈ L) : ∃ j, j < L.length ∧ L[j]! = k ∧ ∀ i, i < L.length → i ≠ j → f L[i]! ≠ f k := by
  obtain ⟨j, hj, e⟩ := List.mem_iff_getElem.1 hk
  refine ⟨j, hj, by rw [getElem!_pos L j hj]; exact e, fun i hi hne => ?_⟩
  rw [getElem!_pos L i hi, ← e]
  rcases Nat.lt_or_gt_of_ne hne with h1 | h1
  · have := List.pairwise_iff_getElem.1 h i j hi hj h1
    omega
  · have := List.pairwise_iff_getElem.1 h j i hj hi h1
    omega
theorem upL_one {n p q : Nat} {U : Mx} {k : Lk} (hq : q < n) (h : U p q = some k) : ∃ j, j < (upL n U p).length ∧ (upL n U p)[j]! = (p, q, k) ∧ ∀ i, i < (upL n U p).length → i ≠ j → (upL n U p)[i]!.2.1 ≠ q :=
  rise_one (f := fun x => x.2.1) (upL_rise n U p) (k := (p, q, k)) (List.mem_filterMap.2 ⟨q, List.mem_range.2 hq, by rw [h]; rfl⟩)
theorem dnL_one {n p q : Nat} {V : Mx} {k : Lk} (hp : p < n) (h : V p q = some k) : ∃ j, j < (dnL n V q).length ∧ (dnL n V q)[j]! = (p, q, k) ∧ ∀ i, i < (dnL n V q).length → i ≠ j → (dnL n V q)[i]!.1 ≠ p :=
  rise_one (f := fun x => x.1) (dnL_rise n V q) (k := (p, q, k)) (List.mem_filterMap.2 ⟨p, List.mem_range.2 hp, by rw [h]; rfl⟩)
/-- What is known of ways between ends: each is the way of the link between them. -/
def Known (n : Nat) (W : Nat → Nat → Option Int) (K : Mx) (p q : Nat) (L : List Nat) : Prop := ∃ x, wtM K p q = some x ∧ WayLe n W p q x L
theorem known_edge {n : Nat} {W : Nat → Nat → Option Int} {K : Mx} {p q : Nat} {x m : Int} (hK : K p q = some (x, m)) (hp : p < n) (hq : q < n) (hne : p ≠ q) (hW : W p q = some x) : Known n W K p q [p, q] := ⟨x, wtM_some.2 ⟨m, hK⟩, edge_way hp hq hne hW⟩
theorem known_join {n : Nat} {W : Nat → Nat → Option Int} {K : Mx} {p q c : Nat} {x y z m : Int} {a b : List Nat} (hpos : ∀ a b x, W a b = some x → 0 ≤ x) (hK : K p q = some (x, m)) (hy : wtM K p c = some y) (hz : wtM K c q = some z) (hx : x = y + z) (ha : Known n W K p c a) (hb : Known n W K c q b) : Known n W K p q (joinM a b) := by
  obtain ⟨y', h1, h2⟩ := ha
  obtain ⟨z', h3, h4⟩ := hb
  rw [hy] at h1
  rw [hz] at h3
  cases h1
  cases h3
  subst hx
  exact ⟨_, wtM_some.2 ⟨m, hK⟩, joinM_way hpos h2 h4⟩
end Go.Proofs.YtojkdmkeankcgaaGreat
/-  Maps keyed by two places: the key's law. -/
namespace Go.Proofs.YtojkdmkeankcgaaGreat
open Go.RowKit Go.Sort Go.Maps Go.WideMaps

theorem law2 : Keyed Tryz.prog 126 := Keyed.of_law (deep_law_laid laidOut (m := 3) (by omega) (by decide +kernel) (by kernel_rfl) (by kernel_rfl))
def k2 (p q : Int) : Lit := .string (keyBytes [.int .i64 p, .int .i64 q])
theorem cells126 : Tryz.prog.cellsOf 126 = 2 := by kernel_rfl
theorem cells3' : Tryz.prog.cellsOf 3 = 1 := by kernel_rfl
theorem type126 : Tryz.prog.keyType 126 = true := by kernel_rfl
theorem types_some : ∃ d, Tryz.prog.types.size = d + 1 := ⟨Tryz.prog.types.size - 1, by have : 0 < Tryz.prog.types.size := of_decide_eq_true (by kernel_rfl); omega⟩
theorem key2 (p q : Int) (hp : Qu.I64 p) (hq : Qu.I64 q) : keyOf Tryz.prog 126 (.agg #[.int .i64 p, .int .i64 q]) = some (k2 p q) := by
  obtain ⟨d, hd⟩ := types_some
  have h1 : (Lit.int .i64 p).wf = true := hp.wf
  have h2 : (Lit.int .i64 q).wf = true := hq.wf
  unfold keyOf
  rw [hd]
  simp [Tryz.underlying126, type126, Value.formed, cells126, Program.keyLits, Tryz.underlying3, cells3', Value.cells, h1, h2, k2, List.range, List.range.loop]
/-- The key of the pair that c stands for. -/
def kc (n c : Nat) : Lit := k2 ((c / n : Nat) : Int) ((c % n : Nat) : Int)
theorem kc_of {n c : Nat} (hn : n ≤ 32) (hc : c < n * n) : keyOf Tryz.prog 126 (.agg #[.int .i64 ((c / n : Nat) : Int), .int .i64 ((c % n : Nat) : Int)]) = some (kc n c) := by
  have h0 : 0 < n := by
    rcases Nat.eq_zero_or_pos n with e | e
    · subst e; omega
    · exact e
  have h1 : c / n < n := Nat.div_lt_of_lt_mul hc
  have h2 : c % n < n := Nat.mod_lt _ h0
  exact key2 _ _ (natI64 (by omega)) (natI64 (by omega))
theorem kc_ne {n c c' : Nat} (hn : n ≤ 32) (hc : c < n * n) (hc' : c' < n * n) (h : c ≠ c') : kc n c ≠ kc n c' := fun e => by
  have h1 := kc_of hn hc
  rw [e] at h1
  have h2 := law2.inj h1 (kc_of hn hc')
  simp only [Value.agg.injEq] at h2
  have h3 : c / n = c' / n ∧ c % n = c' % n := by
    simp at h2
    omega
  exact h (by rw [← Nat.div_add_mod c n, ← Nat.div_add_mod c' n, h3.1, h3.2])
theorem kc_key {n c : Nat} (hn : n ≤ 32) (hc : c < n * n) : WideAt.IsKeyLit (kc n c) := law2.key (kc_of hn hc)
abbrev OwnV2 (w : World) (mb n : Nat) (D : DataW Value) : Prop := w.ownsMap Tryz.prog 126 heldE mb n D
theorem OwnV2.tight {w : World} {mb n : Nat} {D : DataW Value} (h : OwnV2 w mb n D) : OwnV2 w mb (Maps.size D) D := by
  obtain ⟨es, clock, hb, F, hs, rfl⟩ := h
  exact ⟨es, clock, hb, F, by simp [Maps.size, length_sorted], rfl⟩
/-- D holds F, by the pairs' numbers. -/
structure MapD2 (n : Nat) (D : DataW Value) (F : Nat → Option Value) : Prop where
  has : ∀ c, c < n * n → Maps.has D (kc n c) = (F c).isSome
  val : ∀ c v, c < n * n → F c = some v → ∀ zd, D.atKey (kc n c) zd = .held v
  size : Maps.size D = num F (n * n)
def MapAt2 (n : Nat) (w : World) (mb : Nat) (F : Nat → Option Value) : Prop := ∃ D, OwnV2 w mb (n * n) D ∧ MapD2 n D F
section
variable {n mb c : Nat} {w w' : World} {F : Nat → Option Value}
theorem MapAt2.of_block (h : MapAt2 n w mb F) (e : w'.heap[mb]? = w.heap[mb]?) : MapAt2 n w' mb F := by
  obtain ⟨D, ⟨es, clock, hb, G, hs, hD⟩, hp⟩ := h
  exact ⟨D, ⟨es, clock, e.trans hb, G, hs, hD⟩, hp⟩
theorem MapAt2.lt (h : MapAt2 n w mb F) : mb < w.heap.size := by
  obtain ⟨D, hD, _⟩ := h
  exact hD.lt
theorem MapAt2.made (n : Nat) (w : World) : MapAt2 n (w.alloc (.map #[] 0)) w.heap.size fun _ => none :=
  ⟨.map [], (World.ownsMap_made w Tryz.prog 126 heldE).mono (Nat.zero_le _), ⟨fun _ _ => rfl, fun _ _ _ h => (by cases h), by rw [num_zero]; rfl⟩⟩
theorem MapAt2.look {t e : TypeId} (h : MapAt2 n w mb F) (ht : Tryz.prog.underlying t = some (.map 126 e)) {z : Value} (hz : (zeroValue e).run Tryz.prog w = .ok z w) (hn : n ≤ 32) (hc : c < n * n) :
    (Instr.lookup t (.map (some mb)) (.agg #[.int .i64 ((c / n : Nat) : Int), .int .i64 ((c % n : Nat) : Int)]) true).run Tryz.prog w = .ok (.tuple #[(F c).getD z, .bool (F c).isSome]) w := by
  obtain ⟨D, hD, hp⟩ := h
  obtain ⟨v', ps', r3, r4⟩ := hD.look_ok law2 ht hz (show heldE z = some (.held z, []) from rfl) (kc_of hn hc)
  have hv : D.atKey (kc n c) (.held z) = .held ((F c).getD z) := by
    cases e : F c with
    | none => exact atKey_of_not_has (by rw [hp.has c hc, e]; rfl) _
    | some v => exact hp.val c v hc e _
  rw [hv] at r4
  simp only [heldE, Option.some.injEq, Prod.mk.injEq, DataW.held.injEq] at r4
  rw [hp.has c hc] at r3
  rw [r3, r4.1]
theorem MapAt2.store {t e : TypeId} (h : MapAt2 n w mb F) (ht : Tryz.prog.underlying t = some (.map 126 e)) (hn : n ≤ 32) (hc : c < n * n) (v : Value) :
    ∃ w', (Instr.mapUpdate t (.map (some mb)) (.agg #[.int .i64 ((c / n : Nat) : Int), .int .i64 ((c % n : Nat) : Int)]) v).run Tryz.prog w = .ok () w' ∧ MapAt2 n w' mb (upd F c (some v)) ∧ w.mapTurned w' mb := by
  obtain ⟨D, hD, hp⟩ := h
  have hnn : n * n ≤ 1024 := Nat.mul_le_mul hn hn
  obtain ⟨w', r1, r2, r3⟩ := hD.store law2 ht (by unfold maxLen; omega) (kc_of hn hc) (show heldE v = some (.held v, []) from rfl)
  have hm := hD.isMap
  refine ⟨w', r1, ⟨_, World.ownsMap.mono (OwnV2.tight r2) ?_, fun p hp' => ?_, fun p u hp' e zd => ?_, ?_⟩, r3⟩
  · rw [size_put (hD.tidy law2), hp.has c hc, hp.size]
    have := num_put F c v (n * n) hc
    have h2 := num_le (upd F c (some v)) (n * n)
    rw [this] at h2
    exact h2
  · by_cases e : p = c
    · subst e; rw [has_put_same hm (kc_key hn hp'), upd_same]; rfl
    · rw [has_put_other (kc_ne hn hp' hc e), upd_other _ _ e]; exact hp.has p hp'
  · by_cases e2 : p = c
    · subst e2; rw [upd_same] at e; cases e; rw [atKey_put_same hm (kc_key hn hp')]
    · rw [upd_other _ _ e2] at e; rw [atKey_put_other (kc_ne hn hp' hc e2)]; exact hp.val p u hp' e zd
  · rw [size_put (hD.tidy law2), hp.has c hc, hp.size, num_put F c v (n * n) hc]
end
end Go.Proofs.YtojkdmkeankcgaaGreat
