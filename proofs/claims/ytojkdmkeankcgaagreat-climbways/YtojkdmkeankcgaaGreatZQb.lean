/-
  Several texts in one.
-/
import Derived.Test.YtojkdmkeankcgaaGreatZQa
import Derived.Handy
/-  Plain: a queue as a list of pairs with different items: what Put, Key, Drop and Take do to it. -/
namespace Go.Proofs.YtojkdmkeankcgaaGreat.Qu

def items (X : List Pr) : List Int := X.map (·.1)
def Dis (X : List Pr) : Prop := (items X).Nodup
def repl (x k : Int) (p : Pr) : Pr := if p.1 = x then (x, k) else p
/-- An item's pair. -/
def look (X : List Pr) (x : Int) : Option Pr := X.find? (fun p => decide (p.1 = x))
def dropM (X : List Pr) (x : Int) : List Pr := X.filter (fun p => decide (p.1 ≠ x))
def putM (X : List Pr) (x k : Int) : List Pr × Bool :=
  match look X x with
  | none => if X.length < 4096 then (X ++ [(x, k)], true) else (X, false)
  | some p => if k < p.2 then (X.map (repl x k), true) else (X, false)
def keyM (X : List Pr) (x : Int) : Int × Bool :=
  match look X x with
  | none => (0, false)
  | some p => (p.2, true)
/-- The least of X. -/
def Least (X : List Pr) (p : Pr) : Prop := p ∈ X ∧ ∀ y ∈ X, lt y p = false

theorem Dis.perm {X Y : List Pr} (h : Dis X) (p : X.Perm Y) : Dis Y := (p.map _).nodup_iff.1 h
theorem Dis.inj {X : List Pr} (h : Dis X) {p q : Pr} (hp : p ∈ X) (hq : q ∈ X) (e : p.1 = q.1) : p = q := by
  induction X with
  | nil => cases hp
  | cons a r ih =>
    unfold Dis items at h
    rw [List.map_cons, List.nodup_cons] at h
    rcases List.mem_cons.1 hp with rfl | hp'
    · rcases List.mem_cons.1 hq with rfl | hq'
      · rfl
      · exact absurd (List.mem_map.2 ⟨q, hq', e.symm⟩) h.1
    · rcases List.mem_cons.1 hq with rfl | hq'
      · exact absurd (List.mem_map.2 ⟨p, hp', e⟩) h.1
      · exact ih h.2 hp' hq'
theorem look_none {X : List Pr} {x : Int} : look X x = none ↔ ∀ p ∈ X, p.1 ≠ x := by
  unfold look; rw [List.find?_eq_none]; simp
theorem look_some {X : List Pr} (h : Dis X) {x : Int} {p : Pr} : look X x = some p ↔ p ∈ X ∧ p.1 = x := by
  constructor
  · intro e
    exact ⟨List.mem_of_find?_eq_some e, by simpa using List.find?_some e⟩
  · rintro ⟨hp, rfl⟩
    cases e : look X p.1 with
    | none => exact absurd rfl (look_none.1 e p hp)
    | some q =>
      have h1 := List.mem_of_find?_eq_some e
      have h2 : q.1 = p.1 := by simpa using List.find?_some e
      rw [h.inj h1 hp h2]
theorem look_perm {X Y : List Pr} (h : Dis X) (p : X.Perm Y) (x : Int) : look X x = look Y x := by
  cases e : look Y x with
  | none => rw [look_none] at e ⊢; exact fun q hq => e q (p.mem_iff.1 hq)
  | some q => rw [look_some (h.perm p)] at e; rw [look_some h]; exact ⟨p.mem_iff.2 e.1, e.2⟩
theorem Least.uniq {X : List Pr} {p q : Pr} (h : Least X p) (k : Least X q) : p = q := le_anti (k.2 p h.1) (h.2 q k.1)
theorem Least.perm {X Y : List Pr} {p : Pr} (h : Least X p) (e : X.Perm Y) : Least Y p := ⟨e.mem_iff.1 h.1, fun y hy => h.2 y (e.mem_iff.2 hy)⟩
theorem least_ex : ∀ {X : List Pr}, X ≠ [] → ∃ p, Least X p
  | [], h => absurd rfl h
  | [a], _ => ⟨a, by simp, by simp [lt_irrefl]⟩
  | a :: b :: r, _ => by
    obtain ⟨p, hp, hl⟩ := least_ex (X := b :: r) (by simp)
    by_cases h : lt a p = true
    · refine ⟨a, by simp, fun y hy => ?_⟩
      rcases List.mem_cons.1 hy with rfl | hy'
      · exact lt_irrefl _
      · exact lt_le h (hl y hy')
    · refine ⟨p, by simp at hp ⊢; exact .inr hp, fun y hy => ?_⟩
      rcases List.mem_cons.1 hy with rfl | hy'
      · simpa using h
      · exact hl y hy'
theorem putM_perm {X Y : List Pr} (h : Dis X) (p : X.Perm Y) (x k : Int) : (putM X x k).1.Perm (putM Y x k).1 ∧ (putM X x k).2 = (putM Y x k).2 := by
  unfold putM
  rw [look_perm h p, p.length_eq]
  cases look Y x with
  | none => dsimp only; split <;> exact ⟨by first | exact p.append_right _ | exact p, rfl⟩
  | some q => dsimp only; split <;> exact ⟨by first | exact p.map _ | exact p, rfl⟩
theorem dropM_perm {X Y : List Pr} (p : X.Perm Y) (x : Int) : (dropM X x).Perm (dropM Y x) := p.filter _
theorem items_repl (X : List Pr) (x k : Int) : items (X.map (repl x k)) = items X := by
  unfold items
  rw [List.map_map]
  refine List.map_congr_left fun p _ => ?_
  simp only [Function.comp, repl]
  split
  · rename_i h; exact h.symm
  · rfl
theorem dis_put {X : List Pr} (h : Dis X) (x k : Int) : Dis (putM X x k).1 := by
  unfold putM
  cases e : look X x with
  | none =>
    dsimp only
    split
    · unfold Dis items
      rw [List.map_append, List.nodup_append]
      refine ⟨h, by simp, ?_⟩
      intro a ha b hb
      obtain ⟨p, hp, rfl⟩ := List.mem_map.1 ha
      simp at hb
      subst hb
      exact look_none.1 e p hp
    · exact h
  | some q =>
    dsimp only
    split
    · unfold Dis; rw [items_repl]; exact h
    · exact h
theorem dis_drop {X : List Pr} (h : Dis X) (x : Int) : Dis (dropM X x) := (List.filter_sublist.map _).nodup h
/-- Without the last pair. -/
theorem dropM_last {L : List Pr} {p : Pr} (h : Dis (L ++ [p])) : dropM (L ++ [p]) p.1 = L := by
  unfold dropM
  rw [List.filter_append]
  have h1 : L.filter (fun q => decide (q.1 ≠ p.1)) = L := by
    rw [List.filter_eq_self]
    intro q hq
    unfold Dis items at h
    rw [List.map_append, List.nodup_append] at h
    have := h.2.2 q.1 (List.mem_map.2 ⟨q, hq, rfl⟩) p.1 (by simp)
    simpa using this
  rw [h1]
  simp
theorem dropM_perm_last {L X : List Pr} {p : Pr} (hX : Dis X) (h : (L ++ [p]).Perm X) : L.Perm (dropM X p.1) := by
  have := dropM_perm h p.1
  rw [dropM_last (hX.perm h.symm)] at this
  exact this
theorem set_repl : ∀ {L : List Pr} {i : Nat}, Dis L → i < L.length → ∀ k, L.set i ((at' L i).1, k) = L.map (repl (at' L i).1 k)
  | [], _, _, h, _ => by simp at h
  | a :: r, 0, h, _, k => by
    unfold Dis items at h
    rw [List.map_cons, List.nodup_cons] at h
    have e : at' (a :: r) 0 = a := rfl
    rw [e, List.set_cons_zero, List.map_cons]
    congr 1
    · simp [repl]
    · have : r.map (repl a.1 k) = r.map id := List.map_congr_left fun q hq => by
        unfold repl
        rw [if_neg]
        · rfl
        · intro e2
          exact h.1 (List.mem_map.2 ⟨q, hq, e2⟩)
      rw [this, List.map_id]
  | a :: r, i + 1, h, hi, k => by
    have h0 := h
    unfold Dis items at h
    rw [List.map_cons, List.nodup_cons] at h
    have e : at' (a :: r) (i + 1) = at' r i := by simp [at']
    have hi' : i < r.length := by simpa using hi
    rw [e, List.set_cons_succ, List.map_cons, set_repl (L := r) h.2 hi' k]
    congr 1
    unfold repl
    rw [if_neg]
    intro e2
    refine h.1 (List.mem_map.2 ⟨at' r i, ?_, e2.symm⟩)
    have : at' r i = r[i] := by simp [at', List.getD_eq_getElem?_getD, hi']
    rw [this]; exact List.getElem_mem _
theorem mem_at {L : List Pr} {p : Pr} : p ∈ L ↔ ∃ i, i < L.length ∧ at' L i = p := by
  constructor
  · intro h
    obtain ⟨i, hi, e⟩ := List.getElem_of_mem h
    exact ⟨i, hi, by simp [at', List.getD_eq_getElem?_getD, hi, e]⟩
  · rintro ⟨i, hi, rfl⟩
    have : at' L i = L[i] := by simp [at', List.getD_eq_getElem?_getD, hi]
    rw [this]; exact List.getElem_mem _
theorem filter_one : ∀ {X : List Pr} {x : Int}, Dis X → (∃ p ∈ X, p.1 = x) → (dropM X x).length + 1 = X.length
  | [], _, _, h => by obtain ⟨p, hp, _⟩ := h; cases hp
  | a :: r, x, hd, h => by
    have hd2 := hd
    unfold Dis items at hd
    rw [List.map_cons, List.nodup_cons] at hd
    by_cases e : a.1 = x
    · have : dropM r x = r := by
        unfold dropM
        rw [List.filter_eq_self]
        intro q hq
        simp
        intro e2
        exact hd.1 (List.mem_map.2 ⟨q, hq, e2.trans e.symm⟩)
      have h2 : dropM (a :: r) x = dropM r x := by simp [dropM, e]
      rw [h2, this]; simp
    · have h2 : dropM (a :: r) x = a :: dropM r x := by simp [dropM, e]
      obtain ⟨p, hp, hpx⟩ := h
      have hpr : p ∈ r := by
        rcases List.mem_cons.1 hp with rfl | h'
        · exact absurd hpx e
        · exact h'
      have := filter_one (X := r) (x := x) hd.2 ⟨p, hpr, hpx⟩
      rw [h2]; simp; omega
end Go.Proofs.YtojkdmkeankcgaaGreat.Qu
/-  What the calls of the order's Push and Pop do. -/
namespace Go.Proofs.YtojkdmkeankcgaaGreat.Qu
open Go.RowKit Go.Maps

/-- The row is the one that it was, or a new one. -/
def Moved (n : Nat) (o o' : Option Nat) : Prop := o' = o ∨ ∃ g, o' = some g ∧ n ≤ g
section
variable {P : Program} (w : World)
theorem append_moved (base : Nat) (t ty e : TypeId) (i : TypeInfo) (z : Value) (size bytes : Nat) (ht : P.underlying t = some (.slice e)) (hi : P.info? e = some i) (hz : i.zero = some z)
    (hsize : i.size = size) (hby : i.bytes = bytes) (hzs : z.cells.size = size) (hsz : 0 < size)
    (v : Value) (n : Nat) (xs : List Value) (hown : w.ownsRow base e size v n xs)
    (a : Addr) (m c : Nat) (news : List Value) (hl : news.length = m * size) (hnews : ∀ j u, news[j]? = some u → w.cell? (a.add j) = some u) (h1 : ∀ u ∈ news, u.oneCell' = true)
    (h63 : n + m ≤ maxLen) (hbytes : (n + m) * bytes ≤ 140737488355328) (hbase : base ≤ w.heap.size) :
    ∃ v' w', (Builtin.append_ #[t, t] ty #[v, .slice (some a) m c]).run P w = .ok v' w' ∧ w'.ownsRow base e size v' (n + m) (xs ++ news) ∧ w.grownBy w' v.ownBlock ∧ Moved w.heap.size v.ownBlock v'.ownBlock := by
  obtain ⟨v', w', hr, ho, hg, _⟩ := run_append_own w base t ty e i z size bytes ht hi hz hsize hby hzs hsz v n xs hown a m c news hl hnews h1 h63 hbytes hbase
  refine ⟨v', w', hr, ho, hg, ?_⟩
  rcases hown.2 with ⟨rfl, rfl⟩ | ⟨g, cap, cur, rfl, hbg, hgg, hnc, hcm, hcs, htake⟩
  · have hx : xs = [] := List.eq_nil_of_length_eq_zero (by simpa using hown.1)
    subst hx
    obtain ⟨v2, w2, hr2, ho2, _, _⟩ := run_append_own w w.heap.size t ty e i z size bytes ht hi hz hsize hby hzs hsz (.slice none 0 0) 0 [] (World.ownsRow_nil _ _ _ _) a m c news hl hnews h1 h63 hbytes (Nat.le_refl _)
    rw [hr] at hr2
    cases hr2
    cases hv : v'.ownBlock with
    | none => exact .inl rfl
    | some g => exact .inr ⟨g, rfl, (ho2.lt g hv).1⟩
  · subst hsize
    by_cases hroom : n + m ≤ cap
    · have hfit : n * i.size + news.length ≤ cur.size := by rw [hl, hcs, ← Nat.add_mul]; exact Nat.mul_le_mul_right _ hroom
      have hr2 := run_append_room (P := P) w t ty e i ht hi g n cap cur hgg a m c news hl hnews h1 hroom hfit
      rw [hr] at hr2
      cases hr2
      exact .inl rfl
    · have holds : ∀ j u, xs[j]? = some u → w.cell? ((⟨g, 0, none⟩ : Addr).add j) = some u := hown.cells (g := g) rfl
      have hr2 := run_append_grow (P := P) w t ty e i z ht hi hz ⟨g, 0, none⟩ n cap xs hown.1 holds a m c news hl hnews (by omega) (by simp only [maxLen] at h63; omega) (growslice_fits (by omega) (by rw [hby]; exact hbytes))
      rw [hr] at hr2
      cases hr2
      exact .inr ⟨_, rfl, Nat.le_refl _⟩
end
theorem cells_new (w : World) (l : List Value) (t : TypeId) (n : Nat) (hn : n = w.heap.size) (j : Nat) (u : Value) (h : l[j]? = some u) : (w.alloc (.cells l.toArray t)).drew.cell? ((⟨n, 0, none⟩ : Addr).add j) = some u := by
  subst hn
  rw [add0]
  show (w.alloc (.cells l.toArray t)).cell? ⟨w.heap.size, j, none⟩ = _
  rw [cell_of_row _ w.heap.size j _ _ _ (heap_alloc_new w _)]
  simpa using h
theorem own_shape {w : World} {base e size n : Nat} {v : Value} {xs : List Value} (h : w.ownsRow base e size v n xs) : ∃ a c, v = .slice a n c := by
  rcases h.2 with ⟨rfl, rfl⟩ | ⟨g, cap, cur, rfl, _⟩
  · exact ⟨none, 0, rfl⟩
  · exact ⟨_, cap, rfl⟩
/-- An append as one step of a region that draws. -/
theorem step_append {P : Program} {ops : Array Oper} {o : Oper} {a : Act} {w : World} {K : Act → World → Prop} {Q : Exit → Act → World → Prop} {E : Prop}
    (hg : o.guard = none) (s x : Operand) (t : TypeId) (hop : o.op = Op.call { callee := Callee.builtin Builtin.append, args := #[s, x], argTypes := #[t, t] })
    (base : Nat) (e : TypeId) (i : TypeInfo) (z : Value) (size bytes : Nat) (ht : P.underlying t = some (.slice e)) (hi : P.info? e = some i) (hz : i.zero = some z)
    (hsize : i.size = size) (hby : i.bytes = bytes) (hzs : z.cells.size = size) (hsz : 0 < size)
    (v : Value) (n : Nat) (xs : List Value) (hs : a.eval s = v) (hown : w.ownsRow base e size v n xs)
    (ad : Addr) (m c : Nat) (news : List Value) (hx : a.eval x = .slice (some ad) m c) (hl : news.length = m * size) (hnews : ∀ j u, news[j]? = some u → w.cell? (ad.add j) = some u) (h1 : ∀ u ∈ news, u.oneCell' = true)
    (h63 : n + m ≤ maxLen) (hbytes : (n + m) * bytes ≤ 140737488355328) (hbase : base ≤ w.heap.size)
    (hK : ∀ v' w', w'.ownsRow base e size v' (n + m) (xs ++ news) → w.grownBy w' v.ownBlock → Moved w.heap.size v.ownBlock v'.ownBlock → K (a.put o.dst v') w') :
    if Region.wanted o (yielded ops a.tmps) = true then Oper.wp P o a w K Q else E := by
  have hw : Region.wanted o (yielded ops a.tmps) = true := by simp [Region.wanted, hg]
  rw [if_pos hw]
  obtain ⟨v', w', hr, h2, h3, h4⟩ := append_moved (P := P) w base t o.type e i z size bytes ht hi hz hsize hby hzs hsz v n xs hown ad m c news hl hnews h1 h63 hbytes hbase
  unfold Oper.wp
  simp [execOp, hop, resolve, invoke, builtin, hs, hx, hr, Result.andThen]
  exact hK v' w' h2 h3 h4

theorem info49 : (Tryz.prog.info? 143).map (fun i => (i.zero, i.size, i.bytes)) = some (some (.agg #[.int .i64 0, .int .i64 0]), 2, 16) := by kernel_rfl

theorem at_snoc (L : List Pr) (p : Pr) (k : Nat) : at' (L ++ [p]) k = if k < L.length then at' L k else if k = L.length then p else (0, 0) := by
  unfold at'
  simp only [List.getD_eq_getElem?_getD]
  split
  · rw [List.getElem?_append_left (by omega)]
  · split
    · rename_i h; subst h; simp
    · rw [List.getElem?_eq_none (by simp; omega)]; rfl
theorem Pl.snoc {D : DataW Unit} {L : List Pr} (h : Pl D L) (ht : Tidy D) (p : Pr) (hp : ∀ i, i < L.length → (at' L i).1 ≠ p.1) : Pl (D.put (ki p.1) (dI L.length)) (L ++ [p]) := by
  have hm := ht.isMap
  refine ⟨fun k hk => ?_, fun x hx => ?_, ?_⟩
  · rw [at_snoc]
    split
    · rename_i hlt
      rw [has_put_other (ki_ne (hp k hlt)), atKey_put_other (ki_ne (hp k hlt))]
      exact h.here k hlt
    · have : k = L.length := by simp at hk; omega
      rw [if_pos this]
      exact ⟨has_put_same hm (ki_key _) _, by rw [atKey_put_same hm (ki_key _), this]⟩
  · have hn : x ≠ p.1 := by have := hx L.length (by simp); rw [at_snoc, if_neg (by omega), if_pos rfl] at this; exact this.symm
    rw [has_put_other (ki_ne hn)]
    refine h.none x fun i hi => ?_
    have := hx i (by simp; omega)
    rwa [at_snoc, if_pos hi] at this
  · rw [size_put ht, h.none p.1 hp, h.size]
    simp

section
variable {w : World} {ob mb : Nat} {v : Value} {L M : List Pr} {S : Nat → Prop}
theorem assert49 (w : World) (u : Value) : (Instr.typeAssert (.iface 143 u) 20 143 false).run Tryz.prog w = .ok u w := by kernel_rfl

theorem push_end {W2 w3 : World} {o : Obj} {x k : Int} {v' : Value} (HO : Ord w ob mb v L L S) (HF2 : Fr S w W2) (HM : MapIs W2 mb (L ++ [(x, k)])) (hx : I64 x) (hk : I64 k) (hl : L.length < 4096)
    (hown3 : w3.ownsRow 0 143 2 v' (L.length + 1) (flat L ++ [.int .i64 x, .int .i64 k])) (hg3 : (W2.alloc o).drew.grownBy w3 v.ownBlock) (hm3 : Moved (W2.alloc o).drew.heap.size v.ownBlock v'.ownBlock)
    (hbo : w3.heap[ob]? = some (.cells #[v, .map (some mb)] 115 (0, 0))) :
    ∃ u, Ord (w3.setCell ⟨ob, 0, none⟩ v') ob mb u (L ++ [(x, k)]) (L ++ [(x, k)]) (fun b => S b ∨ w.heap.size ≤ b ∧ b < (w3.setCell ⟨ob, 0, none⟩ v').heap.size) ∧ Fr S w (w3.setCell ⟨ob, 0, none⟩ v') := by
  have hF3 : Fr S w w3 := ((HF2.alloc o).drew).trans0 (Fr.of_grown hg3 (fun b e => HO.sr b e))
  have hF4 := hF3.setCell ⟨ob, 0, none⟩ v' (.inl HO.so)
  have hsz : (w3.setCell ⟨ob, 0, none⟩ v').heap.size = w3.heap.size := by simp [World.setCell]
  have hmb2 : mb < W2.heap.size := Nat.lt_of_lt_of_le (HO.lt _ HO.sm) HF2.size
  have hg' : ∀ g, v'.ownBlock = some g → S g ∨ w.heap.size ≤ g ∧ g < w3.heap.size := by
    intro g e
    have hlt := (hown3.lt g e).2
    rcases hm3 with h | ⟨g2, h, h2⟩
    · exact .inl (HO.sr g (h ▸ e))
    · have : g2 = g := by rw [h] at e; simpa using e
      subst this
      have h3 := HF2.size
      have h4 : (W2.alloc o).drew.heap.size = W2.heap.size + 1 := by show (W2.alloc o).heap.size = _; simp
      exact .inr ⟨by omega, hlt⟩
  have hog : ∀ g, v'.ownBlock = some g → g ≠ ob := by
    intro g e e2
    subst e2
    rcases hown3.2 with ⟨rfl, _⟩ | ⟨g2, cap, cur, rfl, _, hb, _⟩
    · cases e
    · have e3 : g2 = g := by simpa [Value.ownBlock] using e
      rw [e3, hbo] at hb
      simp at hb
  refine ⟨v', ⟨?_, ?_, ?_, .inl HO.so, .inl HO.sm, ?_, ?_, ?_, by simp; omega⟩, hF4⟩
  · rw [heap_setCell_same w3 ob 0 _ _ v' hbo]; rfl
  · have h1 : Row w3 v' (L ++ [(x, k)]) := by
      unfold Row
      rw [flat_app, List.length_append]
      exact hown3
    exact h1.of_block (fun g e => heap_setCell_other _ _ _ _ (hog g e))
  · refine HM.of_block ?_
    rw [heap_setCell_other _ _ _ _ HO.mo, hg3.block mb (by show mb < (W2.alloc o).heap.size; simp; omega) (fun e => (HO.mg e.symm) rfl)]
    show (W2.alloc o).heap[mb]? = _
    exact Below.heap_alloc _ _ _ hmb2
  · intro g e
    rcases hg' g e with h | h
    · exact .inl h
    · exact .inr ⟨h.1, by rw [hsz]; exact h.2⟩
  · intro b hb
    rcases hb with h | h
    · exact Nat.lt_of_lt_of_le (HO.lt _ h) hF4.size
    · exact h.2
  · intro i hi
    rw [at_snoc]
    split
    · exact HO.wf i (by assumption)
    · have : i = L.length := by simp at hi; omega
      rw [if_pos this]
      exact ⟨hx, hk⟩

set_option maxRecDepth 100000 in
set_option maxHeartbeats 1600000 in
theorem push_any (h : Ord w ob mb v L L S) (x k : Int) (hx : I64 x) (hk : I64 k) (hn : ∀ i, i < L.length → (at' L i).1 ≠ x) (hl : L.length < 4096) :
    Calls Tryz.prog 154 #[.pointer (some ⟨ob, 0, none⟩), .iface 143 (.agg #[.int .i64 x, .int .i64 k])] w fun e w' => e = .returned (.tuple #[]) ∧ ∃ v', Ord w' ob mb v' (L ++ [(x, k)]) (L ++ [(x, k)]) (fun b => S b ∨ w.heap.size ≤ b ∧ b < w'.heap.size) ∧ Fr S w w' := by
  have o0 := h.c0
  have o1 := h.c1
  have ho : ob < w.heap.size := h.lt _ h.so
  have g3 : ¬ w.heap.size = ob := by omega
  have HO : Hid (Ord w ob mb v L L S) := h
  obtain ⟨a, cap, hv, h1, h2⟩ := h.row.shape
  clear h
  have o0' : w.cell? ⟨ob, 0, none⟩ = some (.slice a L.length cap) := by rw [← hv]; exact o0
  clear o0
  have hta := fun w => assert49 w (.agg #[.int .i64 x, .int .i64 k])
  go_enter Tryz.func154, Tryz.ntmps154
  go_wp2
  have hb1 : Below w.heap.size w (w.alloc (.cells #[.int .i64 x, .int .i64 k] 143)) := (Below.refl _ _).alloc (Nat.le_refl _) _
  have hnew := heap_alloc_new w (.cells #[.int .i64 x, .int .i64 k] 143)
  have hz1 : (w.alloc (.cells #[.int .i64 x, .int .i64 k] 143)).heap.size = w.heap.size + 1 := by simp
  obtain ⟨B, hB⟩ : ∃ B, w.heap.size = B := ⟨_, rfl⟩
  rw [hB] at hnew hb1 hz1 g3 ⊢
  generalize (w.alloc (.cells #[.int .i64 x, .int .i64 k] 143)) = W1 at hb1 hnew hz1 ⊢
  have HO1 : Hid (Ord W1 ob mb v L L S) := HO.out.later (by rw [hB]; exact hb1)
  have q0 : W1.cell? ⟨ob, 0, none⟩ = some (.slice a L.length cap) := by rw [← hv]; exact HO1.out.c0
  have q1 := HO1.out.c1
  have q2 := cell_of_row W1 B 0 _ _ _ hnew
  have q3 := cell_of_row W1 B 1 _ _ _ hnew
  simp only [List.getElem?_toArray, List.getElem?_cons_succ, List.getElem?_cons_zero] at q2 q3
  obtain ⟨D, hD, hPl⟩ := HO1.out.map
  have hT := hD.tidy law
  obtain ⟨W2, hrun, hD2, hturn⟩ := World.ownsMap.store (w := W1.drew) (t := 112) (e := 3) hD law Tryz.underlying112 (by unfold maxLen; omega) (keyOf3 hx) (plainElem_int Tryz.underlying3 (I64.wf (x := (L.length : Int)) ⟨by omega, by omega⟩))
  have hg2 := hturn.grown
  have hs2 : W2.heap.size = B + 1 := by
    obtain ⟨_, _, _, _, _, rfl⟩ := hturn
    rw [← hz1]; simp [ChangeMaps.setBlock]
  have hb2 : ∀ b, b < B + 1 → b ≠ mb → W2.heap[b]? = W1.heap[b]? := fun b h1 hb => hg2.block b (by show b < W1.heap.size; omega) (by simp; exact hb)
  have hmB : mb < B := by rw [← hB]; exact HO.out.lt _ HO.out.sm
  have r0 : W2.cell? ⟨ob, 0, none⟩ = some (.slice a L.length cap) := by rw [World.cell?_of_block (w := W1) (hb2 ob (by omega) HO.out.mo.symm)]; exact q0
  have r2 : W2.cell? ⟨B, 0, none⟩ = some (.int .i64 x) := by rw [World.cell?_of_block (w := W1) (hb2 B (by omega) (by omega))]; exact q2
  have r3 : W2.cell? ⟨B, 1, none⟩ = some (.int .i64 k) := by rw [World.cell?_of_block (w := W1) (hb2 B (by omega) (by omega))]; exact q3
  have zf : W2.frozen? ⟨ob, 0, none⟩ = false := by rw [World.frozen?_of_block (w := W1) (hb2 ob (by omega) HO.out.mo.symm)]; exact HO1.out.f 0
  have HRow : Hid (Row W2 (.slice a L.length cap) L) := by rw [← hv]; exact HO1.out.row.of_block (fun g e => hb2 g (by have := HO.out.lt _ (HO.out.sr g e); omega) (HO.out.mg e).symm)
  have HMap : Hid (MapIs W2 mb (L ++ [(x, k)])) := by
    have hpl := hPl.snoc hT (x, k) hn
    exact ⟨_, World.ownsMap.mono (OwnI.tight hD2) (Nat.le_of_eq hpl.size), hpl⟩
  have HF2 : Hid (Fr S w W2) := ((Fr.of_below (by rw [hB]; exact hb1) : Fr S w W1).drew).trans0 (Fr.of_grown hg2 (fun k e => by cases e; exact HO.out.sm))
  obtain ⟨i0, hi0, hy0, hy1, hy2⟩ := info_parts info49
  have r0a : (W2.alloc (.cells #[.int .i64 x, .int .i64 k] 143)).cell? ⟨ob, 0, none⟩ = some (.slice a L.length cap) := by rw [World.cell?_alloc_lt _ _ _ (by show ob < _; omega)]; exact r0
  have HOG : Hid (∀ b, b = ob → some b ≠ (Value.slice a L.length cap).ownBlock) := by
    intro b e e2
    rw [← hv] at e2
    exact (HO.out.og e2.symm) e.symm
  have HBO : Hid ((W2.alloc (.cells #[.int .i64 x, .int .i64 k] 143)).drew.heap[ob]? = some (.cells #[.slice a L.length cap, .map (some mb)] 115 (0, 0))) := by
    show (W2.alloc (.cells #[.int .i64 x, .int .i64 k] 143)).heap[ob]? = _
    rw [Below.heap_alloc _ _ _ (by omega), hb2 ob (by omega) HO.out.mo.symm, ← hv]
    exact HO1.out.blk
  clear hD hPl hT hturn hg2 hb2 hD2 hnew hb1
  go_wp2
  go_region
  clear q0 q1 q2 q3 hrun
  go_wp2
  go_region_law (refine step_append rfl (.tmp 22) (.tmp 24) 113 rfl 0 143 i0 (.agg #[.int .i64 0, .int .i64 0]) 2 16 Tryz.underlying113 hi0 hy0 hy1 hy2 rfl (by decide) (.slice a L.length cap) L.length (flat L) rfl (HRow.out.alloc _) ⟨B + 1, 0, none⟩ 1 1 [.int .i64 x, .int .i64 k] rfl rfl (cells_new W2 [.int .i64 x, .int .i64 k] 143 (B + 1) hs2.symm) (by simp [Value.oneCell']) (by unfold maxLen; omega) (by omega) (by simp) ?_; intro v3 w3 hown3 hg3 hm3; obtain ⟨a3, cap3, rfl⟩ := own_shape hown3; have hbo := hg3.block ob (by simp; omega) (HOG.out ob rfl); have hbo2 := hbo.trans HBO.out; have t0 := cell_of_row w3 ob 0 _ _ _ hbo2; have t1 := frozen_of_row w3 ob 0 _ _ hbo2; simp only [List.getElem?_toArray, List.getElem?_cons_zero] at t0)
  all_goals
    go_wp2
    go_end0
    refine ⟨rfl, push_end (v := .slice a L.length cap) (by rw [← hv]; exact HO.out) HF2.out HMap.out hx hk hl hown3 hg3 hm3 hbo2⟩
end
end Go.Proofs.YtojkdmkeankcgaaGreat.Qu
/-  What the call of the order's Pop does. -/
namespace Go.Proofs.YtojkdmkeankcgaaGreat.Qu
open Go.RowKit Go.Maps

section
variable {w : World} {ob mb : Nat} {v : Value} {L M : List Pr} {S : Nat → Prop}
theorem flat_take : ∀ (L : List Pr) (n : Nat), (flat L).take (n * 2) = flat (L.take n)
  | [], n => by simp [flat]
  | p :: r, 0 => by simp [flat]
  | p :: r, n + 1 => by
    rw [show flat (p :: r) = cellsOf p ++ flat r from rfl, show (p :: r).take (n + 1) = p :: r.take n from rfl, show flat (p :: r.take n) = cellsOf p ++ flat (r.take n) from rfl, ← flat_take r n, show (n + 1) * 2 = n * 2 + 2 by omega]
    simp [cellsOf]
theorem Row.cut {g n cap m : Nat} (h : Row w (.slice (some ⟨g, 0, none⟩) n cap) L) (hm : m ≤ L.length) : Row w (.slice (some ⟨g, 0, none⟩) m cap) (L.take m) := by
  have hlm : (L.take m).length = m := by simp; omega
  refine ⟨flat_len _, ?_⟩
  rcases h.2 with ⟨h2, _⟩ | ⟨g2, cap2, cur, e, a, hb, r1, r2, r3, r4⟩
  · cases h2
  · cases e
    refine .inr ⟨g, cap, cur, by rw [hlm], a, hb, by omega, r2, r3, ?_⟩
    rw [hlm, ← flat_take, ← r4, List.take_take, Nat.min_eq_left (by omega)]
theorem at_take {m i : Nat} (hi : i < m) : at' (L.take m) i = at' L i := by
  unfold at'
  simp [List.getD_eq_getElem?_getD, hi]

set_option maxRecDepth 100000 in
set_option maxHeartbeats 800000 in
theorem pop_any (h : Ord w ob mb v L M S) (n : Nat) (hn : L.length = n + 1) :
    Calls Tryz.prog 153 #[.pointer (some ⟨ob, 0, none⟩)] w fun e w' => e = .returned (.iface 143 (.agg #[.int .i64 (at' L n).1, .int .i64 (at' L n).2])) ∧ ∃ v', Ord w' ob mb v' (L.take n) M S ∧ Fr S w w' := by
  have o0 := h.c0
  have HO : Hid (Ord w ob mb v L M S) := h
  obtain ⟨g, cap, hv, h1, h2⟩ := h.row.nonempty (by omega)
  have zf := h.f 0
  have hl := h.len
  subst hv
  obtain ⟨a0, a1⟩ := h.row.cells n (by omega)
  have ho : ob < w.heap.size := h.lt _ h.so
  have hg : g < w.heap.size := h.lt _ (h.sr g rfl)
  have g1 : ¬ w.heap.size = g := by omega
  have g2 : ¬ w.heap.size = ob := by omega
  rw [hn] at o0 h1 hl
  clear h
  obtain ⟨x, hx⟩ : ∃ x, (at' L n).1 = x := ⟨_, rfl⟩
  obtain ⟨k, hk⟩ : ∃ k, (at' L n).2 = k := ⟨_, rfl⟩
  rw [hx] at a0 ⊢
  rw [hk] at a1 ⊢
  have HN : Hid (L.length = n + 1) := hn
  have hb1 : Below w.heap.size w (w.alloc (.cells #[.int .i64 x, .int .i64 k] 143)) := (Below.refl _ _).alloc (Nat.le_refl _) _
  have p0 := (hb1.cell (p := ⟨ob, 0, none⟩) ho).trans o0
  have p1 := (hb1.frozen (p := ⟨ob, 0, none⟩) ho).trans zf
  have HOB : Hid (ob < w.heap.size) := ho
  clear hx hk hn ho hg
  go_enter Tryz.func153, Tryz.ntmps153
  go_wp2
  go_ret
  refine ⟨rfl, .slice (some ⟨g, 0, none⟩) n cap, ?_⟩
  have hO := HO.out.later hb1
  have hF := ((Fr.of_below hb1 : Fr S w _).setCell ⟨ob, 0, none⟩ (.slice (some ⟨g, 0, none⟩) n cap) (.inl hO.so))
  have hlen := HN.out
  refine ⟨⟨?_, ?_, ?_, hO.so, hO.sm, fun b e => hO.sr b (by simpa [Value.ownBlock] using e), fun b hb => Nat.lt_of_lt_of_le (HO.out.lt _ hb) hF.size, fun i hi => ?_, by simp; omega⟩, hF⟩
  · rw [heap_setCell_same _ ob 0 _ _ _ hO.blk]; rfl
  · exact (hO.row.cut (by omega)).of_block (fun b e => heap_setCell_other _ _ _ _ (by have := hO.og (g := b) (by simpa [Value.ownBlock] using e); exact this.symm))
  · exact hO.map.of_block (heap_setCell_other _ _ _ _ hO.mo)
  · have hi' : i < n := by simp at hi; omega
    rw [at_take hi']
    exact hO.wf i (by omega)
end
end Go.Proofs.YtojkdmkeankcgaaGreat.Qu
/-  What the calls of container/heap's Push, Fix and Remove do over an order. -/
namespace Go.Proofs.YtojkdmkeankcgaaGreat.Qu
open Go.RowKit Go.Maps

/-- S, and what is new since w. -/
def grow (S : Nat → Prop) (w w' : World) : Nat → Prop := fun b => S b ∨ w.heap.size ≤ b ∧ b < w'.heap.size
section
variable {w w' : World} {ob mb : Nat} {v : Value} {L M X : List Pr} {S T : Nat → Prop}
theorem Ord.widen (h : Ord w ob mb v L M S) (hST : ∀ b, S b → T b) (hT : ∀ b, T b → b < w.heap.size) : Ord w ob mb v L M T :=
  ⟨h.blk, h.row, h.map, hST _ h.so, hST _ h.sm, fun g e => hST _ (h.sr g e), hT, h.wf, h.len⟩
/-- An order in memory that holds just X. -/
def HOrd (w : World) (ob mb : Nat) (X : List Pr) (S : Nat → Prop) : Prop := ∃ v L, Ord w ob mb v L L S ∧ L.Perm X ∧ Heap L L.length

set_option maxRecDepth 100000 in
set_option maxHeartbeats 800000 in
theorem hpush_any (h : Ord w ob mb v L L S) (hh : Heap L L.length) (x k : Int) (hx : I64 x) (hk : I64 k) (hn : ∀ i, i < L.length → (at' L i).1 ≠ x) (hl : L.length < 4096) :
    Calls Tryz.prog 84 #[.iface 109 (.pointer (some ⟨ob, 0, none⟩)), .iface 143 (.agg #[.int .i64 x, .int .i64 k])] w fun e w' => e = .returned (.tuple #[]) ∧ HOrd w' ob mb (L ++ [(x, k)]) (grow S w w') ∧ Fr S w w' := by
  have HP := hide (push_any h x k hx hk hn hl)
  have HU := hide (hh.push (x, k))
  have m1 := methodPush ⟨ob, 0, none⟩
  have m2 := methodLen ⟨ob, 0, none⟩
  have HS := hide h.lt
  clear h hh hn
  go_enter Tryz.func84, Tryz.ntmps84
  go_wp2_with (first | (go_at_call 154; refine HP.out.mono ?_; rintro e w1 ⟨rfl, v1, hO1, hF1⟩; have HO1 := hide hO1; clear hO1) | (go_at_call 100; refine (len_any HO1.out).mono ?_; rintro e w2 ⟨rfl, rfl⟩; simp only [List.length_append, List.length_cons, List.length_nil]) | (go_at_call 99; refine (up_any HO1.out (L ++ [(x, k)]).length L.length HU.out (Nat.le_refl _) (by simp)).mono ?_; rintro e w3 ⟨rfl, L', hO3, hF3, hS3, hH3⟩))
  go_end0
  have hlt : ∀ b, grow S w w3 b → b < w3.heap.size := fun b hb => by
    rcases hb with h | h
    · exact Nat.lt_of_lt_of_le (HS.out b h) (Nat.le_trans hF1.size hF3.size)
    · exact h.2
  refine ⟨rfl, ⟨v1, L', hO3.widen (fun b hb => ?_) hlt, hS3.perm, by rw [hS3.len]; exact hH3⟩, hF1.trans hF3 (fun b hb => ?_)⟩
  · rcases hb with h | h
    · exact .inl h
    · exact .inr ⟨h.1, Nat.lt_of_lt_of_le h.2 hF3.size⟩
  · rcases hb with h | h
    · exact .inl h
    · exact .inr h.1

/-- Behind a down that moved something. -/
def DT (w w' : World) (ob mb : Nat) (v : Value) (L L' : List Pr) (S : Nat → Prop) (n : Nat) : Prop := Ord w' ob mb v L' L' S ∧ Fr S w w' ∧ Sw n L L' ∧ Heap L' n
/-- Behind a down that moved nothing. -/
def DF (w w' : World) (ob mb : Nat) (v : Value) (L L' : List Pr) (S : Nat → Prop) (n i : Nat) : Prop := Ord w' ob mb v L' L' S ∧ Fr S w w' ∧ Sw n L L' ∧ Up L' n i
theorem down_or (h : Ord w ob mb v L L S) (n i : Nat) (hd : FixAt L n i) (hn : n ≤ L.length) (hi : i < n) :
    Calls Tryz.prog 98 #[.iface 109 (.pointer (some ⟨ob, 0, none⟩)), .int .i64 i, .int .i64 n] w fun e w' => (∃ L', e = .returned (.bool true) ∧ DT w w' ob mb v L L' S n) ∨ (∃ L', e = .returned (.bool false) ∧ DF w w' ob mb v L L' S n i) := by
  refine (down_any h n i hd hn hi).mono ?_
  rintro e w' ⟨b, L', rfl, h1, h2, h3, h4, h5⟩
  cases b
  · exact .inr ⟨L', rfl, h1, h2, h3, h5 rfl⟩
  · exact .inl ⟨L', rfl, h1, h2, h3, h4 rfl⟩
theorem up_dt (h : Ord w ob mb v L L S) (n j : Nat) (hu : Up L n j) (hn : n ≤ L.length) (hj : j < n) :
    Calls Tryz.prog 99 #[.iface 109 (.pointer (some ⟨ob, 0, none⟩)), .int .i64 j] w fun e w' => e = .returned (.tuple #[]) ∧ ∃ L', DT w w' ob mb v L L' S n := by
  refine (up_any h n j hu hn hj).mono ?_
  rintro e w' ⟨rfl, L', h1, h2, h3, h4⟩
  exact ⟨rfl, L', h1, h2, h3, h4⟩

set_option maxRecDepth 100000 in
set_option maxHeartbeats 800000 in
theorem fix_any (h : Ord w ob mb v L L S) (i : Nat) (hf : FixAt L L.length i) (hi : i < L.length) :
    Calls Tryz.prog 83 #[.iface 109 (.pointer (some ⟨ob, 0, none⟩)), .int .i64 i] w fun e w' => e = .returned (.tuple #[]) ∧ HOrd w' ob mb L S ∧ Fr S w w' := by
  have HL := hide (len_any h)
  have HD := hide (down_or h L.length i hf (Nat.le_refl _) hi)
  have m2 := methodLen ⟨ob, 0, none⟩
  clear h hf
  go_enter Tryz.func83, Tryz.ntmps83
  go_wp2_with (first | (go_at_call 100; refine HL.out.mono ?_; rintro e w2 ⟨rfl, rfl⟩) | (go_at_call 98; refine HD.out.mono ?_; rintro e w3 (⟨L', rfl, HT⟩ | ⟨L', rfl, HF⟩)) | (go_at_call 99; refine (up_dt HF.1 L.length i HF.2.2.2 (Nat.le_of_eq HF.2.2.1.len.symm) hi).mono ?_; rintro e w4 ⟨rfl, L4, H4⟩))
  · go_end0
    exact ⟨rfl, ⟨v, L', HT.1, HT.2.2.1.perm, by rw [HT.2.2.1.len]; exact HT.2.2.2⟩, HT.2.1⟩
  · go_end0
    have hS := HF.2.2.1.trans H4.2.2.1
    exact ⟨rfl, ⟨v, L4, H4.1, hS.perm, by rw [hS.len]; exact H4.2.2.2⟩, HF.2.1.trans0 H4.2.1⟩

theorem take_last {L : List Pr} {n : Nat} (h : L.length = n + 1) : L.take n ++ [at' L n] = L := by
  have : at' L n = L[n]'(by omega) := by simp [at', List.getD_eq_getElem?_getD, h]
  rw [this, ← List.take_succ_eq_append_getElem (by omega), List.take_of_length_le (by omega)]
theorem Heap.take {n m : Nat} (h : Heap L n) (hm : m ≤ n) : Heap (L.take m) m := fun k h0 hk => by
  have hp := par_lt h0
  unfold ok
  rw [at_take hk, at_take (by omega)]
  exact h k h0 (by omega)
/-- What stands behind a Remove: the pair goes out of the row, not yet out of the map. -/
def RemEnd (w : World) (ob mb : Nat) (L : List Pr) (S : Nat → Prop) (p : Pr) (e : Ending) (w' : World) : Prop :=
  e = .returned (.iface 143 (.agg #[.int .i64 p.1, .int .i64 p.2])) ∧ ∃ v' L', Ord w' ob mb v' L' (L' ++ [p]) S ∧ Fr S w w' ∧ Heap L' L'.length ∧ (L' ++ [p]).Perm L
theorem rem_end {w4 w5 : World} {L4 : List Pr} {n : Nat} {p : Pr} {e : Ending} (hl : L4.length = n + 1) (hp : at' L4 n = p) (hH : Heap L4 n) (hP : L4.Perm L) (hF : Fr S w w4)
    (h : e = .returned (.iface 143 (.agg #[.int .i64 (at' L4 n).1, .int .i64 (at' L4 n).2])) ∧ ∃ v', Ord w5 ob mb v' (L4.take n) L4 S ∧ Fr S w4 w5) : RemEnd w ob mb L S p e w5 := by
  obtain ⟨rfl, v', hO, hF5⟩ := h
  have ht := take_last hl
  rw [hp] at ht
  refine ⟨by rw [hp], v', L4.take n, by rw [ht]; exact hO, hF.trans0 hF5, ?_, by rw [ht]; exact hP⟩
  rw [show (L4.take n).length = n by simp; omega]
  exact hH.take (Nat.le_refl _)

set_option maxRecDepth 100000 in
set_option maxHeartbeats 1600000 in
theorem hremove_any (h : Ord w ob mb v L L S) (hh : Heap L L.length) (i : Nat) (hi : i < L.length) :
    Calls Tryz.prog 101 #[.iface 109 (.pointer (some ⟨ob, 0, none⟩)), .int .i64 i] w (RemEnd w ob mb L S (at' L i)) := by
  obtain ⟨n, hn⟩ : ∃ n, L.length = n + 1 := ⟨L.length - 1, by omega⟩
  have HL := len_any h
  rw [hn, show ((n + 1 : Nat) : Int) = (n : Int) + 1 by omega] at HL
  replace HL := hide HL
  have m2 := methodLen ⟨ob, 0, none⟩
  have m3 := methodPop ⟨ob, 0, none⟩
  have hl := h.len
  rw [hn] at hl
  by_cases hin : i = n
  · subst hin
    have HP := hide (pop_any h i hn)
    have HE : Hid (∀ e w5, (e = .returned (.iface 143 (.agg #[.int .i64 (at' L i).1, .int .i64 (at' L i).2])) ∧ ∃ v', Ord w5 ob mb v' (L.take i) L S ∧ Fr S w w5) → RemEnd w ob mb L S (at' L i) e w5) := fun e w5 hx => rem_end hn rfl (fun k h0 hk => hh k h0 (by omega)) (.refl _) (Fr.refl _ _) hx
    clear h hh hn hi
    have hne : ((i : Int) != (i : Int)) = false := by simp
    go_enter Tryz.func101, Tryz.ntmps101
    go_wp2_with (first | (go_at_call 100; refine HL.out.mono ?_; rintro e w2 ⟨rfl, rfl⟩) | (go_at_call 153; refine HP.out.mono ?_; rintro e w5 ⟨rfl, hx⟩))
    go_ret
    exact HE.out _ _ ⟨rfl, hx⟩
  · have hi' : i < n := by omega
    have HSw := hide (swap_any h i n hi (by omega) hin)
    have hsw := at_swp L hi (show n < L.length by omega)
    have hfix : FixAt (swp L i n) n i := Heap.fix (L := L) (fun k h0 hk => hh k h0 (by omega)) hi' (fun k hk hne => by rw [hsw, if_neg (by omega), if_neg hne])
    have hlast : at' (swp L i n) n = at' L i := by rw [hsw, if_pos rfl]
    have hlen : (swp L i n).length = n + 1 := by rw [swp_len]; exact hn
    have hperm := swp_perm L hi (show n < L.length by omega)
    obtain ⟨L1, hL1⟩ : ∃ L1, swp L i n = L1 := ⟨_, rfl⟩
    rw [hL1] at HSw hfix hlast hlen hperm
    have HD : Hid (∀ w1, Ord w1 ob mb v L1 L1 S → Calls Tryz.prog 98 #[.iface 109 (.pointer (some ⟨ob, 0, none⟩)), .int .i64 i, .int .i64 n] w1 fun e w' => (∃ L', e = .returned (.bool true) ∧ DT w1 w' ob mb v L1 L' S n) ∨ (∃ L', e = .returned (.bool false) ∧ DF w1 w' ob mb v L1 L' S n i)) := fun w1 h1 => down_or h1 n i hfix (by omega) hi'
    have HU : Hid (∀ w1 w3 L3, DF w1 w3 ob mb v L1 L3 S n i → Calls Tryz.prog 99 #[.iface 109 (.pointer (some ⟨ob, 0, none⟩)), .int .i64 i] w3 fun e w' => e = .returned (.tuple #[]) ∧ ∃ L', DT w3 w' ob mb v L3 L' S n) := fun w1 w3 L3 h1 => up_dt h1.1 n i h1.2.2.2 (by rw [h1.2.2.1.len]; omega) hi'
    have HE : Hid (∀ w4 L4, Sw n L1 L4 → Heap L4 n → Fr S w w4 → ∀ e w5, (e = .returned (.iface 143 (.agg #[.int .i64 (at' L4 n).1, .int .i64 (at' L4 n).2])) ∧ ∃ v', Ord w5 ob mb v' (L4.take n) L4 S ∧ Fr S w4 w5) → RemEnd w ob mb L S (at' L i) e w5) :=
      fun w4 L4 hs hH hF e w5 hx => rem_end (by rw [hs.len]; exact hlen) ((hs.rest n (Nat.le_refl _)).trans hlast) hH (hs.perm.trans hperm) hF hx
    have HPop : Hid (∀ w4 L4, Ord w4 ob mb v L4 L4 S → Sw n L1 L4 → Calls Tryz.prog 153 #[.pointer (some ⟨ob, 0, none⟩)] w4 fun e w' => e = .returned (.iface 143 (.agg #[.int .i64 (at' L4 n).1, .int .i64 (at' L4 n).2])) ∧ ∃ v', Ord w' ob mb v' (L4.take n) L4 S ∧ Fr S w4 w') := fun w4 L4 h1 h2 => pop_any h1 n (by rw [h2.len]; exact hlen)
    have m1 := methodSwap ⟨ob, 0, none⟩
    have hne : ((n : Int) != (i : Int)) = true := by simp; omega
    clear h hh hn hi hsw hfix hlast hlen hperm hL1
    go_enter Tryz.func101, Tryz.ntmps101
    go_wp2_with (first | (go_at_call 100; refine HL.out.mono ?_; rintro e w2 ⟨rfl, rfl⟩) | (go_at_call 155; refine HSw.out.mono ?_; rintro e w1 ⟨rfl, hO1, hF1⟩; have HO1 := hide (And.intro hO1 hF1); clear hO1 hF1) | (go_at_call 98; refine (HD.out _ HO1.out.1).mono ?_; rintro e w3 (⟨L3, rfl, HT⟩ | ⟨L3, rfl, HF⟩)) | (go_at_call 99; refine (HU.out _ _ _ HF).mono ?_; rintro e w4 ⟨rfl, L4, H4⟩) | (go_at_call 153; refine (HPop.out _ _ H4.1 (HF.2.2.1.trans H4.2.2.1)).mono ?_; rintro e w5 ⟨rfl, hx⟩) | (go_at_call 153; refine (HPop.out _ _ HT.1 HT.2.2.1).mono ?_; rintro e w5 ⟨rfl, hx⟩))
    · go_ret
      exact HE.out _ _ HT.2.2.1 HT.2.2.2 (HO1.out.2.trans0 HT.2.1) _ _ ⟨rfl, hx⟩
    · go_ret
      exact HE.out _ _ (HF.2.2.1.trans H4.2.2.1) H4.2.2.2 ((HO1.out.2.trans0 HF.2.1).trans0 H4.2.1) _ _ ⟨rfl, hx⟩
end
end Go.Proofs.YtojkdmkeankcgaaGreat.Qu
/-  What the calls of the order's add, lower and remove do. -/
namespace Go.Proofs.YtojkdmkeankcgaaGreat.Qu
open Go.RowKit Go.Maps

section
variable {w w' : World} {ob mb : Nat} {v : Value} {L M X : List Pr} {S T : Nat → Prop}

theorem add_full (h : Ord w ob mb v L L S) (x k : Int) (hl : 4096 ≤ L.length) :
    Calls Tryz.prog 62 #[.pointer (some ⟨ob, 0, none⟩), .int .i64 x, .int .i64 k] w fun e w' => e = .returned (.bool false) ∧ w' = w := by
  have c0 := h.c0
  obtain ⟨a, cap, rfl, h1, h2⟩ := h.row.shape
  have hl2 : L.length = 4096 := by have := h.len; omega
  rw [hl2] at c0
  go_enter Tryz.func62, Tryz.ntmps62
  go_wp2
  go_ret
  exact ⟨rfl, rfl⟩

set_option maxRecDepth 100000 in
set_option maxHeartbeats 800000 in
theorem add_any (h : Ord w ob mb v L L S) (hh : Heap L L.length) (x k : Int) (hx : I64 x) (hk : I64 k) (hn : ∀ i, i < L.length → (at' L i).1 ≠ x) (hl : L.length < 4096) :
    Calls Tryz.prog 62 #[.pointer (some ⟨ob, 0, none⟩), .int .i64 x, .int .i64 k] w fun e w' => e = .returned (.bool true) ∧ HOrd w' ob mb (L ++ [(x, k)]) (grow S w w') ∧ Fr S w w' := by
  have c0 := h.c0
  have HP := hide (hpush_any h hh x k hx hk hn hl)
  obtain ⟨a, cap, rfl, h1, h2⟩ := h.row.shape
  have hl2 : ¬ (4096 : Int) ≤ (L.length : Int) := by omega
  clear h hh hn
  go_enter Tryz.func62, Tryz.ntmps62
  go_wp2_with (go_at_call 84; refine HP.out.mono ?_; rintro e w1 ⟨rfl, H1⟩)
  go_ret
  exact ⟨rfl, H1⟩

theorem lower_no (h : Ord w ob mb v L M S) (i : Nat) (hi : i < L.length) (k : Int) (hk : (at' L i).2 ≤ k) :
    Calls Tryz.prog 61 #[.pointer (some ⟨ob, 0, none⟩), .int .i64 i, .int .i64 k] w fun e w' => e = .returned (.bool false) ∧ w' = w := by
  have c0 := h.c0
  obtain ⟨g, cap, rfl, h1, h2⟩ := h.row.nonempty (by omega)
  obtain ⟨a0, a1⟩ := h.row.cells i hi
  have hl := h.len
  have i1 : (i : Int) < (L.length : Int) := by omega
  obtain ⟨z, hz⟩ : ∃ z, (at' L i).2 = z := ⟨_, rfl⟩
  rw [hz] at a1 hk
  go_enter Tryz.func61, Tryz.ntmps61
  go_wp2
  go_ret
  exact ⟨rfl, rfl⟩
theorem Pl.same {D : DataW Unit} {M' : List Pr} (h : Pl D M) (hl : M'.length = M.length) (he : ∀ i, i < M.length → (at' M' i).1 = (at' M i).1) : Pl D M' :=
  ⟨fun i hi => by rw [he i (by omega)]; exact h.here i (by omega), fun x hx => h.none x (fun i hi => by rw [← he i hi]; exact hx i (by omega)), by rw [hl]; exact h.size⟩
theorem at_set {i : Nat} (hi : i < L.length) (p : Pr) (k : Nat) : at' (L.set i p) k = if k = i then p else at' L k := by
  unfold at'
  simp only [List.getD_eq_getElem?_getD, List.getElem?_set]
  by_cases e : i = k
  · subst e; simp [hi]
  · rw [if_neg e, if_neg (Ne.symm e)]

set_option maxRecDepth 100000 in
set_option maxHeartbeats 800000 in
theorem lower_any (h : Ord w ob mb v L L S) (hh : Heap L L.length) (i : Nat) (hi : i < L.length) (k : Int) (hwk : I64 k) (hk : k < (at' L i).2) :
    Calls Tryz.prog 61 #[.pointer (some ⟨ob, 0, none⟩), .int .i64 i, .int .i64 k] w fun e w' => e = .returned (.bool true) ∧ HOrd w' ob mb (L.set i ((at' L i).1, k)) S ∧ Fr S w w' := by
  have c0 := h.c0
  obtain ⟨g, cap, hv, h1, h2⟩ := h.row.nonempty (by omega)
  subst hv
  obtain ⟨a0, a1⟩ := h.row.cells i hi
  have zf := h.row.frozen (i * 2 + 1)
  have hl := h.len
  have i1 : (i : Int) < (L.length : Int) := by omega
  have hO : Ord (w.setCell ⟨g, i * 2 + 1, none⟩ (.int .i64 k)) ob mb (.slice (some ⟨g, 0, none⟩) L.length cap) (L.set i ((at' L i).1, k)) (L.set i ((at' L i).1, k)) S := by
    have hrow : Row (w.setCell ⟨g, i * 2 + 1, none⟩ (.int .i64 k)) (.slice (some ⟨g, 0, none⟩) L.length cap) (L.set i ((at' L i).1, k)) := by
      have h3 := own_set (j := i * 2 + 1) h.row (.int .i64 k)
      have h4 := flat_set L i ((at' L i).1, k) hi
      have h5 : (flat L).set (i * 2) (.int .i64 ((at' L i).1, k).1) = flat L := by
        apply List.ext_getElem?
        intro j
        rw [List.getElem?_set]
        split
        · rename_i e
          subst e
          have := (flat_get L i hi).1
          rw [this, if_pos (by rw [flat_len]; omega)]
        · rfl
      rw [h5] at h4
      unfold Row
      rw [← h4, List.length_set]
      exact h3
    obtain ⟨D, hD, hP⟩ := h.map
    have hm : MapIs w mb (L.set i ((at' L i).1, k)) := ⟨D, by rw [List.length_set]; exact hD, hP.same (by simp) (fun j hj => by rw [at_set hi]; split; (rename_i e; rw [e]); rfl)⟩
    refine ⟨?_, hrow, hm.of_block (heap_setCell_other _ _ _ _ (h.mg rfl)), h.so, h.sm, h.sr, fun b hb => by simpa [World.setCell] using h.lt b hb, fun j hj => ?_, by simpa using h.len⟩
    · rw [heap_setCell_other w ⟨g, i * 2 + 1, none⟩ ob _ (h.og rfl)]; exact h.blk
    · rw [at_set hi]
      split
      · exact ⟨(h.wf i hi).1, hwk⟩
      · exact h.wf j (by simpa using hj)
  have hF : Fr S w (w.setCell ⟨g, i * 2 + 1, none⟩ (.int .i64 k)) := (Fr.refl S w).setCell _ _ (.inl (h.sr g rfl))
  have hfix : FixAt (L.set i ((at' L i).1, k)) (L.set i ((at' L i).1, k)).length i := by
    rw [List.length_set]
    exact hh.fix hi (fun j _ hne => by rw [at_set hi, if_neg hne])
  have HFx := hide (And.intro (fix_any hO i hfix (by simpa using hi)) hF)
  obtain ⟨z, hz⟩ : ∃ z, (at' L i).2 = z := ⟨_, rfl⟩
  rw [hz] at a1 hk
  clear h hh hO hF hfix hi
  go_enter Tryz.func61, Tryz.ntmps61
  go_wp2_with (go_at_call 83; refine HFx.out.1.mono ?_; rintro e w1 ⟨rfl, H1, hF1⟩)
  go_ret
  exact ⟨rfl, H1, HFx.out.2.trans0 hF1⟩

/-- A delete as one step of a region that draws. -/
theorem step_delete {P : Program} {ops : Array Oper} {o : Oper} {a : Act} {w : World} {K : Act → World → Prop} {Q : Exit → Act → World → Prop} {E : Prop}
    (hg : o.guard = none) (m x : Operand) (t k : TypeId) (hop : o.op = Op.call { callee := Callee.builtin Builtin.delete, args := #[m, x], argTypes := #[t, k] })
    (e : TypeId) (Kk : Keyed P k) (ht : P.underlying t = some (.map k e)) (R : Value → Option (DataW Unit × List MemPlace)) (b n : Nat) (D : DataW Unit) (hm : a.eval m = .map (some b)) (hown : w.ownsMap P k R b n D)
    (key : Value) (kl : Lit) (hx : a.eval x = key) (hkey : keyOf P k key = some kl)
    (hK : ∀ w', w'.ownsMap P k R b n (D.del kl) → w.mapTurned w' b → K (a.put o.dst (.tuple #[])) w') :
    if Region.wanted o (yielded ops a.tmps) = true then Oper.wp P o a w K Q else E := by
  have hw : Region.wanted o (yielded ops a.tmps) = true := by simp [Region.wanted, hg]
  rw [if_pos hw]
  obtain ⟨w', hr, h2, h3⟩ := hown.drop Kk ht hkey o.type
  unfold Oper.wp
  simp [execOp, hop, resolve, invoke, builtin, hm, hx, hr, Result.andThen]
  exact hK w' h2 h3
theorem Pl.del {D : DataW Unit} {p : Pr} (h : Pl D (L ++ [p])) (ht : Tidy D) : Pl (D.del (ki p.1)) L := by
  have hne : ∀ i, i < L.length → (at' L i).1 ≠ p.1 := fun i hi e => by
    have := h.inj (i := i) (j := L.length) (by simp; omega) (by simp) (by rw [at_snoc, at_snoc, if_pos hi, if_neg (by omega), if_pos rfl]; exact e)
    omega
  refine ⟨fun i hi => ?_, fun x hx => ?_, ?_⟩
  · rw [has_del_other (ki_ne (hne i hi)), atKey_del_other (ki_ne (hne i hi))]
    have := h.here i (by simp; omega)
    rwa [at_snoc, if_pos hi] at this
  · by_cases e : x = p.1
    · subst e; exact has_del_same
    · rw [has_del_other (ki_ne e)]
      refine h.none x fun i hi => ?_
      rw [at_snoc]
      split
      · exact hx i (by assumption)
      · have : i = L.length := by simp at hi; omega
        rw [if_pos this]; exact fun e2 => e e2.symm
  · have h1 := size_del (k := ki p.1) ht
    have h2 := (h.here L.length (by simp)).1
    rw [at_snoc, if_neg (by omega), if_pos rfl] at h2
    rw [h2, h.size] at h1
    simp at h1
    omega

set_option maxRecDepth 100000 in
set_option maxHeartbeats 1600000 in
theorem remove_any (h : Ord w ob mb v L L S) (hh : Heap L L.length) (i : Nat) (hi : i < L.length) :
    Calls Tryz.prog 86 #[.pointer (some ⟨ob, 0, none⟩), .int .i64 i] w fun e w' => e = .returned (.agg #[.int .i64 (at' L i).1, .int .i64 (at' L i).2]) ∧ ∃ L', (L' ++ [at' L i]).Perm L ∧ HOrd w' ob mb L' S ∧ Fr S w w' := by
  have hwp := h.wf i hi
  obtain ⟨p, hp⟩ : ∃ p, at' L i = p := ⟨_, rfl⟩
  rw [hp] at hwp
  have hO1 : Ord (w.alloc (.cells #[.int .i64 0, .int .i64 0] 143)) ob mb v L L S := h.later ((Below.refl _ _).alloc (Nat.le_refl _) _)
  have HR := hremove_any hO1 hh i hi
  rw [hp] at HR ⊢
  have hF1 : Fr S w (w.alloc (.cells #[.int .i64 0, .int .i64 0] 143)) := (Fr.refl S w).alloc _
  replace HR := hide (And.intro HR hF1)
  obtain ⟨x, k⟩ := p
  have hta := fun w => (show (Instr.typeAssert (.iface 143 (.agg #[.int .i64 x, .int .i64 k])) 20 143 false).run Tryz.prog w = .ok (.agg #[.int .i64 x, .int .i64 k]) w from assert49 w _)
  have HW := hide (And.intro hwp h.lt)
  clear h hh hi hO1 hF1 hp hwp
  go_enter Tryz.func86, Tryz.ntmps86
  go_wp2_with (go_at_call 101; refine HR.out.1.mono ?_; rintro e w1 ⟨rfl, v', L', hO, hF, hH, hP⟩; simp only)
  obtain ⟨⟨hwx, hwk⟩, hS⟩ := HW.out
  have hB0 := hF.block w.heap.size (by simp) (fun e => by have := hS _ e; omega)
  rw [heap_alloc_new] at hB0
  have hF1 := HR.out.2
  have hsz : w.heap.size < w1.heap.size := by have := hF.size; simp at this; omega
  obtain ⟨B, hB⟩ : ∃ B, w.heap.size = B := ⟨_, rfl⟩
  obtain ⟨C, hC⟩ : ∃ C, w1.heap.size = C := ⟨_, rfl⟩
  have hb1 : Below w1.heap.size w1 (w1.alloc (.cells #[.int .i64 x, .int .i64 k] 143)) := (Below.refl _ _).alloc (Nat.le_refl _) _
  have hnew := heap_alloc_new w1 (.cells #[.int .i64 x, .int .i64 k] 143)
  have hs2 : (w1.alloc (.cells #[.int .i64 x, .int .i64 k] 143)).heap.size = C + 1 := by simp [hC]
  rw [hB] at hB0 hsz ⊢
  rw [hC] at hsz hnew ⊢
  generalize (w1.alloc (.cells #[.int .i64 x, .int .i64 k] 143)) = W2 at hb1 hnew hs2 ⊢
  have hO2 := hO.later hb1
  have hF2 : Fr S w W2 := (hF1.trans0 hF).trans0 (Fr.of_below hb1)
  have hB2 := (hb1.block B (by omega)).trans hB0
  have q1 := hO2.c1
  have q2 := cell_of_row W2 C 0 _ _ _ hnew
  have q3 := cell_of_row W2 C 1 _ _ _ hnew
  simp only [List.getElem?_toArray, List.getElem?_cons_succ, List.getElem?_cons_zero] at q2 q3
  obtain ⟨D, hD, hPl⟩ := hO2.map
  have hT := hD.tidy law
  have hobs : ob < B := by rw [← hB]; exact hS _ hO.so
  have hmbs : mb < B := by rw [← hB]; exact hS _ hO.sm
  have HX : Hid (∀ w3, OwnI w3 mb (L' ++ [(x, k)]).length (D.del (ki x)) → W2.drew.mapTurned w3 mb → (w3.cell? ⟨C, 0, none⟩ = some (.int .i64 x) ∧ w3.cell? ⟨C, 1, none⟩ = some (.int .i64 k) ∧ w3.cell? ⟨B, 0, none⟩ = some (.int .i64 0) ∧ w3.cell? ⟨B, 1, none⟩ = some (.int .i64 0) ∧ w3.frozen? ⟨B, 0, none⟩ = false ∧ w3.frozen? ⟨B, 1, none⟩ = false) ∧
      ∃ L', (L' ++ [(x, k)]).Perm L ∧ HOrd ((w3.setCell ⟨B, 0, none⟩ (.int .i64 x)).setCell ⟨B, 1, none⟩ (.int .i64 k)) ob mb L' S ∧ Fr S w ((w3.setCell ⟨B, 0, none⟩ (.int .i64 x)).setCell ⟨B, 1, none⟩ (.int .i64 k))) := by
    intro w3 hD3 ht3
    have hg3 := ht3.grown
    have hb3 : ∀ b, b < C + 1 → b ≠ mb → w3.heap[b]? = W2.heap[b]? := fun b h1 hb => hg3.block b (by show b < W2.heap.size; omega) (by simp; exact hb)
    have hC3 := (hb3 C (by omega) (by omega)).trans hnew
    have hB3 := (hb3 B (by omega) (by omega)).trans hB2
    refine ⟨⟨by rw [cell_of_row w3 C 0 _ _ _ hC3]; rfl, by rw [cell_of_row w3 C 1 _ _ _ hC3]; rfl, by rw [cell_of_row w3 B 0 _ _ _ hB3]; rfl, by rw [cell_of_row w3 B 1 _ _ _ hB3]; rfl, frozen_of_row w3 B 0 _ _ hB3, frozen_of_row w3 B 1 _ _ hB3⟩, L', hP, ?_⟩
    have hF3 : Fr S w w3 := hF2.drew.trans0 (Fr.of_grown hg3 (fun b e => by cases e; exact hO.sm))
    have hF4 := (hF3.setCell ⟨B, 0, none⟩ (.int .i64 x) (.inr (by rw [hB]; exact Nat.le_refl _))).setCell ⟨B, 1, none⟩ (.int .i64 k) (.inr (by rw [hB]; exact Nat.le_refl _))
    have hpl := hPl.del hT
    have hm3 : MapIs w3 mb L' := ⟨_, World.ownsMap.mono (OwnI.tight hD3) (Nat.le_of_eq hpl.size), hpl⟩
    have hblk : ∀ b, b < B → ((w3.setCell ⟨B, 0, none⟩ (.int .i64 x)).setCell ⟨B, 1, none⟩ (.int .i64 k)).heap[b]? = w3.heap[b]? := fun b hb => by
      rw [heap_setCell_other _ ⟨B, 1, none⟩ b _ (by show b ≠ B; omega), heap_setCell_other _ ⟨B, 0, none⟩ b _ (by show b ≠ B; omega)]
    refine ⟨⟨v', L', ⟨?_, ?_, hm3.of_block (hblk mb hmbs), hO.so, hO.sm, hO.sr, fun b hb => Nat.lt_of_lt_of_le (hS b hb) hF4.size, hO.wf, hO.len⟩, .refl _, hH⟩, hF4⟩
    · rw [hblk ob hobs, hb3 ob (by omega) hO.mo.symm]; exact hO2.blk
    · exact hO2.row.of_block (fun g e => by have : g < B := by rw [← hB]; exact hS _ (hO.sr g e)
                                            rw [hblk g this, hb3 g (by omega) (hO.mg e).symm])
  have HK := hide (keyOf3 hwx)
  have HD := hide hD
  clear hD hPl hT hO hO2 hF hF1 hF2 hH hP hb1 hnew hB0 hB2 HR HW hS
  go_region_law (refine step_delete rfl (.tmp 14) (.tmp 16) 112 3 rfl 3 law Tryz.underlying112 _ mb _ D rfl HD.out _ (ki x) rfl HK.out ?_; intro w3 hD3 ht3; obtain ⟨⟨r0, r1, r2, r3, r4, r5⟩, HE⟩ := HX.out w3 hD3 ht3; replace HE := hide HE; clear hD3 ht3)
  all_goals
    go_wp2
    exact bodyPost_ret (v := .agg #[.int .i64 x, .int .i64 k]) (by simp [results, Tryz.results86, go_sem, r2, r3]) rfl ⟨rfl, HE.out⟩
end
end Go.Proofs.YtojkdmkeankcgaaGreat.Qu
/-  What the calls of queue's New, Len, Key, Take, Drop and Put do. -/
namespace Go.Proofs.YtojkdmkeankcgaaGreat.Qu
open Go.RowKit Go.Maps

section
variable {w w' : World} {q ob mb : Nat} {v : Value} {L M X : List Pr} {S T : Nat → Prop}
theorem Ord.dis (h : Ord w ob mb v L L S) : Dis L := by
  obtain ⟨D, _, hP⟩ := h.map
  unfold Dis items
  unfold List.Nodup
  rw [List.pairwise_map, List.pairwise_iff_getElem]
  intro i j hi hj hij e
  have h1 : L[i] = at' L i := by simp [at', List.getD_eq_getElem?_getD, hi]
  have h2 : L[j] = at' L j := by simp [at', List.getD_eq_getElem?_getD, hj]
  rw [h1, h2] at e
  have := hP.inj hi hj e
  omega
/-- S without q. -/
def sub (S : Nat → Prop) (q : Nat) : Nat → Prop := fun b => S b ∧ b ≠ q
/-- A queue in memory whose order lies at ob. -/
def QIn (w : World) (q ob mb : Nat) (X : List Pr) (S : Nat → Prop) : Prop := w.heap[q]? = some (.cells #[.pointer (some ⟨ob, 0, none⟩)] 111 (0, 0)) ∧ HOrd w ob mb X (sub S q)
/-- A queue in memory that holds just X. -/
structure QAt (w : World) (q : Nat) (X : List Pr) (S : Nat → Prop) : Prop where
  sq : S q
  lt : ∀ k, S k → k < w.heap.size
  has : (w.heap[q]? = some (.cells #[.pointer none] 111 (0, 0)) ∧ X = []) ∨ ∃ ob mb, QIn w q ob mb X S
theorem HOrd.dis (h : HOrd w ob mb X S) : Dis X := by obtain ⟨v, L, hO, hp, _⟩ := h; exact hO.dis.perm hp
theorem HOrd.len (h : HOrd w ob mb X S) : X.length ≤ 4096 := by obtain ⟨v, L, hO, hp, _⟩ := h; rw [← hp.length_eq]; exact hO.len
theorem QAt.dis (h : QAt w q X S) : Dis X := by
  rcases h.has with ⟨_, rfl⟩ | ⟨ob, mb, _, h2⟩
  · simp [Dis, items]
  · exact h2.dis
theorem QAt.len (h : QAt w q X S) : X.length ≤ 4096 := by
  rcases h.has with ⟨_, rfl⟩ | ⟨ob, mb, _, h2⟩
  · simp
  · exact h2.len
theorem HOrd.fr (h : HOrd w ob mb X S) (f : Fr T w w') (d : ∀ k, S k → ¬ T k) : HOrd w' ob mb X S := by
  obtain ⟨v, L, hO, r⟩ := h; exact ⟨v, L, hO.fr f d, r⟩
theorem QAt.fr (h : QAt w q X S) (f : Fr T w w') (d : ∀ k, S k → ¬ T k) : QAt w' q X S := by
  refine ⟨h.sq, fun k hk => Nat.lt_of_lt_of_le (h.lt k hk) f.size, ?_⟩
  have hb := f.block q (h.lt _ h.sq) (d _ h.sq)
  rcases h.has with ⟨h1, h2⟩ | ⟨ob, mb, h1, h2⟩
  · exact .inl ⟨hb.trans h1, h2⟩
  · exact .inr ⟨ob, mb, hb.trans h1, h2.fr f (fun k hk => d k hk.1)⟩
theorem QAt.later (h : QAt w q X S) (f : Below w.heap.size w w') : QAt w' q X S := h.fr (T := fun _ => False) (Fr.of_below f) (fun _ _ h => h)
theorem QAt.widen (h : QAt w q X S) (hST : ∀ b, S b → T b) (hT : ∀ b, T b → b < w.heap.size) : QAt w q X T := by
  refine ⟨hST _ h.sq, hT, ?_⟩
  rcases h.has with h1 | ⟨ob, mb, h1, v, L, hO, r⟩
  · exact .inl h1
  · exact .inr ⟨ob, mb, h1, v, L, hO.widen (fun b hb => ⟨hST b hb.1, hb.2⟩) (fun b hb => hT b hb.1), r⟩
theorem QAt.perm {Y : List Pr} (h : QAt w q X S) (p : X.Perm Y) : QAt w q Y S := by
  refine ⟨h.sq, h.lt, ?_⟩
  rcases h.has with ⟨h1, rfl⟩ | ⟨ob, mb, h1, v, L, hO, hp, r⟩
  · exact .inl ⟨h1, (List.nil_perm.1 p)⟩
  · exact .inr ⟨ob, mb, h1, v, L, hO, hp.trans p, r⟩

theorem new_any (w : World) : Calls Tryz.prog 30 #[] w fun e w' => e = .returned (.pointer (some ⟨w.heap.size, 0, none⟩)) ∧ QAt w' w.heap.size [] (fun b => b = w.heap.size) ∧ Below w.heap.size w w' ∧ w'.heap.size = w.heap.size + 1 := by
  go_enter Tryz.func30, Tryz.ntmps30
  go_wp2
  go_ret
  exact ⟨rfl, ⟨rfl, fun k e => by subst e; simp, .inl ⟨heap_alloc_new _ _, rfl⟩⟩, (Below.refl _ _).alloc (Nat.le_refl _) _, by simp⟩

theorem qlen_any (h : QAt w q X S) : Calls Tryz.prog 85 #[.pointer (some ⟨q, 0, none⟩)] w fun e w' => e = .returned (.int .i64 X.length) ∧ w' = w := by
  rcases h.has with ⟨h1, rfl⟩ | ⟨ob, mb, h1, v, L, hO, hp, r⟩
  · have c0 := cell_of_row w q 0 _ _ _ h1
    simp only [List.getElem?_toArray, List.getElem?_cons_zero] at c0
    go_enter Tryz.func85, Tryz.ntmps85
    go_wp2
    go_ret
    exact ⟨rfl, rfl⟩
  · have c0 := cell_of_row w q 0 _ _ _ h1
    simp only [List.getElem?_toArray, List.getElem?_cons_zero] at c0
    have HL := len_any hO
    rw [hp.length_eq] at HL
    replace HL := hide HL
    go_enter Tryz.func85, Tryz.ntmps85
    go_wp2_with (go_at_call 100; refine HL.out.mono ?_; rintro e w2 ⟨rfl, rfl⟩)
    go_ret
    exact ⟨rfl, rfl⟩

theorem place_in (hq : w.heap[q]? = some (.cells #[.pointer (some ⟨ob, 0, none⟩)] 111 (0, 0))) (h : Ord w ob mb v L L S) (i : Nat) (hi : i < L.length) :
    Calls Tryz.prog 60 #[.pointer (some ⟨q, 0, none⟩), .int .i64 (at' L i).1] w fun e w' => e = .returned (.tuple #[.int .i64 i, .bool true]) ∧ w' = w := by
  have c0 := cell_of_row w q 0 _ _ _ hq
  simp only [List.getElem?_toArray, List.getElem?_cons_zero] at c0
  have c1 := h.c1
  obtain ⟨D, hD, hP⟩ := h.map
  have hK := keyOf3 (h.wf i hi).1
  have hh := hP.here i hi
  obtain ⟨c, hrun, hat, hwc⟩ : ∃ c, (Instr.lookup 112 (.map (some mb)) (.int .i64 (at' L i).1) true).run Tryz.prog w = .ok (.tuple #[.int .i64 c, .bool (Maps.has D (ki (at' L i).1))]) w ∧ D.atKey (ki (at' L i).1) (dI 0) = dI c ∧ True := by
    obtain ⟨u, ps, h1, h2⟩ := World.ownsMap.look_ok hD law Tryz.underlying112 (zero3 w) (plainElem_int Tryz.underlying3 (by decide)) hK
    obtain ⟨c, rfl, hc, _⟩ := plainElem_int_inv Tryz.underlying3 h2
    exact ⟨c, h1, congrArg Prod.fst hc, trivial⟩
  have hci : c = (i : Int) := by rw [hh.2] at hat; unfold dI at hat; simp at hat; exact hat.symm
  rw [hci, hh.1] at hrun
  clear hat hci hh hP hD h hq
  obtain ⟨x, hx⟩ : ∃ x, (at' L i).1 = x := ⟨_, rfl⟩
  rw [hx] at hrun ⊢
  go_enter Tryz.func60, Tryz.ntmps60
  go_wp2
  go_ret2
  exact ⟨rfl, rfl⟩
theorem place_out (hq : w.heap[q]? = some (.cells #[.pointer (some ⟨ob, 0, none⟩)] 111 (0, 0))) (h : Ord w ob mb v L L S) (x : Int) (hx : I64 x) (hn : ∀ i, i < L.length → (at' L i).1 ≠ x) :
    Calls Tryz.prog 60 #[.pointer (some ⟨q, 0, none⟩), .int .i64 x] w fun e w' => e = .returned (.tuple #[.int .i64 0, .bool false]) ∧ w' = w := by
  have c0 := cell_of_row w q 0 _ _ _ hq
  simp only [List.getElem?_toArray, List.getElem?_cons_zero] at c0
  have c1 := h.c1
  obtain ⟨D, hD, hP⟩ := h.map
  have hK := keyOf3 hx
  have hh := hP.none x hn
  obtain ⟨c, hrun, hat⟩ : ∃ c, (Instr.lookup 112 (.map (some mb)) (.int .i64 x) true).run Tryz.prog w = .ok (.tuple #[.int .i64 c, .bool (Maps.has D (ki x))]) w ∧ D.atKey (ki x) (dI 0) = dI c := by
    obtain ⟨u, ps, h1, h2⟩ := World.ownsMap.look_ok hD law Tryz.underlying112 (zero3 w) (plainElem_int Tryz.underlying3 (by decide)) hK
    obtain ⟨c, rfl, hc, _⟩ := plainElem_int_inv Tryz.underlying3 h2
    exact ⟨c, h1, congrArg Prod.fst hc⟩
  rw [atKey_of_not_has hh] at hat
  have hci : c = 0 := by unfold dI at hat; simp at hat; exact hat.symm
  rw [hci, hh] at hrun
  clear hat hci hh hP hD h hq hn
  go_enter Tryz.func60, Tryz.ntmps60
  go_wp2
  go_ret2
  exact ⟨rfl, rfl⟩
theorem place_nil (h1 : w.heap[q]? = some (.cells #[.pointer none] 111 (0, 0))) (x : Int) :
    Calls Tryz.prog 60 #[.pointer (some ⟨q, 0, none⟩), .int .i64 x] w fun e w' => e = .returned (.tuple #[.int .i64 0, .bool false]) ∧ w' = w := by
  have c0 := cell_of_row w q 0 _ _ _ h1
  simp only [List.getElem?_toArray, List.getElem?_cons_zero] at c0
  go_enter Tryz.func60, Tryz.ntmps60
  go_wp2
  go_ret2
  exact ⟨rfl, rfl⟩
end
end Go.Proofs.YtojkdmkeankcgaaGreat.Qu
/-  What the calls of queue's Key, Take, Drop and Put do. -/
namespace Go.Proofs.YtojkdmkeankcgaaGreat.Qu
open Go.RowKit Go.Maps

section
variable {w w' : World} {q ob mb : Nat} {v : Value} {L M X : List Pr} {S T : Nat → Prop}
/-- Where an item stands in the row. -/
theorem find_at (hd : Dis L) (hp : L.Perm X) (x : Int) : (look X x = none ∧ ∀ i, i < L.length → (at' L i).1 ≠ x) ∨ (∃ i, i < L.length ∧ (at' L i).1 = x ∧ look X x = some (at' L i)) := by
  rw [← look_perm hd hp]
  cases e : look L x with
  | none => exact .inl ⟨rfl, fun i hi => look_none.1 e _ (mem_at.2 ⟨i, hi, rfl⟩)⟩
  | some p =>
    obtain ⟨h1, h2⟩ := (look_some hd).1 e
    obtain ⟨i, hi, rfl⟩ := mem_at.1 h1
    exact .inr ⟨i, hi, h2, rfl⟩

theorem QAt.emp (h : QAt w q [] S) : Calls Tryz.prog 63 #[.pointer (some ⟨q, 0, none⟩)] w fun e w' => e = .returned (.tuple #[.int .i64 0, .int .i64 0, .bool false]) ∧ w' = w := by
  have HL := hide (qlen_any h)
  go_enter Tryz.func63, Tryz.ntmps63
  go_wp2_with (go_at_call 85; refine HL.out.mono ?_; rintro e w2 ⟨rfl, rfl⟩; simp only [List.length_nil])
  go_returns
  exact ⟨rfl, rfl⟩

theorem below_drewN {B : Nat} {a w : World} (h : Below B a w) (n : Nat) : Below B a (w.drewN n) := ⟨h.os, h.tape, h.output, by rw [drewN_heap]; exact h.size, fun k hk => by rw [drewN_heap]; exact h.block k hk⟩
theorem qfr (h : QAt w q X S) (hq : w.heap[q]? = some (.cells #[.pointer (some ⟨ob, 0, none⟩)] 111 (0, 0))) {X' : List Pr} (f : Fr (sub S q) w w') (hO' : HOrd w' ob mb X' (sub S q)) : QAt w' q X' S ∧ Fr S w w' :=
  ⟨⟨h.sq, fun k hk => Nat.lt_of_lt_of_le (h.lt k hk) f.size, .inr ⟨ob, mb, (f.block q (h.lt _ h.sq) (fun e => e.2 rfl)).trans hq, hO'⟩⟩, f.mono (fun _ e => e.1)⟩
theorem HOrd.widen (h : HOrd w ob mb X S) (hST : ∀ b, S b → T b) (hT : ∀ b, T b → b < w.heap.size) : HOrd w ob mb X T := by
  obtain ⟨v, L, hO, r⟩ := h; exact ⟨v, L, hO.widen hST hT, r⟩
theorem HOrd.perm {Y : List Pr} (h : HOrd w ob mb X S) (p : X.Perm Y) : HOrd w ob mb Y S := by
  obtain ⟨v, L, hO, hp, r⟩ := h; exact ⟨v, L, hO, hp.trans p, r⟩
theorem qgrow (h : QAt w q X S) (hq : w.heap[q]? = some (.cells #[.pointer (some ⟨ob, 0, none⟩)] 111 (0, 0))) {X' : List Pr} (f : Fr (sub S q) w w') (hO' : HOrd w' ob mb X' (grow (sub S q) w w')) : QAt w' q X' (grow S w w') ∧ Fr S w w' := by
  have hlt : ∀ b, grow S w w' b → b < w'.heap.size := fun b hb => by
    rcases hb with e | e
    · exact Nat.lt_of_lt_of_le (h.lt b e) f.size
    · exact e.2
  refine ⟨⟨.inl h.sq, hlt, .inr ⟨ob, mb, (f.block q (h.lt _ h.sq) (fun e => e.2 rfl)).trans hq, hO'.widen (fun b hb => ?_) (fun b hb => hlt b hb.1)⟩⟩, f.mono (fun _ e => e.1)⟩
  rcases hb with e | e
  · exact ⟨.inl e.1, e.2⟩
  · exact ⟨.inr e, fun e2 => by have := h.lt _ h.sq; omega⟩

set_option maxRecDepth 100000 in
set_option maxHeartbeats 800000 in
theorem take_any (h : QAt w q X S) (p : Pr) (hp : Least X p) :
    Calls Tryz.prog 63 #[.pointer (some ⟨q, 0, none⟩)] w fun e w' => e = .returned (.tuple #[.int .i64 p.1, .int .i64 p.2, .bool true]) ∧ QAt w' q (dropM X p.1) S ∧ Fr S w w' := by
  have hX : 0 < X.length := List.length_pos_of_mem hp.1
  have HL := hide (qlen_any h)
  rcases h.has with ⟨h1, rfl⟩ | ⟨ob, mb, h1, v, L, hO, hpm, hH⟩
  · simp at hX
  · have hL0 : 0 < L.length := by rw [hpm.length_eq]; exact hX
    have hl2 : X.length ≤ 4096 := h.len
    have e0 : at' L 0 = p := by
      have l1 : Least L (at' L 0) := ⟨mem_at.2 ⟨0, hL0, rfl⟩, fun y hy => by obtain ⟨i, hi, rfl⟩ := mem_at.1 hy; exact hH.least i hi⟩
      exact (l1.perm hpm).uniq hp
    have HR := remove_any hO hH 0 hL0
    rw [e0] at HR
    have HR2 : Calls Tryz.prog 86 #[.pointer (some ⟨ob, 0, none⟩), .int .i64 0] w fun e w' => e = .returned (.agg #[.int .i64 p.1, .int .i64 p.2]) ∧ QAt w' q (dropM X p.1) S ∧ Fr S w w' := by
      refine HR.mono ?_
      rintro e w' ⟨rfl, L', hp', hO', hF'⟩
      exact ⟨rfl, qfr h h1 hF' (hO'.perm (dropM_perm_last h.dis (hp'.trans hpm)))⟩
    replace HR2 := hide HR2
    have c0 := cell_of_row w q 0 _ _ _ h1
    simp only [List.getElem?_toArray, List.getElem?_cons_zero] at c0
    have hne : ((X.length : Int) == 0) = false := by simp; intro e; rw [e] at hX; simp at hX
    clear h h1 hO hH HR e0 hp hpm
    obtain ⟨x, k⟩ := p
    go_enter Tryz.func63, Tryz.ntmps63
    go_wp2_with (first | (go_at_call 85; refine HL.out.mono ?_; rintro e w2 ⟨rfl, rfl⟩) | (go_at_call 86; refine HR2.out.mono ?_; rintro e w3 ⟨rfl, hQ, hF⟩; have HQ := hide (And.intro hQ hF); clear hQ hF; simp only))
    go_quiet (fail)
    go_wp2
    go_returns
    have hb : Below w3.heap.size w3 ((w3.alloc (.cells #[.int .i64 x, .int .i64 k] 143)).drewN nq) := below_drewN ((Below.refl _ _).alloc (Nat.le_refl _) _) _
    exact ⟨rfl, HQ.out.1.later hb, HQ.out.2.trans0 (Fr.of_below hb)⟩

theorem drop_none {x : Int} (h : look X x = none) : dropM X x = X := by
  unfold dropM
  rw [List.filter_eq_self]
  intro p hp
  simpa using look_none.1 h p hp

theorem qin_put (h : QAt w q X S) (hq : QIn w q ob mb X S) (x k : Int) (hx : I64 x) (hk : I64 k) :
    (∃ i, Calls Tryz.prog 60 #[.pointer (some ⟨q, 0, none⟩), .int .i64 x] w (fun e w' => e = .returned (.tuple #[.int .i64 i, .bool true]) ∧ w' = w) ∧
      Calls Tryz.prog 61 #[.pointer (some ⟨ob, 0, none⟩), .int .i64 i, .int .i64 k] w fun e w' => e = .returned (.bool (putM X x k).2) ∧ QAt w' q (putM X x k).1 (grow S w w') ∧ Fr S w w') ∨
    (Calls Tryz.prog 60 #[.pointer (some ⟨q, 0, none⟩), .int .i64 x] w (fun e w' => e = .returned (.tuple #[.int .i64 0, .bool false]) ∧ w' = w) ∧
      Calls Tryz.prog 62 #[.pointer (some ⟨ob, 0, none⟩), .int .i64 x, .int .i64 k] w fun e w' => e = .returned (.bool (putM X x k).2) ∧ QAt w' q (putM X x k).1 (grow S w w') ∧ Fr S w w') := by
  obtain ⟨h1, v, L, hO, hp, hH⟩ := hq
  have hsame : QAt w q X (grow S w w) := h.widen (fun b e => .inl e) (fun b e => by rcases e with e | e; exact h.lt b e; omega)
  have hwide : ∀ {w' : World} {X' : List Pr}, QAt w' q X' S ∧ Fr S w w' → QAt w' q X' (grow S w w') ∧ Fr S w w' := fun {w' X'} hh =>
    ⟨hh.1.widen (fun b e => .inl e) (fun b e => by rcases e with e | e; exact hh.1.lt b e; exact e.2), hh.2⟩
  rcases find_at hO.dis hp x with ⟨e1, hn⟩ | ⟨i, hi, e1, e2⟩
  · refine .inr ⟨place_out h1 hO x hx hn, ?_⟩
    have hpm : putM X x k = if X.length < 4096 then (X ++ [(x, k)], true) else (X, false) := by unfold putM; rw [e1]
    rw [hpm]
    by_cases hl : X.length < 4096
    · rw [if_pos hl]
      refine (add_any hO hH x k hx hk hn (by rw [hp.length_eq]; exact hl)).mono ?_
      rintro e w' ⟨rfl, hO', hF'⟩
      exact ⟨rfl, qgrow h h1 hF' (hO'.perm (hp.append_right _))⟩
    · rw [if_neg hl]
      refine (add_full hO x k (by rw [hp.length_eq]; omega)).mono ?_
      rintro e w' ⟨rfl, rfl⟩
      exact ⟨rfl, hsame, Fr.refl _ _⟩
  · refine .inl ⟨i, by have := place_in h1 hO i hi; rw [e1] at this; exact this, ?_⟩
    have hpm : putM X x k = if k < (at' L i).2 then (X.map (repl x k), true) else (X, false) := by unfold putM; rw [e2]
    rw [hpm]
    by_cases hl : k < (at' L i).2
    · rw [if_pos hl]
      refine (lower_any hO hH i hi k hk hl).mono ?_
      rintro e w' ⟨rfl, hO', hF'⟩
      refine ⟨rfl, hwide (qfr h h1 hF' (hO'.perm ?_))⟩
      rw [set_repl hO.dis hi, e1]
      exact hp.map _
    · rw [if_neg hl]
      refine (lower_no hO i hi k (by omega)).mono ?_
      rintro e w' ⟨rfl, rfl⟩
      exact ⟨rfl, hsame, Fr.refl _ _⟩

set_option maxRecDepth 100000 in
set_option maxHeartbeats 800000 in
theorem put_in (h : QAt w q X S) (hq : QIn w q ob mb X S) (x k : Int) (hx : I64 x) (hk : I64 k) :
    Calls Tryz.prog 32 #[.pointer (some ⟨q, 0, none⟩), .int .i64 x, .int .i64 k] w fun e w' => e = .returned (.bool (putM X x k).2) ∧ QAt w' q (putM X x k).1 (grow S w w') ∧ Fr S w w' := by
  have c0 := cell_of_row w q 0 _ _ _ hq.1
  simp only [List.getElem?_toArray, List.getElem?_cons_zero] at c0
  rcases qin_put h hq x k hx hk with ⟨i, h1, h2⟩ | ⟨h1, h2⟩
  · have H1 := hide h1
    have H2 := hide h2
    clear h1 h2 h hq
    go_enter Tryz.func32, Tryz.ntmps32
    go_wp2_with (first | (go_at_call 60; refine H1.out.mono ?_; rintro e w2 ⟨rfl, rfl⟩) | (go_at_call 61; refine H2.out.mono ?_; rintro e w3 ⟨rfl, HQ⟩))
    go_ret
    exact ⟨rfl, HQ⟩
  · have H1 := hide h1
    have H2 := hide h2
    clear h1 h2 h hq
    go_enter Tryz.func32, Tryz.ntmps32
    go_wp2_with (first | (go_at_call 60; refine H1.out.mono ?_; rintro e w2 ⟨rfl, rfl⟩) | (go_at_call 62; refine H2.out.mono ?_; rintro e w3 ⟨rfl, HQ⟩))
    go_ret
    exact ⟨rfl, HQ⟩

/-- The world behind a first Put's making of the order. -/
def made (w : World) (q : Nat) : World := ((w.alloc (.map #[] 0)).alloc (.cells #[.slice none 0 0, .map (some w.heap.size)] 115)).setCell ⟨q, 0, none⟩ (.pointer (some ⟨w.heap.size + 1, 0, none⟩))
theorem made_q (h : QAt w q [] S) (h1 : w.heap[q]? = some (.cells #[.pointer none] 111 (0, 0))) :
    QAt (made w q) q [] (grow S w (made w q)) ∧ QIn (made w q) q (w.heap.size + 1) w.heap.size [] (grow S w (made w q)) ∧ Fr S w (made w q) := by
  have hq := h.lt _ h.sq
  have hsz : (made w q).heap.size = w.heap.size + 2 := by simp [made, World.setCell]
  have hF : Fr S w (made w q) := (((Fr.refl S w).alloc _).alloc _).setCell _ _ (.inl h.sq)
  have hm0 : (w.alloc (.map #[] 0)).heap[w.heap.size]? = some (.map #[] 0) := heap_alloc_new _ _
  have hsz1 : (w.alloc (.map #[] 0)).heap.size = w.heap.size + 1 := by simp
  have hbq : ((w.alloc (.map #[] 0)).alloc (.cells #[.slice none 0 0, .map (some w.heap.size)] 115)).heap[q]? = some (.cells #[.pointer none] 111 (0, 0)) := by
    rw [Below.heap_alloc _ _ _ (by omega), Below.heap_alloc _ _ _ hq]; exact h1
  have hB1 : (made w q).heap[w.heap.size + 1]? = some (.cells #[.slice none 0 0, .map (some w.heap.size)] 115 (0, 0)) := by
    unfold made
    rw [heap_setCell_other _ ⟨q, 0, none⟩ _ _ (by show w.heap.size + 1 ≠ q; omega)]
    have := heap_alloc_new (w.alloc (.map #[] 0)) (.cells #[.slice none 0 0, .map (some w.heap.size)] 115)
    rw [hsz1] at this
    exact this
  have hB0 : (made w q).heap[w.heap.size]? = (w.alloc (.map #[] 0)).heap[w.heap.size]? := by
    unfold made
    rw [heap_setCell_other _ ⟨q, 0, none⟩ _ _ (by show w.heap.size ≠ q; omega), Below.heap_alloc _ _ _ (by omega)]
  have hQ : (made w q).heap[q]? = some (.cells #[.pointer (some ⟨w.heap.size + 1, 0, none⟩)] 111 (0, 0)) := by
    unfold made
    rw [heap_setCell_same _ q 0 _ _ _ hbq]; rfl
  have hlt : ∀ b, grow S w (made w q) b → b < (made w q).heap.size := fun b e => by
    rcases e with e | e
    · have := h.lt b e; omega
    · exact e.2
  have hmap : MapIs (w.alloc (.map #[] 0)) w.heap.size [] := ⟨.map [], World.ownsMap_made _ _ _ _, ⟨fun i hi => by simp at hi, fun x _ => rfl, rfl⟩⟩
  have hin : QIn (made w q) q (w.heap.size + 1) w.heap.size [] (grow S w (made w q)) := by
    refine ⟨hQ, .slice none 0 0, [], ⟨hB1, World.ownsRow_nil _ _ _ _, hmap.of_block hB0, ⟨.inr (by omega), by omega⟩, ⟨.inr (by omega), by omega⟩, (fun g e => by cases e), fun b e => hlt b e.1, fun i hi => by simp at hi, by simp⟩, .refl _, fun k _ hk => by simp at hk⟩
  exact ⟨⟨.inl h.sq, hlt, .inr ⟨_, _, hin⟩⟩, hin, hF⟩
theorem grow_grow {w1 : World} (hX : QAt w' q X (grow (grow S w w1) w1 w')) (hF1 : Fr S w w1) (hF2 : Fr (grow S w w1) w1 w') : QAt w' q X (grow S w w') ∧ Fr S w w' := by
  refine ⟨hX.widen (fun b e => ?_) (fun b e => ?_), hF1.trans hF2 (fun b e => ?_)⟩
  · rcases e with (e | e) | e
    · exact .inl e
    · exact .inr ⟨e.1, Nat.lt_of_lt_of_le e.2 hF2.size⟩
    · exact .inr ⟨Nat.le_trans hF1.size e.1, e.2⟩
  · rcases e with e | e
    · exact hX.lt b (.inl (.inl e))
    · exact e.2
  · rcases e with e | e
    · exact .inl e
    · exact .inr e.1
set_option maxRecDepth 100000 in
set_option maxHeartbeats 800000 in
theorem put_any (h : QAt w q X S) (x k : Int) (hx : I64 x) (hk : I64 k) :
    Calls Tryz.prog 32 #[.pointer (some ⟨q, 0, none⟩), .int .i64 x, .int .i64 k] w fun e w' => e = .returned (.bool (putM X x k).2) ∧ QAt w' q (putM X x k).1 (grow S w w') ∧ Fr S w w' := by
  rcases h.has with ⟨h1, rfl⟩ | ⟨ob, mb, hq⟩
  · obtain ⟨g1, g2, g3⟩ := made_q h h1
    have c0 := cell_of_row w q 0 _ _ _ h1
    simp only [List.getElem?_toArray, List.getElem?_cons_zero] at c0
    have zf := frozen_of_row w q 0 _ _ h1
    have hql := h.lt _ h.sq
    have hb2 : Below w.heap.size w ((w.alloc (.map #[] 0)).alloc (.cells #[.slice none 0 0, .map (some w.heap.size)] 115)) := ((Below.refl _ _).alloc (Nat.le_refl _) _).alloc (by simp) _
    have c1 := (hb2.cell (p := ⟨q, 0, none⟩) hql).trans c0
    have z1 := (hb2.frozen (p := ⟨q, 0, none⟩) hql).trans zf
    have hmm := @run_makeMap Tryz.prog
    have cm := cell_of_row (made w q) q 0 _ _ _ g2.1
    simp only [List.getElem?_toArray, List.getElem?_cons_zero] at cm
    rcases qin_put g1 g2 x k hx hk with ⟨i, h3, h4⟩ | ⟨h3, h4⟩
    · have H3 := hide h3
      have H4 := hide (And.intro h4 g3)
      clear h3 h4 h g1 g2 g3 h1 hb2 hql
      go_enter Tryz.func32, Tryz.ntmps32
      go_wp2_with (first | (go_at_call 60; refine (show Calls _ _ _ (made w q) _ from H3.out).mono ?_; rintro e w2 ⟨rfl, rfl⟩) | (go_at_call 61; refine H4.out.1.mono ?_; rintro e w3 ⟨rfl, HQ⟩))
      go_ret
      exact ⟨rfl, grow_grow HQ.1 H4.out.2 HQ.2⟩
    · have H3 := hide h3
      have H4 := hide (And.intro h4 g3)
      clear h3 h4 h g1 g2 g3 h1 hb2 hql
      go_enter Tryz.func32, Tryz.ntmps32
      go_wp2_with (first | (go_at_call 60; refine (show Calls _ _ _ (made w q) _ from H3.out).mono ?_; rintro e w2 ⟨rfl, rfl⟩) | (go_at_call 62; refine H4.out.1.mono ?_; rintro e w3 ⟨rfl, HQ⟩))
      go_ret
      exact ⟨rfl, grow_grow HQ.1 H4.out.2 HQ.2⟩
  · exact put_in h hq x k hx hk
end
end Go.Proofs.YtojkdmkeankcgaaGreat.Qu
