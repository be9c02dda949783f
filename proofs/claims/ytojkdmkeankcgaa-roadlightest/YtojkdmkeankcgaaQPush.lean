/-
  What the calls of the order's Push and Pop do.
-/
import Derived.Test.YtojkdmkeankcgaaQLess
namespace Go.Proofs.Ytojkdmkeankcgaa.Qu
open Go.RowKit Go.Maps

/-- The row is the one that it was, or a new one. -/
def Moved (n : Nat) (o o' : Option Nat) : Prop := o' = o ∨ ∃ g, o' = some g ∧ n ≤ g
section
variable {P : Program} (w : World)
theorem append_moved (base : Nat) (t ty e : TypeId) (i : TypeInfo) (z : Value) (size bytes : Nat) (ht : P.underlying t = some (.slice e)) (hi : P.info? e = some i) (hz : i.zero = some z)
    (hsize : i.size = size) (hby : i.bytes = bytes) (hzs : z.cells.size = size) (hsz : 0 < size)
    (v : Value) (n : Nat) (xs : List Value) (hown : w.ownsRow base e size v n xs)
    (a : Addr) (m c : Nat) (news : List Value) (hl : news.length = m * size) (hnews : ∀ j u, news[j]? = some u → w.cell? (a.add j) = some u) (h1 : ∀ u ∈ news, u.oneCell' = true)
    (h63 : n + m ≤ maxLen) (hbytes : (n + m) * bytes ≤ 140737488355328) (hbase : base ≤ w.heap.size) :
    ∃ v' w', (Builtin.append_ #[t, t] ty #[v, .slice (some a) m c]).run P w = .ok v' w' ∧ w'.ownsRow base e size v' (n + m) (xs ++ news) ∧ w.grownBy w' v.ownBlock ∧ Moved w.heap.size v.ownBlock v'.ownBlock := by
  obtain ⟨v', w', hr, ho, hg, _⟩ := run_append_own w base t ty e i z size bytes ht hi hz hsize hby hzs hsz v n xs hown a m c news hl hnews h1 h63 hbytes hbase
  refine ⟨v', w', hr, ho, hg, ?_⟩
  rcases hown.2 with ⟨rfl, rfl⟩ | ⟨g, cap, cur, rfl, hbg, hgg, hnc, hcm, hcs, htake⟩
  · have hx : xs = [] := List.eq_nil_of_length_eq_zero (by simpa using hown.1)
    subst hx
    obtain ⟨v2, w2, hr2, ho2, _, _⟩ := run_append_own w w.heap.size t ty e i z size bytes ht hi hz hsize hby hzs hsz (.slice none 0 0) 0 [] (World.ownsRow_nil _ _ _ _) a m c news hl hnews h1 h63 hbytes (Nat.le_refl _)
    rw [hr] at hr2
    cases hr2
    cases hv : v'.ownBlock with
    | none => exact .inl rfl
    | some g => exact .inr ⟨g, rfl, (ho2.lt g hv).1⟩
  · subst hsize
    by_cases hroom : n + m ≤ cap
    · have hfit : n * i.size + news.length ≤ cur.size := by rw [hl, hcs, ← Nat.add_mul]; exact Nat.mul_le_mul_right _ hroom
      have hr2 := run_append_room (P := P) w t ty e i ht hi g n cap cur hgg a m c news hl hnews h1 hroom hfit
      rw [hr] at hr2
      cases hr2
      exact .inl rfl
    · have holds : ∀ j u, xs[j]? = some u → w.cell? ((⟨g, 0, none⟩ : Addr).add j) = some u := hown.cells (g := g) rfl
      have hr2 := run_append_grow (P := P) w t ty e i z ht hi hz ⟨g, 0, none⟩ n cap xs hown.1 holds a m c news hl hnews (by omega) (by simp only [maxLen] at h63; omega) (growslice_fits (by omega) (by rw [hby]; exact hbytes))
      rw [hr] at hr2
      cases hr2
      exact .inr ⟨_, rfl, Nat.le_refl _⟩
end
theorem cells_new (w : World) (l : List Value) (t : TypeId) (n : Nat) (hn : n = w.heap.size) (j : Nat) (u : Value) (h : l[j]? = some u) : (w.alloc (.cells l.toArray t)).drew.cell? ((⟨n, 0, none⟩ : Addr).add j) = some u := by
  subst hn
  rw [add0]
  show (w.alloc (.cells l.toArray t)).cell? ⟨w.heap.size, j, none⟩ = _
  rw [cell_of_row _ w.heap.size j _ _ _ (heap_alloc_new w _)]
  simpa using h
theorem own_shape {w : World} {base e size n : Nat} {v : Value} {xs : List Value} (h : w.ownsRow base e size v n xs) : ∃ a c, v = .slice a n c := by
  rcases h.2 with ⟨rfl, rfl⟩ | ⟨g, cap, cur, rfl, _⟩
  · exact ⟨none, 0, rfl⟩
  · exact ⟨_, cap, rfl⟩
/-- An append as one step of a region that draws. -/
theorem step_append {P : Program} {ops : Array Oper} {o : Oper} {a : Act} {w : World} {K : Act → World → Prop} {Q : Exit → Act → World → Prop} {E : Prop}
    (hg : o.guard = none) (s x : Operand) (t : TypeId) (hop : o.op = Op.call { callee := Callee.builtin Builtin.append, args := #[s, x], argTypes := #[t, t] })
    (base : Nat) (e : TypeId) (i : TypeInfo) (z : Value) (size bytes : Nat) (ht : P.underlying t = some (.slice e)) (hi : P.info? e = some i) (hz : i.zero = some z)
    (hsize : i.size = size) (hby : i.bytes = bytes) (hzs : z.cells.size = size) (hsz : 0 < size)
    (v : Value) (n : Nat) (xs : List Value) (hs : a.eval s = v) (hown : w.ownsRow base e size v n xs)
    (ad : Addr) (m c : Nat) (news : List Value) (hx : a.eval x = .slice (some ad) m c) (hl : news.length = m * size) (hnews : ∀ j u, news[j]? = some u → w.cell? (ad.add j) = some u) (h1 : ∀ u ∈ news, u.oneCell' = true)
    (h63 : n + m ≤ maxLen) (hbytes : (n + m) * bytes ≤ 140737488355328) (hbase : base ≤ w.heap.size)
    (hK : ∀ v' w', w'.ownsRow base e size v' (n + m) (xs ++ news) → w.grownBy w' v.ownBlock → Moved w.heap.size v.ownBlock v'.ownBlock → K (a.put o.dst v') w') :
    if Region.wanted o (yielded ops a.tmps) = true then Oper.wp P o a w K Q else E := by
  have hw : Region.wanted o (yielded ops a.tmps) = true := by simp [Region.wanted, hg]
  rw [if_pos hw]
  obtain ⟨v', w', hr, h2, h3, h4⟩ := append_moved (P := P) w base t o.type e i z size bytes ht hi hz hsize hby hzs hsz v n xs hown ad m c news hl hnews h1 h63 hbytes hbase
  unfold Oper.wp
  simp [execOp, hop, resolve, invoke, builtin, hs, hx, hr, Result.andThen]
  exact hK v' w' h2 h3 h4

theorem info49 : (Try.prog.info? 121).map (fun i => (i.zero, i.size, i.bytes)) = some (some (.agg #[.int .i64 0, .int .i64 0]), 2, 16) := by kernel_rfl

theorem at_snoc (L : List Pr) (p : Pr) (k : Nat) : at' (L ++ [p]) k = if k < L.length then at' L k else if k = L.length then p else (0, 0) := by
  unfold at'
  simp only [List.getD_eq_getElem?_getD]
  split
  · rw [List.getElem?_append_left (by omega)]
  · split
    · rename_i h; subst h; simp
    · rw [List.getElem?_eq_none (by simp; omega)]; rfl
theorem Pl.snoc {D : DataW Unit} {L : List Pr} (h : Pl D L) (ht : Tidy D) (p : Pr) (hp : ∀ i, i < L.length → (at' L i).1 ≠ p.1) : Pl (D.put (ki p.1) (dI L.length)) (L ++ [p]) := by
  have hm := ht.isMap
  refine ⟨fun k hk => ?_, fun x hx => ?_, ?_⟩
  · rw [at_snoc]
    split
    · rename_i hlt
      rw [has_put_other (ki_ne (hp k hlt)), atKey_put_other (ki_ne (hp k hlt))]
      exact h.here k hlt
    · have : k = L.length := by simp at hk; omega
      rw [if_pos this]
      exact ⟨has_put_same hm (ki_key _) _, by rw [atKey_put_same hm (ki_key _), this]⟩
  · have hn : x ≠ p.1 := by have := hx L.length (by simp); rw [at_snoc, if_neg (by omega), if_pos rfl] at this; exact this.symm
    rw [has_put_other (ki_ne hn)]
    refine h.none x fun i hi => ?_
    have := hx i (by simp; omega)
    rwa [at_snoc, if_pos hi] at this
  · rw [size_put ht, h.none p.1 hp, h.size]
    simp

section
variable {w : World} {ob mb : Nat} {v : Value} {L M : List Pr} {S : Nat → Prop}
theorem assert49 (w : World) (u : Value) : (Instr.typeAssert (.iface 121 u) 20 121 false).run Try.prog w = .ok u w := by kernel_rfl

theorem push_end {W2 w3 : World} {o : Obj} {x k : Int} {v' : Value} (HO : Ord w ob mb v L L S) (HF2 : Fr S w W2) (HM : MapIs W2 mb (L ++ [(x, k)])) (hx : I64 x) (hk : I64 k) (hl : L.length < 4096)
    (hown3 : w3.ownsRow 0 121 2 v' (L.length + 1) (flat L ++ [.int .i64 x, .int .i64 k])) (hg3 : (W2.alloc o).drew.grownBy w3 v.ownBlock) (hm3 : Moved (W2.alloc o).drew.heap.size v.ownBlock v'.ownBlock)
    (hbo : w3.heap[ob]? = some (.cells #[v, .map (some mb)] 112 (0, 0))) :
    ∃ u, Ord (w3.setCell ⟨ob, 0, none⟩ v') ob mb u (L ++ [(x, k)]) (L ++ [(x, k)]) (fun b => S b ∨ w.heap.size ≤ b ∧ b < (w3.setCell ⟨ob, 0, none⟩ v').heap.size) ∧ Fr S w (w3.setCell ⟨ob, 0, none⟩ v') := by
  have hF3 : Fr S w w3 := ((HF2.alloc o).drew).trans0 (Fr.of_grown hg3 (fun b e => HO.sr b e))
  have hF4 := hF3.setCell ⟨ob, 0, none⟩ v' (.inl HO.so)
  have hsz : (w3.setCell ⟨ob, 0, none⟩ v').heap.size = w3.heap.size := by simp [World.setCell]
  have hmb2 : mb < W2.heap.size := Nat.lt_of_lt_of_le (HO.lt _ HO.sm) HF2.size
  have hg' : ∀ g, v'.ownBlock = some g → S g ∨ w.heap.size ≤ g ∧ g < w3.heap.size := by
    intro g e
    have hlt := (hown3.lt g e).2
    rcases hm3 with h | ⟨g2, h, h2⟩
    · exact .inl (HO.sr g (h ▸ e))
    · have : g2 = g := by rw [h] at e; simpa using e
      subst this
      have h3 := HF2.size
      have h4 : (W2.alloc o).drew.heap.size = W2.heap.size + 1 := by show (W2.alloc o).heap.size = _; simp
      exact .inr ⟨by omega, hlt⟩
  have hog : ∀ g, v'.ownBlock = some g → g ≠ ob := by
    intro g e e2
    subst e2
    rcases hown3.2 with ⟨rfl, _⟩ | ⟨g2, cap, cur, rfl, _, hb, _⟩
    · cases e
    · have e3 : g2 = g := by simpa [Value.ownBlock] using e
      rw [e3, hbo] at hb
      simp at hb
  refine ⟨v', ⟨?_, ?_, ?_, .inl HO.so, .inl HO.sm, ?_, ?_, ?_, by simp; omega⟩, hF4⟩
  · rw [heap_setCell_same w3 ob 0 _ _ v' hbo]; rfl
  · have h1 : Row w3 v' (L ++ [(x, k)]) := by
      unfold Row
      rw [flat_app, List.length_append]
      exact hown3
    exact h1.of_block (fun g e => heap_setCell_other _ _ _ _ (hog g e))
  · refine HM.of_block ?_
    rw [heap_setCell_other _ _ _ _ HO.mo, hg3.block mb (by show mb < (W2.alloc o).heap.size; simp; omega) (fun e => (HO.mg e.symm) rfl)]
    show (W2.alloc o).heap[mb]? = _
    exact Below.heap_alloc _ _ _ hmb2
  · intro g e
    rcases hg' g e with h | h
    · exact .inl h
    · exact .inr ⟨h.1, by rw [hsz]; exact h.2⟩
  · intro b hb
    rcases hb with h | h
    · exact Nat.lt_of_lt_of_le (HO.lt _ h) hF4.size
    · exact h.2
  · intro i hi
    rw [at_snoc]
    split
    · exact HO.wf i (by assumption)
    · have : i = L.length := by simp at hi; omega
      rw [if_pos this]
      exact ⟨hx, hk⟩

set_option maxRecDepth 100000 in
set_option maxHeartbeats 1600000 in
theorem push_any (h : Ord w ob mb v L L S) (x k : Int) (hx : I64 x) (hk : I64 k) (hn : ∀ i, i < L.length → (at' L i).1 ≠ x) (hl : L.length < 4096) :
    Calls Try.prog 135 #[.pointer (some ⟨ob, 0, none⟩), .iface 121 (.agg #[.int .i64 x, .int .i64 k])] w fun e w' => e = .returned (.tuple #[]) ∧ ∃ v', Ord w' ob mb v' (L ++ [(x, k)]) (L ++ [(x, k)]) (fun b => S b ∨ w.heap.size ≤ b ∧ b < w'.heap.size) ∧ Fr S w w' := by
  have o0 := h.c0
  have o1 := h.c1
  have ho : ob < w.heap.size := h.lt _ h.so
  have g3 : ¬ w.heap.size = ob := by omega
  have HO : Hid (Ord w ob mb v L L S) := h
  obtain ⟨a, cap, hv, h1, h2⟩ := h.row.shape
  clear h
  have o0' : w.cell? ⟨ob, 0, none⟩ = some (.slice a L.length cap) := by rw [← hv]; exact o0
  clear o0
  have hta := fun w => assert49 w (.agg #[.int .i64 x, .int .i64 k])
  go_enter Try.func135, Try.ntmps135
  go_wp2
  have hb1 : Below w.heap.size w (w.alloc (.cells #[.int .i64 x, .int .i64 k] 121)) := (Below.refl _ _).alloc (Nat.le_refl _) _
  have hnew := heap_alloc_new w (.cells #[.int .i64 x, .int .i64 k] 121)
  have hz1 : (w.alloc (.cells #[.int .i64 x, .int .i64 k] 121)).heap.size = w.heap.size + 1 := by simp
  obtain ⟨B, hB⟩ : ∃ B, w.heap.size = B := ⟨_, rfl⟩
  rw [hB] at hnew hb1 hz1 g3 ⊢
  generalize (w.alloc (.cells #[.int .i64 x, .int .i64 k] 121)) = W1 at hb1 hnew hz1 ⊢
  have HO1 : Hid (Ord W1 ob mb v L L S) := HO.out.later (by rw [hB]; exact hb1)
  have q0 : W1.cell? ⟨ob, 0, none⟩ = some (.slice a L.length cap) := by rw [← hv]; exact HO1.out.c0
  have q1 := HO1.out.c1
  have q2 := cell_of_row W1 B 0 _ _ _ hnew
  have q3 := cell_of_row W1 B 1 _ _ _ hnew
  simp only [List.getElem?_toArray, List.getElem?_cons_succ, List.getElem?_cons_zero] at q2 q3
  obtain ⟨D, hD, hPl⟩ := HO1.out.map
  have hT := hD.tidy law
  obtain ⟨W2, hrun, hD2, hturn⟩ := World.ownsMap.store (w := W1.drew) (t := 109) (e := 3) hD law Try.underlying109 (by unfold maxLen; omega) (keyOf3 hx) (plainElem_int Try.underlying3 (I64.wf (x := (L.length : Int)) ⟨by omega, by omega⟩))
  have hg2 := hturn.grown
  have hs2 : W2.heap.size = B + 1 := by
    obtain ⟨_, _, _, _, _, rfl⟩ := hturn
    rw [← hz1]; simp [ChangeMaps.setBlock]
  have hb2 : ∀ b, b < B + 1 → b ≠ mb → W2.heap[b]? = W1.heap[b]? := fun b h1 hb => hg2.block b (by show b < W1.heap.size; omega) (by simp; exact hb)
  have hmB : mb < B := by rw [← hB]; exact HO.out.lt _ HO.out.sm
  have r0 : W2.cell? ⟨ob, 0, none⟩ = some (.slice a L.length cap) := by rw [World.cell?_of_block (w := W1) (hb2 ob (by omega) HO.out.mo.symm)]; exact q0
  have r2 : W2.cell? ⟨B, 0, none⟩ = some (.int .i64 x) := by rw [World.cell?_of_block (w := W1) (hb2 B (by omega) (by omega))]; exact q2
  have r3 : W2.cell? ⟨B, 1, none⟩ = some (.int .i64 k) := by rw [World.cell?_of_block (w := W1) (hb2 B (by omega) (by omega))]; exact q3
  have zf : W2.frozen? ⟨ob, 0, none⟩ = false := by rw [World.frozen?_of_block (w := W1) (hb2 ob (by omega) HO.out.mo.symm)]; exact HO1.out.f 0
  have HRow : Hid (Row W2 (.slice a L.length cap) L) := by rw [← hv]; exact HO1.out.row.of_block (fun g e => hb2 g (by have := HO.out.lt _ (HO.out.sr g e); omega) (HO.out.mg e).symm)
  have HMap : Hid (MapIs W2 mb (L ++ [(x, k)])) := by
    have hpl := hPl.snoc hT (x, k) hn
    exact ⟨_, World.ownsMap.mono (OwnI.tight hD2) (Nat.le_of_eq hpl.size), hpl⟩
  have HF2 : Hid (Fr S w W2) := ((Fr.of_below (by rw [hB]; exact hb1) : Fr S w W1).drew).trans0 (Fr.of_grown hg2 (fun k e => by cases e; exact HO.out.sm))
  obtain ⟨i0, hi0, hy0, hy1, hy2⟩ := info_parts info49
  have r0a : (W2.alloc (.cells #[.int .i64 x, .int .i64 k] 121)).cell? ⟨ob, 0, none⟩ = some (.slice a L.length cap) := by rw [World.cell?_alloc_lt _ _ _ (by show ob < _; omega)]; exact r0
  have HOG : Hid (∀ b, b = ob → some b ≠ (Value.slice a L.length cap).ownBlock) := by
    intro b e e2
    rw [← hv] at e2
    exact (HO.out.og e2.symm) e.symm
  have HBO : Hid ((W2.alloc (.cells #[.int .i64 x, .int .i64 k] 121)).drew.heap[ob]? = some (.cells #[.slice a L.length cap, .map (some mb)] 112 (0, 0))) := by
    show (W2.alloc (.cells #[.int .i64 x, .int .i64 k] 121)).heap[ob]? = _
    rw [Below.heap_alloc _ _ _ (by omega), hb2 ob (by omega) HO.out.mo.symm, ← hv]
    exact HO1.out.blk
  clear hD hPl hT hturn hg2 hb2 hD2 hnew hb1
  go_wp2
  go_region
  clear q0 q1 q2 q3 hrun
  go_wp2
  go_region_law (refine step_append rfl (.tmp 22) (.tmp 24) 110 rfl 0 121 i0 (.agg #[.int .i64 0, .int .i64 0]) 2 16 Try.underlying110 hi0 hy0 hy1 hy2 rfl (by decide) (.slice a L.length cap) L.length (flat L) rfl (HRow.out.alloc _) ⟨B + 1, 0, none⟩ 1 1 [.int .i64 x, .int .i64 k] rfl rfl (cells_new W2 [.int .i64 x, .int .i64 k] 121 (B + 1) hs2.symm) (by simp [Value.oneCell']) (by unfold maxLen; omega) (by omega) (by simp) ?_; intro v3 w3 hown3 hg3 hm3; obtain ⟨a3, cap3, rfl⟩ := own_shape hown3; have hbo := hg3.block ob (by simp; omega) (HOG.out ob rfl); have hbo2 := hbo.trans HBO.out; have t0 := cell_of_row w3 ob 0 _ _ _ hbo2; have t1 := frozen_of_row w3 ob 0 _ _ hbo2; simp only [List.getElem?_toArray, List.getElem?_cons_zero] at t0)
  all_goals
    go_wp2
    go_end0
    refine ⟨rfl, push_end (v := .slice a L.length cap) (by rw [← hv]; exact HO.out) HF2.out HMap.out hx hk hl hown3 hg3 hm3 hbo2⟩
end
end Go.Proofs.Ytojkdmkeankcgaa.Qu
