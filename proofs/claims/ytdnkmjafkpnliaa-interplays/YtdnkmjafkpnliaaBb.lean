/-
  Several texts in one: Vsts Bhd Lds Rst TStp Stps Grw Vrw Cat CpV ArgV SetW Pln0 Line HCall OfW FitE LoaL.
-/
import Derived.Test.YtdnkmjafkpnliaaProg
import Derived.WalkKit
import Derived.WalkSpells
import Derived.WalkLawsBesides
import Derived.Deep.QuietTactic
import Derived.BigQuiet
import Derived.BigRegion
import Derived.Deep.RegionWith
import Derived.Deep.RegionHeld
import Derived.Laws.AppendOwnNone
import Derived.Laws.OwnMore
import Derived.Shelf.Abstract
import Derived.Deep.RegionHeld3
import Derived.ProofKit
import Derived.OpenShut
import Derived.Carry
import Derived.SizedLaws
import Derived.Deep.Strs
import Derived.Deep.Slices
import Derived.DeepKeys4
import Derived.Maps.OwnSet
import Derived.Maps.RangeWalk
import Derived.WideKeyEntry
import Derived.Deep.CutRange
import Derived.Test.YtdnkmjafkpnliaaBa
import Derived.Test.YtdnkmjafkpnliaaRows
namespace Go.Proofs.Ytdnkmjafkpnliaa
open Go.RowKit
/-- How many visits a task has, and of which kind each is. -/
def visN (s : Bool) : Nat := if s = true then 2 else 1
def visK (s : Bool) (k : Nat) : Int := if s = true then (k : Int) + 2 else 1
set_option maxRecDepth 100000 in
set_option maxHeartbeats 3200000 in
theorem rvisits_any (w : World) (s : Bool) (i : Int) : Calls Try.prog 47 #[.agg #[.bool s, .int .i64 i]] w fun e w' => ∃ v, e = .returned v ∧ PrV w' v (visN s) (fun k => (.int .i64 (visK s k), .int .i64 i)) ∧ (∃ c, v = .slice (some ⟨w.heap.size + 1, 0, none⟩) (visN s) c) ∧ Below w.heap.size w w' := by
  have HB0 : Hid (∀ A B, Below w.heap.size w ((w.alloc A).alloc B)) := fun A B => ((Below.refl _ _).alloc (Nat.le_refl _) A).alloc (by simp) B
  cases s with
  | true =>
    go_enter Try.func47, Try.ntmps47
    go_wp2
    go_ret
    have hr := heap_alloc2_new w (.cells #[.bool true, .int .i64 i] 67) (.cells #[.int .i64 2, .int .i64 i, .int .i64 3, .int .i64 i] 58)
    refine ⟨_, rfl, ⟨_, _, rfl, by decide, fun k hk => ⟨w.heap.size + 1, 0, rfl, ?_⟩⟩, ⟨_, rfl⟩, HB0.out _ _⟩
    rw [cell_of_row _ _ _ _ _ _ hr, cell_of_row _ _ _ _ _ _ hr]
    have hk : k < 2 := hk
    have hk : k = 0 ∨ k = 1 := by omega
    rcases hk with rfl | rfl <;> exact ⟨rfl, rfl⟩
  | false =>
    go_enter Try.func47, Try.ntmps47
    go_wp2
    go_ret
    have hr := heap_alloc2_new w (.cells #[.bool false, .int .i64 i] 67) (.cells #[.int .i64 1, .int .i64 i] 58)
    refine ⟨_, rfl, ⟨_, _, rfl, by decide, fun k hk => ⟨w.heap.size + 1, 0, rfl, ?_⟩⟩, ⟨_, rfl⟩, HB0.out _ _⟩
    rw [cell_of_row _ _ _ _ _ _ hr, cell_of_row _ _ _ _ _ _ hr]
    have hk : k < 1 := hk
    have hk : k = 0 := by omega
    subst hk
    exact ⟨rfl, rfl⟩
end Go.Proofs.Ytdnkmjafkpnliaa
namespace Go.Proofs.Ytdnkmjafkpnliaa
open Go.RowKit
end Go.Proofs.Ytdnkmjafkpnliaa
namespace Go.Proofs.Ytdnkmjafkpnliaa
open Go.RowKit
abbrev Vst := Int × Int
section
end
end Go.Proofs.Ytdnkmjafkpnliaa
namespace Go.Proofs.Ytdnkmjafkpnliaa
open Go.RowKit
/-- Visits in memory. -/
def VsV (w : World) (v : Value) (V : List Vst) : Prop := PrV w v V.length fun k => (.int .i64 (V.getD k (0, 0)).1, .int .i64 (V.getD k (0, 0)).2)
theorem vs_cells {w : World} {a : Option Addr} {m c k : Nat} {V : List Vst} {u : Vst} (h : VsV w (.slice a m c) V) (hu : V[k]? = some u) : ∃ b off, a = some ⟨b, off, none⟩ ∧ b < w.heap.size ∧ w.cell? ⟨b, off + k * 2, none⟩ = some (.int .i64 u.1) ∧ w.cell? ⟨b, off + k * 2 + 1, none⟩ = some (.int .i64 u.2) ∧ V.length = m := by
  obtain ⟨a', c', e, _, hc⟩ := h
  injection e with e1 e2 e3
  subst e1
  have hk := (List.getElem?_eq_some_iff.1 hu).1
  obtain ⟨b, off, e, h1, h2⟩ := hc k hk
  have eg : V.getD k (0, 0) = u := by rw [List.getD_eq_getElem?_getD, hu]; rfl
  simp only [eg] at h1 h2
  exact ⟨b, off, e, cell_lt9 h1, h1, h2, e2.symm⟩
end Go.Proofs.Ytdnkmjafkpnliaa
namespace Go.Proofs.Ytdnkmjafkpnliaa
open Go.RowKit
/-- Nothing but block B has turned, and new blocks. -/
theorem grw_refl (w : World) (r : Option Nat) : w.grownBy w r := ⟨rfl, rfl, rfl, Nat.le_refl _, fun _ _ _ => rfl⟩
theorem grw_set {w w' : World} {B : Nat} (h : w.grownBy w' (some B)) (j : Nat) (u : Value) : w.grownBy (w'.setCell ⟨B, j, none⟩ u) (some B) := ⟨h.os, h.tape, h.output, by simpa using h.size, fun k hk hn => (heap_setCell_other _ _ _ _ (fun e => hn (by rw [e]))).trans (h.block k hk hn)⟩
theorem grw_low {w w' : World} {B b : Nat} (h : w.grownBy w' (some B)) (hb : b ≤ B) (hw : b ≤ w.heap.size) : Below b w w' := ⟨h.os, h.tape, h.output, h.size, fun k hk => h.block k (by omega) (fun e => by injection e with e; omega)⟩
end Go.Proofs.Ytdnkmjafkpnliaa
namespace Go.Proofs.Ytdnkmjafkpnliaa
open Go.RowKit
theorem lt_of_block {w : World} {B : Nat} {o : Obj} (h : w.heap[B]? = some o) : B < w.heap.size := by
  rcases Nat.lt_or_ge B w.heap.size with hlt | hge
  · exact hlt
  · rw [Array.getElem?_eq_none hge] at h; cases h
end Go.Proofs.Ytdnkmjafkpnliaa
namespace Go.Proofs.Ytdnkmjafkpnliaa
open Go.RowKit
theorem info34 : (Try.prog.info? 58).map (fun i => (i.zero, i.size, i.bytes)) = some (some (.agg #[.int .i64 0, .int .i64 0]), 2, 16) := by kernel_rfl
theorem under3 : Try.prog.underlying 3 = some (.int .i64) := by kernel_rfl
/-- n zeros behind nothing. -/
theorem run_zeros (w : World) (ty : TypeId) (n : Nat) (h0 : 0 < n) (hn : n ≤ 1000) : ∃ cap w', (Builtin.append_ #[22, 3] ty #[.slice none 0 0, .int .i64 (n : Int)]).run Try.prog w = .ok (.slice (some ⟨w.heap.size, 0, none⟩) n cap) w' ∧ w'.ownsRow w.heap.size 58 2 (.slice (some ⟨w.heap.size, 0, none⟩) 0 cap) 0 [] ∧ Below w.heap.size w w' := by
  obtain ⟨i, hi, hz, hsz, hby⟩ := info_parts info34
  have hne : n ≠ 0 := by omega
  have h1 : IntKind.i64.wrap (n : Int) = (n : Int) := by rw [IntKind.wrap_i64]; omega
  have h2 : ¬ ((n : Int) < 0) := by omega
  have h3 : ¬ (281474976710656 < (n : Int) * i.bytes) := by rw [hby]; omega
  have h63 : ¬ (9223372036854775807 < (n : Int)) := by omega
  have h48 : ¬ (281474976710656 < Builtin.nextslicecap n 0 * i.bytes) := by rw [nextslicecap_zero h0, hby]; omega
  have hns : ¬ (n * 2 = 0) := by omega
  refine ⟨grownCap w n 0 58, w.drew.alloc (.cells (Builtin.zeroCells (Value.agg #[.int .i64 0, .int .i64 0]).cells n ++ Builtin.zeroCells (Value.agg #[.int .i64 0, .int .i64 0]).cells (grownCap w n 0 58 - n)) 58), ?_, ?_, ?_⟩
  · simp [Builtin.append_, run_underlying Try.underlying22, run_underlying under3, sizeOf, typeInfo, zeroValue, hi, hz, hsz, asInt, asIntOf, Builtin.lenOf, Builtin.firstCells, hne, h1, h2, h3, h63, h48, hns, Question.forced, newRow, grownCap]
  · have hge := grownCap_ge w n 0 58
    have hcm : grownCap w n 0 58 ≤ maxLen := grownCap_le_maxLen w n 0 58 (by unfold maxLen; omega)
    refine ⟨rfl, .inr ⟨w.heap.size, _, _, rfl, Nat.le_refl _, heap_alloc_new w.drew _, Nat.zero_le _, hcm, ?_, by simp⟩⟩
    simp only [Array.size_append, size_zeroCells]
    show n * 2 + (grownCap w n 0 58 - n) * 2 = _
    omega
  · exact (Below.refl _ _).drew.alloc (Nat.le_refl _) _
theorem wpList_zeros {w : World} {ops : Array Oper} {rest : List Oper} {o : Oper} {a : Act} {Q : Exit → Act → World → Prop} {n : Nat} (s x : Operand) (hgd : o.guard = none) (ho : o.op = .call { callee := .builtin .append, args := #[s, x], argTypes := #[22, 3] }) (hs : a.eval s = .slice none 0 0) (hx : a.eval x = .int .i64 (n : Int)) (h0 : 0 < n) (hn : n ≤ 1000)
    (h : ∀ cap w', w'.ownsRow w.heap.size 58 2 (.slice (some ⟨w.heap.size, 0, none⟩) 0 cap) 0 [] → Below w.heap.size w w' → wpList Try.prog ops Q rest (a.put o.dst (.slice (some ⟨w.heap.size, 0, none⟩) n cap)) w') : wpList Try.prog ops Q (o :: rest) a w := by
  refine wpList_plain hgd fun K hK => ?_
  obtain ⟨cap, w', hr, h1, h2⟩ := run_zeros w o.type n h0 hn
  unfold Oper.wp execOp
  simp only [ho, resolve, invoke, builtin, Sem.run_bind, Sem.run_pure, Result.andThen_ok, List.map_toArray, List.map_cons, List.map_nil, hs, hx, hr]
  exact hK _ _ (h cap w' h1 h2)
set_option maxRecDepth 100000 in
set_option maxHeartbeats 3200000 in
theorem grow_nil (w : World) (n : Nat) (h0 : 0 < n) (hn : n ≤ 1000) : Calls Try.prog 64 #[.slice none 0 0, .int .i64 (n : Int)] w fun e w' => ∃ cap, e = .returned (.slice (some ⟨w.heap.size, 0, none⟩) 0 cap) ∧ w'.ownsRow w.heap.size 58 2 (.slice (some ⟨w.heap.size, 0, none⟩) 0 cap) 0 [] ∧ Below w.heap.size w w' := by
  have i1 : ¬ (n : Int) < 0 := by omega
  have i2 : (0 : Int) < (n : Int) := by omega
  have i3 : ¬ (n : Int) ≤ 0 := by omega
  have hw : IntKind.i64.wrap (n : Int) = (n : Int) := by rw [IntKind.wrap_i64]; omega
  go_enter Try.func64, Try.ntmps64
  go_wp2_with (first | (at_builtin; refine wpList_zeros (n := n) (.tmp 20) (.tmp 21) rfl rfl rfl rfl h0 hn ?_; intro cap w1 r1 r2; have HO := hide r1; have HB := hide r2; clear r1 r2) | fail)
  go_ret
  exact ⟨_, rfl, HO.out, HB.out⟩
end Go.Proofs.Ytdnkmjafkpnliaa
namespace Go.Proofs.Ytdnkmjafkpnliaa
open Go.RowKit
def encV (v : Vst) : List Value := [.int .i64 v.1, .int .i64 v.2]
def flatV (L : List Vst) : List Value := (L.map encV).flatten
theorem encV_len (L : List Vst) : ∀ l ∈ L.map encV, l.length = 2 := by
  intro l hl
  obtain ⟨t, _, rfl⟩ := List.mem_map.1 hl
  rfl
theorem flatV_len (L : List Vst) : (flatV L).length = L.length * 2 := by unfold flatV; rw [flat_len (encV_len L), List.length_map]
theorem flatV_get (L : List Vst) (i c : Nat) (t : Vst) (h : L[i]? = some t) (hc : c < 2) : (flatV L)[i * 2 + c]? = (encV t)[c]? := flat_get (encV_len L) i c _ (by simp [h]) hc
theorem flatV_app (A B : List Vst) : flatV A ++ flatV B = flatV (A ++ B) := by simp [flatV]
theorem flatV_one (L : List Vst) : ∀ u ∈ flatV L, u.oneCell' = true := by
  intro u hu
  unfold flatV at hu
  obtain ⟨l, hl, hu⟩ := List.mem_flatten.1 hu
  obtain ⟨t, _, rfl⟩ := List.mem_map.1 hl
  simp [encV] at hu
  rcases hu with rfl | rfl <;> rfl
/-- A row of visits that is the function's own. -/
def VRow (w : World) (base : Nat) (v : Value) (L : List Vst) : Prop := w.ownsRow base 58 2 v L.length (flatV L)
theorem VRow.later {w w' : World} {base B : Nat} {v : Value} {L : List Vst} (h : VRow w base v L) (hB : w.heap.size ≤ B) (f : Below B w w') : VRow w' base v L := own_later h hB f
theorem VRow.shape {w : World} {base : Nat} {v : Value} {L : List Vst} (h : VRow w base v L) : ∃ a c, v = .slice a L.length c ∧ (a = none → c = 0) := by
  rcases h.2 with ⟨e1, e2⟩ | ⟨g, cap, cur, e1, _⟩
  · exact ⟨none, 0, by rw [e1, e2], fun _ => rfl⟩
  · exact ⟨_, cap, e1, fun e => by cases e⟩
theorem VRow.vs {w : World} {base : Nat} {v : Value} {L : List Vst} (h : VRow w base v L) (hb : L.length * 16 ≤ 140737488351232) : VsV w v L := by
  obtain ⟨a, c, rfl, _⟩ := h.shape
  refine ⟨a, c, rfl, hb, fun k hk => ?_⟩
  rcases h.2 with ⟨_, e2⟩ | ⟨g, cap, cur, e1, _⟩
  · omega
  · injection e1 with e1 _ e3
    subst e1 e3
    have hx : L[k]? = some L[k] := List.getElem?_eq_getElem hk
    have hd : L.getD k (0, 0) = L[k] := by rw [List.getD_eq_getElem?_getD, hx]; rfl
    refine ⟨g, 0, rfl, ?_, ?_⟩
    · have := World.ownsRow.cells (g := g) h rfl (k * 2) _ (by rw [show k * 2 = k * 2 + 0 by omega, flatV_get L k 0 _ hx (by decide)]; rfl)
      rw [add0] at this
      rw [Nat.zero_add, this]; simp only [hd]
    · have := World.ownsRow.cells (g := g) h rfl (k * 2 + 1) _ (by rw [flatV_get L k 1 _ hx (by decide)]; rfl)
      rw [add0] at this
      rw [Nat.zero_add, this]; simp only [hd]
theorem vs_news {w : World} {b off m c : Nat} {V : List Vst} (h : VsV w (.slice (some ⟨b, off, none⟩) m c) V) : ∀ (j : Nat) u, (flatV V)[j]? = some u → w.cell? ((⟨b, off, none⟩ : Addr).add j) = some u := by
  intro j u hj
  have hl : j < V.length * 2 := by have := (List.getElem?_eq_some_iff.1 hj).1; rw [flatV_len] at this; exact this
  obtain ⟨q, c, rfl, hc⟩ : ∃ q c, j = q * 2 + c ∧ c < 2 := ⟨j / 2, j % 2, by omega, by omega⟩
  have hk : q < V.length := by omega
  have hx : V[q]? = some V[q] := List.getElem?_eq_getElem hk
  obtain ⟨b', off', e, _, c1, c2, _⟩ := vs_cells h hx
  injection e with e
  injection e with e1 e2 _
  subst e1 e2
  rw [addAt]
  rw [flatV_get V q c _ hx hc] at hj
  rcases (show c = 0 ∨ c = 1 by omega) with rfl | rfl
  · rw [Nat.add_zero, c1]; exact hj
  · rw [← Nat.add_assoc, c2]; exact hj
/-- A slice of visits behind a row of visits. -/
theorem app_vis {w : World} {base k m vc sc : Nat} {va sa : Option Addr} {L V : List Vst} {ops : Array Oper} {rest : List Oper} {o : Oper} {a : Act} {Q : Exit → Act → World → Prop} (s x : Operand) (hgd : o.guard = none)
    (ho : o.op = .call { callee := .builtin .append, args := #[s, x], argTypes := #[22, 22] })
    (hs : a.eval s = .slice va k vc) (hx : a.eval x = .slice sa m sc) (hrow : VRow w base (.slice va k vc) L) (hk : L.length = k) (hV : VsV w (.slice sa m sc) V) (hm : V.length = m) (hz : sa = none → sc = 0) (hkm : k + m ≤ 1000) (hb : base ≤ w.heap.size)
    (h : ∀ va' cap' w', VRow w' base (.slice va' (k + m) cap') (L ++ V) → Below base w w' → w.grownBy w' (Value.ownBlock (.slice va k vc)) → wpList Try.prog ops Q rest (a.put o.dst (.slice va' (k + m) cap')) w') : wpList Try.prog ops Q (o :: rest) a w := by
  obtain ⟨i0, hi0, hy0, hy1, hy2⟩ := info_parts info34
  have hown : w.ownsRow base 58 2 (.slice va k vc) k (flatV L) := by have := hrow; unfold VRow at this; rw [hk] at this; exact this
  cases sa with
  | none =>
    have hm0 : m = 0 := by
      rcases Nat.eq_zero_or_pos m with e | e
      · exact e
      · obtain ⟨b, off, e', _⟩ := vs_cells hV (List.getElem?_eq_getElem (show 0 < V.length by omega))
        cases e'
    have hV0 : V = [] := List.eq_nil_of_length_eq_zero (by omega)
    subst hm0 hV0
    rw [hz rfl] at hx
    refine wpList_append_own_none hgd s x 22 ho base 58 i0 2 Try.underlying22 hi0 _ k _ hs hown hx ?_
    exact h va vc w (by rw [List.append_nil]; exact hrow) (Below.refl _ _) ⟨rfl, rfl, rfl, Nat.le_refl _, fun _ _ _ => rfl⟩
  | some ad =>
    rcases Nat.eq_zero_or_pos m with e | e
    · subst e
      have hV0 : V = [] := List.eq_nil_of_length_eq_zero hm
      subst hV0
      refine wpList_append_own w hgd s x 22 ho base 58 i0 _ 2 16 Try.underlying22 hi0 hy0 hy1 hy2 rfl (by decide) _ k _ hs hown ad 0 sc [] hx rfl (fun j u hj => by simp at hj) (fun u hu => by simp at hu) (by unfold maxLen; omega) (by omega) hb ?_
      intro v' w' h1 h2 _
      have hrow2 : VRow w' base v' (L ++ []) := by unfold VRow; rw [List.append_nil, hk]; simpa using h1
      obtain ⟨a2, c2, e2, _⟩ := hrow2.shape
      rw [List.append_nil, hk] at e2
      subst e2
      exact h a2 c2 w' hrow2 ((Below.refl _ _).grown h2 hb fun q hq => (hown.lt q hq).1) h2
    · obtain ⟨b, off, e', _⟩ := vs_cells hV (List.getElem?_eq_getElem (show 0 < V.length by omega))
      injection e' with e'
      subst e'
      refine wpList_append_own w hgd s x 22 ho base 58 i0 _ 2 16 Try.underlying22 hi0 hy0 hy1 hy2 rfl (by decide) _ k _ hs hown ⟨b, off, none⟩ m sc (flatV V) hx (by rw [flatV_len, hm]) (vs_news hV) (flatV_one V) (by unfold maxLen; omega) (by omega) hb ?_
      intro v' w' h1 h2 _
      rw [flatV_app] at h1
      have hrow2 : VRow w' base v' (L ++ V) := by unfold VRow; rw [List.length_append, hk, hm]; exact h1
      obtain ⟨a2, c2, e2, _⟩ := hrow2.shape
      rw [List.length_append, hk, hm] at e2
      subst e2
      exact h a2 c2 w' hrow2 ((Below.refl _ _).grown h2 hb fun q hq => (hown.lt q hq).1) h2
end Go.Proofs.Ytdnkmjafkpnliaa
namespace Go.Proofs.Ytdnkmjafkpnliaa
open Go.RowKit
/-- Slices of visits, as a list of them: each one's values, and what is read. -/
structure CatV (w : World) (ad : Addr) (vs : List (Option Addr × Nat × List Vst)) : Prop where
  cell : ∀ (k : Nat) a c V, vs[k]? = some (a, c, V) → w.cell? (ad.add k) = some (.slice a V.length c) ∧ VsV w (.slice a V.length c) V ∧ (a = none → c = 0)
def catL (vs : List (Option Addr × Nat × List Vst)) : List Vst := (vs.map fun z => z.2.2).flatten
theorem catL_step {vs : List (Option Addr × Nat × List Vst)} {q : Nat} {z : Option Addr × Nat × List Vst} (h : vs[q]? = some z) : catL (vs.take (q + 1)) = catL (vs.take q) ++ z.2.2 := by
  obtain ⟨hk, e⟩ := List.getElem?_eq_some_iff.1 h
  unfold catL
  rw [List.take_succ_eq_append_getElem hk, e, List.map_append, List.flatten_append]
  simp
theorem catL_le {vs : List (Option Addr × Nat × List Vst)} (q : Nat) : (catL (vs.take q)).length ≤ (catL vs).length := by
  have : catL vs = catL (vs.take q) ++ catL (vs.drop q) := by
    unfold catL
    rw [← List.flatten_append, ← List.map_append, List.take_append_drop]
  rw [this, List.length_append]
  omega
theorem CatV.on {w w' : World} {b : Nat} {vs : List (Option Addr × Nat × List Vst)} (h : CatV w ⟨b, 0, none⟩ vs) (hb : b < w.heap.size) (f : Below w.heap.size w w') : CatV w' ⟨b, 0, none⟩ vs := ⟨fun k a c V hk => by
  obtain ⟨h1, h2, h3⟩ := h.cell k a c V hk
  rw [add0] at h1 ⊢
  exact ⟨((bcell f).1 _ _ hb).trans h1, PrV.on h2 f, h3⟩⟩
set_option maxRecDepth 100000 in
set_option maxHeartbeats 6400000 in
theorem concat_any {w : World} {b n c : Nat} {vs : List (Option Addr × Nat × List Vst)} (h : CatV w ⟨b, 0, none⟩ vs) (hb : b < w.heap.size) (hn : vs.length = n) (h0 : 0 < (catL vs).length) (h1 : (catL vs).length ≤ 1000) (hn2 : n ≤ 1000) : Calls Try.prog 50 #[.slice (some ⟨b, 0, none⟩) n c] w fun e w' => ∃ v, e = .returned v ∧ VRow w' w.heap.size v (catL vs) ∧ Below w.heap.size w w' := by
  have H := hide h
  have HN := hide hn
  clear h hn
  obtain ⟨tot, htot⟩ : ∃ q, (catL vs).length = q := ⟨_, rfl⟩
  rw [htot] at h0 h1
  have HTOT := hide htot
  clear htot
  go_enter Try.func50, Try.ntmps50
  go_wp2_with fail
  go_loopw [11, 3] (fun vi v3 wr => ∃ q s : Nat, vi = .int .i64 q ∧ v3 = .int .i64 s ∧ q ≤ n ∧ s ≤ tot ∧ Hid ((catL (vs.take q)).length = s) ∧ Hid (Below w.heap.size w wr)) (fun vi _ _ => n - (intOf vi).toNat)
  case atStart => exact ⟨0, 0, rfl, rfl, Nat.zero_le _, Nat.zero_le _, rfl, Below.refl _ _⟩
  case round =>
    obtain ⟨q, s, rfl, rfl, hq, hst, HS, HB⟩ := hrel
    by_cases hqn : q < n
    · have i1 : (q : Int) < (n : Int) := by omega
      have i2 : (0 : Int) ≤ (q : Int) := by omega
      have i3 : ¬ (n : Int) ≤ (q : Int) := by omega
      obtain ⟨⟨a, c', V⟩, hu⟩ : ∃ u, vs[q]? = some u := ⟨_, List.getElem?_eq_getElem (by rw [HN.out]; exact hqn)⟩
      have c1 := ((H.out.on hb HB.out).cell q a c' V hu).1
      rw [add0] at c1
      obtain ⟨l, hl⟩ : ∃ z, V.length = z := ⟨_, rfl⟩
      rw [hl] at c1
      have hs2 : (catL (vs.take (q + 1))).length = s + l := by rw [catL_step hu, List.length_append, HS.out, hl]
      have hle : s + l ≤ tot := by rw [← hs2, ← HTOT.out]; exact catL_le _
      have hw : IntKind.i64.wrap ((s : Int) + (l : Int)) = ((s + l : Nat) : Int) := by rw [IntKind.wrap_i64]; omega
      have i4 : ¬ ((s + l : Nat) : Int) < 0 := by omega
      have i5 : ¬ (s : Int) + (l : Int) < 0 := by omega
      have HS2 := hide hs2
      clear hu hl hs2
      go_wp2_with fail
      go_roundw
      case rel => exact ⟨q + 1, s + l, by go_num, by first | rfl | (simp; omega), by omega, hle, HS2.out, HB.out⟩
      case measure => simp [intOf]; omega
    · have i1 : ¬ (q : Int) < (n : Int) := by omega
      have hse : s = tot := by rw [← HS.out, List.take_of_length_le (by rw [HN.out]; omega)]; exact HTOT.out
      subst hse
      clear HS
      go_wp2_with (first | (go_at_call 64; refine (grow_nil _ s h0 h1).mono ?_; rintro e w1 ⟨cap, rfl, r1, k1⟩; have HV1 : Hid (VRow w1 w.heap.size _ (catL (vs.take 0))) := own_mono r1 HB.out.size; have E1 := hide (below_on HB.out k1); clear r1 k1) | fail)
      go_loopw [27, 6] (fun vi v6 wr => ∃ (q s : Nat) (va : Option Addr) (vc : Nat), vi = .int .i64 q ∧ v6 = .slice va s vc ∧ q ≤ n ∧ Hid ((catL (vs.take q)).length = s) ∧ Hid (VRow wr w.heap.size (.slice va s vc) (catL (vs.take q))) ∧ Hid (Below w.heap.size w wr)) (fun vi _ _ => n - (intOf vi).toNat)
      case atStart => exact ⟨0, 0, _, _, rfl, rfl, Nat.zero_le _, rfl, HV1.out, E1.out⟩
      case round =>
        clear HV1 E1 HB
        obtain ⟨q, s2, va, vc, rfl, rfl, hq, HS, HR, HB⟩ := hrel
        by_cases hqn : q < n
        · have i1 : (q : Int) < (n : Int) := by omega
          have i2 : (0 : Int) ≤ (q : Int) := by omega
          have i3 : ¬ (n : Int) ≤ (q : Int) := by omega
          obtain ⟨⟨a, c', V⟩, hu⟩ : ∃ u, vs[q]? = some u := ⟨_, List.getElem?_eq_getElem (by rw [HN.out]; exact hqn)⟩
          obtain ⟨c1, hv, hz⟩ := (H.out.on hb HB.out).cell q a c' V hu
          rw [add0] at c1
          obtain ⟨l, hl⟩ : ∃ z, V.length = z := ⟨_, rfl⟩
          rw [hl] at c1 hv
          have hs2 : (catL (vs.take (q + 1))).length = s2 + l := by rw [catL_step hu, List.length_append, HS.out, hl]
          have hle : s2 + l ≤ 1000 := by rw [← hs2]; have h8 := catL_le (vs := vs) (q + 1); have h9 := HTOT.out; omega
          have HS2 := hide hs2
          have HST := hide (catL_step hu)
          have HVV := hide hv
          have HZ := hide hz
          have HLV := hide hl
          clear hl hs2 hv hz
          go_wp2_with (first | (at_builtin; refine app_vis (.tmp 31) (.tmp 32) rfl rfl rfl rfl HR.out HS.out HVV.out HLV.out HZ.out hle HB.out.size ?_; intro va2 c2 w2 r1 r2 _; have HR2 := hide r1; have B2 : Hid (Below w.heap.size w w2) := HB.out.trans r2; clear r1 r2) | fail)
          go_roundw
          case rel => exact ⟨q + 1, s2 + l, va2, c2, by go_num, rfl, by omega, HS2.out, by rw [HST.out]; exact HR2.out, B2.out⟩
          case measure => simp [intOf]; omega
        · have i1 : ¬ (q : Int) < (n : Int) := by omega
          have HT : Hid (catL (vs.take q) = catL vs) := by show _ = _; rw [List.take_of_length_le (by rw [HN.out]; omega)]
          go_wp2
          go_ret
          exact ⟨_, rfl, by have h9 := HR.out; rw [HT.out] at h9; exact h9, HB.out⟩
end Go.Proofs.Ytdnkmjafkpnliaa
namespace Go.Proofs.Ytdnkmjafkpnliaa
open Go.RowKit
theorem vrow_pos {w : World} {base m c : Nat} {a : Option Addr} {V : List Vst} (h : VRow w base (.slice a m c) V) (hm : 0 < m) : ∃ g, a = some ⟨g, 0, none⟩ ∧ m ≤ c := by
  rcases h.2 with ⟨e1, e2⟩ | ⟨g, cap, cur, e1, _, _, hnc, _⟩
  · injection e1 with _ e3 _; omega
  · injection e1 with e2 e3 e4
    subst e2 e4
    exact ⟨g, rfl, by rw [e3]; exact hnc⟩
set_option maxRecDepth 100000 in
set_option maxHeartbeats 3200000 in
theorem copiedV_any {w : World} {m vc : Nat} {va : Option Addr} {V : List Vst} (hV : VsV w (.slice va m vc) V) (hm : V.length = m) (hm2 : m ≤ 900) (hz : va = none → vc = 0) :
    Calls Try.prog 39 #[.slice va m vc] w fun e w' => ∃ g c, e = .returned (.slice (some ⟨g, 0, none⟩) m c) ∧ (VRow w' w.heap.size (.slice (some ⟨g, 0, none⟩) m c) V ∧ m ≤ c) ∧ Below w.heap.size w w' := by
  have HV := hide hV
  have HM := hide hm
  have HZ := hide hz
  clear hV hm hz
  have f0 : Below w.heap.size w (w.alloc (.cells #[] 58)) := (Below.refl _ _).alloc (Nat.le_refl _) _
  have HF0 := hide f0
  have HROW : Hid (VRow (w.alloc (.cells #[] 58)) w.heap.size (.slice (some ⟨w.heap.size, 0, none⟩) 0 0) []) := World.ownsRow_made w #[] 0 (Nat.le_refl _) (by unfold maxLen; omega) rfl
  clear f0
  rcases Nat.eq_zero_or_pos m with e | e
  · subst e
    have hV0 : V = [] := List.eq_nil_of_length_eq_zero HM.out
    subst hV0
    cases va with
    | none =>
      have hv0 := HZ.out rfl
      subst hv0
      obtain ⟨i0, hi0, _, _, _⟩ := info_parts info34
      go_enter Try.func39, Try.ntmps39
      go_wp2_with (first | (at_builtin; refine wpList_append_own_none rfl (.tmp 3) (.tmp 4) 22 rfl w.heap.size 58 i0 2 Try.underlying22 hi0 _ 0 _ rfl HROW.out rfl ?_) | fail)
      go_ret
      exact ⟨_, _, rfl, HROW.out, HF0.out⟩
    | some ad =>
      go_enter Try.func39, Try.ntmps39
      go_wp2_with fail
      go_ret
      exact ⟨_, _, rfl, ⟨HROW.out, Nat.le_refl _⟩, HF0.out⟩
  · go_enter Try.func39, Try.ntmps39
    go_wp2_with (first | (at_builtin; refine app_vis (.tmp 3) (.tmp 4) rfl rfl rfl rfl HROW.out rfl (PrV.on HV.out HF0.out) HM.out HZ.out (by omega) HF0.out.size ?_; intro a2 c2 w2 r1 r2 _; have HR := hide r1; have HB := hide (HF0.out.trans r2); clear r1 r2) | fail)
    have HR2 : Hid (VRow w2 w.heap.size (.slice a2 m c2) V) := by have h9 := HR.out; rw [Nat.zero_add, List.nil_append] at h9; exact h9
    obtain ⟨g, hg, hc⟩ := vrow_pos HR2.out e
    subst hg
    go_ret
    exact ⟨g, c2, rfl, ⟨HR2.out, hc⟩, HB.out⟩
end Go.Proofs.Ytdnkmjafkpnliaa
namespace Go.Proofs.Ytdnkmjafkpnliaa
open Go.ChangeShapes Go.WideShapes Go.ChangeAt Go.WideMaps Go.WideElems Go.RowKit Go.Deep
theorem bytes34v : Try.prog.bytesOf 58 = 16 := by kernel_rfl
theorem cells34v : Try.prog.cellsOf 58 = 2 := by kernel_rfl
def valV : Option Value → Int
  | some (.int _ x) => x
  | _ => 0
def visAt (W : World) (b off k : Nat) : Vst := (valV (W.cell? ⟨b, off + k * 2, none⟩), valV (W.cell? ⟨b, off + k * 2 + 1, none⟩))
theorem visAt_get (W : World) (b off m k : Nat) (h : k < m) : ((List.range m).map (visAt W b off)).getD k (0, 0) = visAt W b off k := by
  rw [List.getD_eq_getElem?_getD]
  simp [h]
set_option maxRecDepth 100000 in
theorem open_visits {H : Type} {enc : TypeId × Value → H} {W : World} {a : Option Addr} {m c : Nat} {d : DataW H} {p : List MemPlace}
    (h : DataW.Trod enc Try.prog W 0 (fun _ => true) true 22 (.slice a m c) d p) (hz : ∀ k ∈ d.weights Try.prog 22, k ≤ reachBytes) : ∃ L : List Vst, VsV W (.slice a m c) L ∧ L.length = m ∧ (a = none → c = 0) := by
  obtain ⟨fuel, hf⟩ := h
  rcases open_slice Try.underlying22 hf with ⟨hcs, _⟩ | ⟨x, l, cc, mm, nn, D, Pl, hcs, _, hl, hmx, hmm, hx, hcell⟩
  · simp [Value.cells] at hcs
    obtain ⟨rfl, rfl, rfl⟩ := hcs
    exact ⟨[], ⟨none, 0, rfl, by simp, fun k hk => by simp at hk⟩, rfl, fun _ => rfl⟩
  · simp [Value.cells] at hcs
    obtain ⟨rfl, rfl, rfl⟩ := hcs
    simp only [if_true] at hmm
    have hd : d = _ := congrArg Prod.fst hx
    have hsz := hz ((m + (mm - m)) * Try.prog.bytesOf 58) (by rw [hd]; simp [DataW.weights, Try.underlying22])
    rw [bytes34v] at hsz
    unfold reachBytes at hsz
    obtain ⟨b, off, spot⟩ := x
    have hlen0 : ((List.range m).map (visAt W b off)).length = m := by simp
    refine ⟨(List.range m).map (visAt W b off), ⟨_, c, by rw [hlen0], by rw [hlen0]; omega, fun k hk => ?_⟩, hlen0, fun e => by cases e⟩
    rw [hlen0] at hk
    obtain ⟨cs', h1, h2⟩ := hcell k (by omega)
    rw [cells34v] at h1
    obtain ⟨_, hlen, hget⟩ := World.cells?_some h1
    obtain ⟨y0, y1, n2, _, _, t0, t1⟩ := trod_struct2 Try.underlying58 h2
    match cs', hlen with
    | [v0, v1], _ =>
      obtain ⟨c0, e00, _⟩ := DataW.trod_int Try.underlying56 t0
      obtain ⟨c1, e11, _⟩ := DataW.trod_int Try.underlying3 t1
      cases e00
      cases e11
      have g0 := hget 0 (by omega)
      have g1 := hget 1 (by omega)
      have hspot : spot = none := by
        obtain ⟨cs0, k1, _⟩ := hcell 0 (by omega)
        rw [cells34v] at k1
        obtain ⟨_, hl0, hg0⟩ := World.cells?_some k1
        have e0 := hg0 0 (by omega)
        match cs0, hl0 with
        | u0 :: _, _ => simpa [Addr.add] using World.cell?_spot (e0.trans rfl)
      subst hspot
      rw [addAt, addAt] at g0 g1
      refine ⟨b, off, rfl, ?_⟩
      simp only [visAt_get W b off m k hk]
      simp only [Nat.add_zero] at g0
      have e0 : W.cell? ⟨b, off + k * 2, none⟩ = some (.int .i64 c0) := g0
      have e1 : W.cell? ⟨b, off + k * 2 + 1, none⟩ = some (.int .i64 c1) := g1
      unfold visAt
      simp only [e0, e1, valV]
      exact ⟨trivial, trivial⟩
end Go.Proofs.Ytdnkmjafkpnliaa
namespace Go.Proofs.Ytdnkmjafkpnliaa
open Go.RowKit
/-- A part of a slice of visits. -/
theorem vs_part {w : World} {b off m c s n : Nat} {V : List Vst} (h : VsV w (.slice (some ⟨b, off, none⟩) m c) V) (hm : V.length = m) (hs : s ≤ n) (hn : n ≤ m) {c' : Nat} : VsV w (.slice (some ⟨b, off + s * 2, none⟩) (n - s) c') ((V.drop s).take (n - s)) := by
  have hl : ((V.drop s).take (n - s)).length = n - s := by rw [List.length_take, List.length_drop]; omega
  have hb : m * 16 ≤ 140737488351232 := by obtain ⟨_, _, e, hb, _⟩ := h; rw [← hm]; exact hb
  refine ⟨some ⟨b, off + s * 2, none⟩, c', by rw [hl], by rw [hl]; omega, fun k hk => ?_⟩
  rw [hl] at hk
  have hx : V[s + k]? = some (V[s + k]'(by omega)) := List.getElem?_eq_getElem _
  obtain ⟨b', off', e, _, c1, c2, _⟩ := vs_cells h hx
  injection e with e
  injection e with e1 e2 _
  subst e1 e2
  have hd : ((V.drop s).take (n - s)).getD k (0, 0) = V[s + k]'(by omega) := by
    rw [List.getD_eq_getElem?_getD, List.getElem?_take_of_lt hk, List.getElem?_drop, hx]; rfl
  refine ⟨b, off + s * 2, rfl, ?_, ?_⟩
  · rw [show off + s * 2 + k * 2 = off + (s + k) * 2 by omega, c1]; simp only [hd]
  · rw [show off + s * 2 + k * 2 + 1 = off + (s + k) * 2 + 1 by omega, c2]; simp only [hd]
end Go.Proofs.Ytdnkmjafkpnliaa
namespace Go.Proofs.Ytdnkmjafkpnliaa
open Go.RowKit
theorem below_grw {w w' : World} {r : Option Nat} (h : Below w.heap.size w w') : w.grownBy w' r := ⟨h.os, h.tape, h.output, h.size, fun k hk _ => h.block k hk⟩
theorem grw_trans {a b c : World} {r : Option Nat} (h : a.grownBy b r) (k : b.grownBy c r) : a.grownBy c r := ⟨k.os.trans h.os, k.tape.trans h.tape, k.output.trans h.output, Nat.le_trans h.size k.size, fun q hq hn => (k.block q (Nat.lt_of_lt_of_le hq h.size) hn).trans (h.block q hq hn)⟩
end Go.Proofs.Ytdnkmjafkpnliaa
namespace Go.Proofs.Ytdnkmjafkpnliaa
open Go.RowKit
theorem cell_same {w w' : World} {b o : Nat} {v : Value} (h : w'.heap[b]? = w.heap[b]?) (k : w.cell? ⟨b, o, none⟩ = some v) : w'.cell? ⟨b, o, none⟩ = some v := by
  rw [← k]
  simp only [World.cell?, h]
end Go.Proofs.Ytdnkmjafkpnliaa
namespace Go.Proofs.Ytdnkmjafkpnliaa
open Go.RowKit
theorem held_call {P : Program} {ops : Array Oper} {o : Oper} {a : Act} {w : World} {K : Act → World → Prop} {Q : Exit → Act → World → Prop} {E : Prop}
    (hw : Region.wanted o (yielded ops a.tmps) = true) (f : FuncId) (xs : Array Operand) (ts : Array TypeId) (hop : o.op = Op.call { callee := Callee.value (Operand.func f), args := xs, argTypes := ts })
    (hent : ∀ args w, (callFunc f args).run P w = .ok (.enter f args) w) (vs : List Value) (hx : xs.toList.map a.eval = vs)
    (H : Calls P f vs.toArray w fun e w' => ∃ v, e = .returned v ∧ K (a.put o.dst v) w') :
    if Region.wanted o (yielded ops a.tmps) = true then Oper.wp P o a w K Q else E := by
  rw [if_pos hw]
  have he : (execOp a.eval o).run P w = .ok (.enter f vs.toArray) w := by
    have hx' : xs.map a.eval = vs.toArray := by rw [← hx]; apply Array.ext'; simp
    rw [← hx']
    simp [execOp, hop, resolve, invoke, hent, go_sem]
  unfold Oper.wp
  rw [he, Oper.upon_enter]
  refine H.mono ?_
  rintro e w' ⟨v, rfl, hR⟩
  exact hR
end Go.Proofs.Ytdnkmjafkpnliaa
namespace Go.Proofs.Ytdnkmjafkpnliaa
open Go.RowKit
theorem frz_row {w : World} {b : Nat} {A : Array Value} {t j : Nat} (h : w.heap[b]? = some (.cells A t)) : w.frozen? ⟨b, j, none⟩ = false := by
  unfold World.frozen?
  simp [h]
end Go.Proofs.Ytdnkmjafkpnliaa
namespace Go.Proofs.Ytdnkmjafkpnliaa
open Go.RowKit
theorem grw_block {w w' : World} {r q : Nat} (h : w.grownBy w' (some r)) (hq : q < w.heap.size) (hr : q ≠ r) : w'.heap[q]? = w.heap[q]? := h.block q hq fun e => hr (by injection e)
end Go.Proofs.Ytdnkmjafkpnliaa
namespace Go.Proofs.Ytdnkmjafkpnliaa
open Go.RowKit
theorem umod_nat (i : Int) (m : Nat) (hm : m ≤ 1000) : ∃ r : Nat, Int.tmod (IntKind.u64.wrap i) ((m : Int) + 1) = r ∧ r ≤ m := by
  have h0 : 0 ≤ IntKind.u64.wrap i := by rw [IntKind.wrap_u64]; omega
  have h1 := Int.tmod_nonneg ((m : Int) + 1) h0
  have h2 := Int.tmod_lt_of_pos (IntKind.u64.wrap i) (show (0 : Int) < (m : Int) + 1 by omega)
  exact ⟨(Int.tmod (IntKind.u64.wrap i) ((m : Int) + 1)).toNat, by omega, by omega⟩
end Go.Proofs.Ytdnkmjafkpnliaa
