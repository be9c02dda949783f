/-
  Several texts in one: Mem Ask Vis RowT CpC CpD RowS Same.
-/
import Derived.Test.YtdnkmjafkpnliaaProg
import Derived.WalkKit
import Derived.WalkSpells
import Derived.WalkLawsBesides
import Derived.Deep.QuietTactic
import Derived.BigQuiet
import Derived.BigRegion
import Derived.Deep.RegionWith
import Derived.Deep.RegionHeld
import Derived.Laws.AppendOwnNone
import Derived.Laws.OwnMore
import Derived.Shelf.Abstract
import Derived.Maps.AppendAt
import Derived.Orders
import Derived.Deep.RegionHeld3
namespace Go.Proofs.Ytdnkmjafkpnliaa
open Go.RowKit
theorem hide {p : Prop} (h : p) : Hid p := h
theorem add0 (g j : Nat) : (⟨g, 0, none⟩ : Addr).add j = ⟨g, j, none⟩ := by
  unfold Addr.add
  split
  · rename_i h; subst h; rfl
  · simp
theorem addAt (b off j : Nat) : (⟨b, off, none⟩ : Addr).add j = ⟨b, off + j, none⟩ := by
  unfold Addr.add
  split
  · rename_i h; subst h; rfl
  · rfl
theorem drewN_heap (w : World) (n : Nat) : (w.drewN n).heap = w.heap := by
  induction n with
  | zero => rfl
  | succ n ih => exact ih
theorem below_drewN {B : Nat} {a w : World} (h : Below B a w) (n : Nat) : Below B a (w.drewN n) := ⟨h.os, h.tape, h.output, by rw [drewN_heap]; exact h.size, fun k hk => by rw [drewN_heap]; exact h.block k hk⟩
/-- What a slice of numbers reads as. -/
def IntsAt (w : World) (a : Option Addr) (zs : List Int) : Prop := ∀ k, k < zs.length → ∃ b off, a = some ⟨b, off, none⟩ ∧ w.cell? ⟨b, off + k, none⟩ = some (.int .i64 zs[k]!)
def intsV (xs : List Int) : List Value := xs.map (Value.int .i64 ·)
theorem intsV_len (xs : List Int) : (intsV xs).length = xs.length := by simp [intsV]
theorem intsV_get (xs : List Int) (k : Nat) (h : k < xs.length) : (intsV xs)[k]? = some (.int .i64 xs[k]!) := by
  simp [intsV, h]
theorem intsV_one (xs : List Int) : ∀ u ∈ intsV xs, u.oneCell' = true := by
  intro u hu
  obtain ⟨x, _, rfl⟩ := List.mem_map.1 hu
  rfl
theorem info3 : (Try.prog.info? 3).map (fun i => (i.zero, i.size, i.bytes)) = some (some (.int .i64 0), 1, 8) := by kernel_rfl
section
variable {w w' : World} {base g cap m : Nat} {v : Value} {xs : List Int}
theorem own_of_block {base e size m : Nat} {v : Value} {xs : List Value} (h : w.ownsRow base e size v m xs) (hb : ∀ g, v.ownBlock = some g → w'.heap[g]? = w.heap[g]?) : w'.ownsRow base e size v m xs := by
  obtain ⟨h1, h2⟩ := h
  refine ⟨h1, ?_⟩
  rcases h2 with h2 | ⟨g, cap, cur, rfl, a, b, r⟩
  · exact .inl h2
  · exact .inr ⟨g, cap, cur, rfl, a, (hb g rfl).trans b, r⟩
end
theorem below_on {a b c : World} (h : Below a.heap.size a b) (k : Below b.heap.size b c) : Below a.heap.size a c := h.trans (k.mono h.size)
/-- All cells and marks of elder blocks read as before. -/
theorem bcell {W w1 : World} (hb : Below W.heap.size W w1) : (∀ b o, b < W.heap.size → w1.cell? ⟨b, o, none⟩ = W.cell? ⟨b, o, none⟩) ∧ (∀ b o, b < W.heap.size → w1.frozen? ⟨b, o, none⟩ = W.frozen? ⟨b, o, none⟩) :=
  ⟨fun b o h => hb.cell (p := ⟨b, o, none⟩) h, fun b o h => hb.frozen (p := ⟨b, o, none⟩) h⟩
theorem intsAt_none {w : World} {zs : List Int} (h : IntsAt w none zs) : zs = [] := by
  rcases zs with _ | ⟨z, r⟩
  · rfl
  · obtain ⟨_, _, e, _⟩ := h 0 (by simp); cases e
/-- A slice of numbers, of windows. -/
def IntsV (w : World) (v : Value) (L : List Int) : Prop := ∃ a c, v = .slice a L.length c ∧ (a = none → c = 0) ∧ L.length * 8 ≤ 140737488351232 ∧ IntsAt w a L
section
variable {w w' : World} {l : List Value} {v : Value}
end
end Go.Proofs.Ytdnkmjafkpnliaa
namespace Go.Proofs.Ytdnkmjafkpnliaa
open Go.RowKit
/-- A task: a shipment or not; which. -/
abbrev Tsk := Bool × Int
end Go.Proofs.Ytdnkmjafkpnliaa
namespace Go.Proofs.Ytdnkmjafkpnliaa
open Go.RowKit
/-- The task of a visit. -/
def ofM (k i : Int) : (Bool × Int) × Bool := if k = 1 then ((false, i), true) else if k = 2 then ((true, i), true) else if k = 3 then ((true, i), true) else ((false, 0), false)
def taskE (t : Bool × Int) : Value := .agg #[.bool t.1, .int .i64 t.2]
set_option maxRecDepth 100000 in
set_option maxHeartbeats 3200000 in
theorem rof_any (w : World) (k i : Int) : Calls Try.prog 57 #[.agg #[.int .i64 k, .int .i64 i]] w fun e w' => e = .returned (.tuple #[taskE (ofM k i).1, .bool (ofM k i).2]) ∧ Below w.heap.size w w' := by
  have HB0 : Hid (∀ A B, Below w.heap.size w ((w.alloc A).alloc B)) := fun A B => ((Below.refl _ _).alloc (Nat.le_refl _) A).alloc (by simp) B
  unfold taskE ofM
  by_cases h1 : k = 1
  · subst h1
    rw [if_pos rfl]
    go_enter Try.func57, Try.ntmps57
    go_wp2
    refine bodyPost_ret (v := (.tuple #[.agg #[.bool false, .int .i64 i], .bool true])) ?_ rfl ⟨rfl, (by repeat (first | exact HB0.out _ _ | (refine Below.setCell ?_ (by simp) _) | refine Below.drew ?_))⟩
    simp [results, Try.results57, go_sem]
  · rw [if_neg h1]
    have e1 : (k == 1) = false := by simpa using h1
    by_cases h2 : k = 2
    · subst h2
      rw [if_pos rfl]
      clear h1 e1
      go_enter Try.func57, Try.ntmps57
      go_wp2
      refine bodyPost_ret (v := (.tuple #[.agg #[.bool true, .int .i64 i], .bool true])) ?_ rfl ⟨rfl, (by repeat (first | exact HB0.out _ _ | (refine Below.setCell ?_ (by simp) _) | refine Below.drew ?_))⟩
      simp [results, Try.results57, go_sem]
    · rw [if_neg h2]
      have e2 : (k == 2) = false := by simpa using h2
      by_cases h3 : k = 3
      · subst h3
        rw [if_pos rfl]
        clear h1 e1 h2 e2
        go_enter Try.func57, Try.ntmps57
        go_wp2
        refine bodyPost_ret (v := (.tuple #[.agg #[.bool true, .int .i64 i], .bool true])) ?_ rfl ⟨rfl, (by repeat (first | exact HB0.out _ _ | (refine Below.setCell ?_ (by simp) _) | refine Below.drew ?_))⟩
        simp [results, Try.results57, go_sem]
      · rw [if_neg h3]
        have e3 : (k == 3) = false := by simpa using h3
        go_enter Try.func57, Try.ntmps57
        go_wp2
        refine bodyPost_ret (v := (.tuple #[.agg #[.bool false, .int .i64 0], .bool false])) ?_ rfl ⟨rfl, (by repeat (first | exact HB0.out _ _ | (refine Below.setCell ?_ (by simp) _) | refine Below.drew ?_))⟩
        simp [results, Try.results57, go_sem]
end Go.Proofs.Ytdnkmjafkpnliaa
namespace Go.Proofs.Ytdnkmjafkpnliaa
open Go.RowKit
theorem flat_len {z : Nat} : ∀ {R : List (List Value)}, (∀ l ∈ R, l.length = z) → R.flatten.length = R.length * z
  | [], _ => by simp
  | l :: R, h => by
    rw [List.flatten_cons, List.length_append, flat_len fun l hl => h l (List.mem_cons_of_mem _ hl), h l List.mem_cons_self, List.length_cons, Nat.add_mul]
    omega
theorem flat_get {z : Nat} : ∀ {R : List (List Value)}, (∀ l ∈ R, l.length = z) → ∀ (i c : Nat) (l : List Value), R[i]? = some l → c < z → R.flatten[i * z + c]? = l[c]?
  | [], _, i, _, _, h, _ => by simp at h
  | l :: R, h, 0, c, l', e, hc => by
    simp at e
    subst e
    rw [List.flatten_cons, Nat.zero_mul, Nat.zero_add, List.getElem?_append_left (by rw [h l List.mem_cons_self]; exact hc)]
  | l :: R, h, i + 1, c, l', e, hc => by
    have hl := h l List.mem_cons_self
    rw [List.flatten_cons, List.getElem?_append_right (by rw [hl, Nat.add_mul]; omega), hl, show (i + 1) * z + c - z = i * z + c by rw [Nat.add_mul]; omega]
    exact flat_get (fun l hl => h l (List.mem_cons_of_mem _ hl)) i c l' (by simpa using e) hc
/-- One cell of a row stored. -/
theorem own_set {w : World} {base e size g n cap : Nat} {xs : List Value} (h : w.ownsRow base e size (.slice (some ⟨g, 0, none⟩) n cap) n xs) (k : Nat) (u : Value) : (w.setCell ⟨g, k, none⟩ u).ownsRow base e size (.slice (some ⟨g, 0, none⟩) n cap) n (xs.set k u) := by
  obtain ⟨h1, h2⟩ := h
  refine ⟨by simpa using h1, ?_⟩
  rcases h2 with ⟨h2, _⟩ | ⟨g2, cap2, cur, ee, a, hb, r1, r2, r3, r4⟩
  · cases h2
  · cases ee
    refine .inr ⟨g, cap, cur.setIfInBounds k u, rfl, a, heap_setCell_same w g k _ _ _ hb, r1, r2, by simpa using r3, ?_⟩
    rw [← r4, Array.toList_setIfInBounds, List.take_set]
theorem own_cell {w : World} {base e size g n cap : Nat} {xs : List Value} (h : w.ownsRow base e size (.slice (some ⟨g, 0, none⟩) n cap) n xs) (k : Nat) (u : Value) (hk : xs[k]? = some u) : w.cell? ⟨g, k, none⟩ = some u := by
  have := World.ownsRow.cells (g := g) h rfl k _ hk
  rw [add0] at this
  exact this
theorem own_later {w w' : World} {base e size n B : Nat} {v : Value} {xs : List Value} (h : w.ownsRow base e size v n xs) (hB : w.heap.size ≤ B) (f : Below B w w') : w'.ownsRow base e size v n xs := own_of_block h (fun k hk => f.block k (Nat.lt_of_lt_of_le (h.lt k hk).2 hB))

/-- Tasks as cells. -/
def encT (t : Tsk) : List Value := [.bool t.1, .int .i64 t.2]
def flatT (L : List Tsk) : List Value := (L.map encT).flatten
theorem encT_len (L : List Tsk) : ∀ l ∈ L.map encT, l.length = 2 := by
  intro l hl
  obtain ⟨t, _, rfl⟩ := List.mem_map.1 hl
  rfl
theorem flatT_get (L : List Tsk) (i c : Nat) (t : Tsk) (h : L[i]? = some t) (hc : c < 2) : (flatT L)[i * 2 + c]? = (encT t)[c]? := flat_get (encT_len L) i c _ (by simp [h]) hc
/-- A row of tasks. -/
def TRow (w : World) (base : Nat) (v : Value) (L : List Tsk) : Prop := w.ownsRow base 67 2 v L.length (flatT L)
section
variable {w w' : World} {base g cap n : Nat} {v : Value} {L : List Tsk}
theorem TRow.cells (h : TRow w base (.slice (some ⟨g, 0, none⟩) L.length cap) L) (i : Nat) (t : Tsk) (hi : L[i]? = some t) : w.cell? ⟨g, i * 2, none⟩ = some (.bool t.1) ∧ w.cell? ⟨g, i * 2 + 1, none⟩ = some (.int .i64 t.2) :=
  ⟨own_cell h _ _ (flatT_get L i 0 t hi (by decide)), own_cell h _ _ (flatT_get L i 1 t hi (by decide))⟩
theorem TRow.shape (h : TRow w base v L) : ∃ a c, v = .slice a L.length c := by
  rcases h.2 with ⟨e, e2⟩ | ⟨g, cap, cur, e, _⟩
  · exact ⟨none, 0, by rw [e, e2]⟩
  · exact ⟨_, cap, e⟩
end
end Go.Proofs.Ytdnkmjafkpnliaa
namespace Go.Proofs.Ytdnkmjafkpnliaa
open Go.RowKit
theorem own_mono {w : World} {base base' e z n : Nat} {v : Value} {xs : List Value} (h : w.ownsRow base e z v n xs) (hb : base' ≤ base) : w.ownsRow base' e z v n xs := by
  obtain ⟨h1, h2⟩ := h
  refine ⟨h1, ?_⟩
  rcases h2 with h2 | ⟨g, cap, cur, e, a, r⟩
  · exact .inl h2
  · exact .inr ⟨g, cap, cur, e, Nat.le_trans hb a, r⟩
section
variable {w w' w0 : World} {base : Nat} {G G' : Nat → Prop} {v : Value}
end
section
variable {w w' w0 : World} {base : Nat} {G G' : Nat → Prop} {l : List Value}
end
end Go.Proofs.Ytdnkmjafkpnliaa
namespace Go.Proofs.Ytdnkmjafkpnliaa
open Go.RowKit
/-- A slice whose m elements are these cells. -/
def Src (w : World) (v : Value) (m : Nat) (xs : List Value) (y : Nat) : Prop :=
  ∃ ad c, v = .slice ad m c ∧ (ad = none → c = 0 ∧ m = 0) ∧ (∀ q, ad = some q → ∀ j u, xs[j]? = some u → w.cell? (q.add j) = some u) ∧ (∀ u ∈ xs, u.oneCell' = true) ∧ m * y ≤ 140737488351232
theorem cell_low {w w0 : World} (h : ∀ b, b < w0.heap.size → w.heap[b]? = w0.heap[b]?) {b o : Nat} {u : Value} (hc : w0.cell? ⟨b, o, none⟩ = some u) : w.cell? ⟨b, o, none⟩ = some u := by
  rw [World.cell?_of_block (a := ⟨b, o, none⟩) (h b (block_lt_of_cell hc))]
  exact hc
theorem src_ints {w0 : World} {v : Value} {L : List Int} (h : IntsV w0 v L) {w : World} (hl : ∀ b, b < w0.heap.size → w.heap[b]? = w0.heap[b]?) : Src w v L.length (intsV L) 8 := by
  obtain ⟨a, c, e, hc, hb, hA⟩ := h
  refine ⟨a, c, e, fun ha => ⟨hc ha, ?_⟩, fun q hq j u hu => ?_, intsV_one L, hb⟩
  · rw [ha] at hA; rw [intsAt_none hA]; rfl
  · have hj : j < L.length := by have := (List.getElem?_eq_some_iff.1 hu).1; rw [intsV_len] at this; exact this
    obtain ⟨b, off, e2, h1⟩ := hA j hj
    rw [hq] at e2
    cases e2
    rw [intsV_get L j hj] at hu
    cases hu
    rw [addAt]
    exact cell_low hl h1
end Go.Proofs.Ytdnkmjafkpnliaa
namespace Go.Proofs.Ytdnkmjafkpnliaa
open Go.RowKit
section
variable {α : Type} {e z : Nat} {enc : α → Value → List Value} {Sat : World → Value → α → Prop} {w w' : World} {base : Nat} {v : Value} {L : List α} {ys : List Value}
end
/-- The block of a literal that was just laid. -/
theorem new_block (w : World) (o : Obj) : (w.alloc o).heap[w.heap.size]? = some o := heap_alloc_new w o
end Go.Proofs.Ytdnkmjafkpnliaa
namespace Go.Proofs.Ytdnkmjafkpnliaa
open Go.RowKit
/-- A slice of pairs of cells. -/
def PrV (w : World) (v : Value) (n : Nat) (c : Nat → Value × Value) : Prop := ∃ a cp, v = .slice a n cp ∧ n * 16 ≤ 140737488351232 ∧ ∀ k, k < n → ∃ b off, a = some ⟨b, off, none⟩ ∧ w.cell? ⟨b, off + k * 2, none⟩ = some (c k).1 ∧ w.cell? ⟨b, off + k * 2 + 1, none⟩ = some (c k).2
theorem cell_lt9 {w : World} {b o : Nat} {v : Value} (h : w.cell? ⟨b, o, none⟩ = some v) : b < w.heap.size := by
  unfold World.cell? at h
  cases hh : w.heap[b]? with
  | none => simp only [hh] at h; cases h
  | some x => exact (Array.getElem?_eq_some_iff.1 hh).1
theorem PrV.on {w w' : World} {v : Value} {n : Nat} {c : Nat → Value × Value} (h : PrV w v n c) (f : Below w.heap.size w w') : PrV w' v n c := by
  obtain ⟨a, cp, rfl, hb, hc⟩ := h
  refine ⟨a, cp, rfl, hb, fun k hk => ?_⟩
  obtain ⟨b, off, e, c1, c2⟩ := hc k hk
  have hl : b < w.heap.size := cell_lt9 c1
  exact ⟨b, off, e, by rw [f.cell (p := ⟨b, off + k * 2, none⟩) hl]; exact c1, by rw [f.cell (p := ⟨b, off + k * 2 + 1, none⟩) hl]; exact c2⟩
theorem prv_tasks {w : World} {base : Nat} {v : Value} {L : List Tsk} (h : TRow w base v L) (hb : L.length * 16 ≤ 140737488351232) : PrV w v L.length fun k => (.bool (L.getD k (false, 0)).1, .int .i64 (L.getD k (false, 0)).2) := by
  rcases h.2 with ⟨e, hL⟩ | ⟨g, cap, cur, e, h1, h2, h3, h4, h5, h6⟩
  · have : L.length = 0 := by
      have h7 := e
      obtain ⟨a, c, h8⟩ := TRow.shape h
      rw [h8] at h7
      injection h7 with _ h9 _
    exact ⟨none, 0, by rw [e, this], hb, fun k hk => absurd hk (by omega)⟩
  · subst e
    refine ⟨_, _, rfl, hb, fun k hk => ⟨g, 0, rfl, ?_⟩⟩
    obtain ⟨c1, c2⟩ := TRow.cells h k _ (by rw [List.getElem?_eq_getElem hk])
    have e9 : L.getD k (false, 0) = L[k] := by simp [hk]
    simp only [e9]
    rw [Nat.zero_add]
    exact ⟨c1, c2⟩
set_option maxRecDepth 100000 in
set_option maxHeartbeats 3200000 in
theorem sameVisits_any {w : World} {v u : Value} {n : Nat} {f : Nat → Int} {g : Nat → Int} (h : PrV w v n fun k => (.int .i64 (f k), .int .i64 (g k))) (h' : PrV w u n fun k => (.int .i64 (f k), .int .i64 (g k))) : Calls Try.prog 16 #[v, u] w fun e w' => e = .returned (.bool true) ∧ Below w.heap.size w w' := by
  obtain ⟨a, cp, rfl, hb, hc⟩ := h
  obtain ⟨a', cp', rfl, _, hc'⟩ := h'
  have HC := hide hc
  have HC' := hide hc'
  clear hc hc'
  have y1 : ((n : Int) != (n : Int)) = false := by simp
  go_enter Try.func16, Try.ntmps16
  go_wp2
  go_loopw [5] (fun vi wr => ∃ k : Nat, vi = .int .i64 k ∧ k ≤ n ∧ Hid (Below w.heap.size w wr)) (fun vi _ => n - (intOf vi).toNat)
  case atStart => exact ⟨0, rfl, Nat.zero_le _, Below.refl _ _⟩
  case round =>
    obtain ⟨k, rfl, hk, HR⟩ := hrel
    by_cases hlt : k < n
    · obtain ⟨b, off, rfl, c1, c2⟩ := HC.out k hlt
      obtain ⟨b', off', rfl, c3, c4⟩ := HC'.out k hlt
      have l1 := cell_lt9 c1
      have l2 := cell_lt9 c3
      have d1 : wr.cell? ⟨b, off + k * 2, none⟩ = some (.int .i64 (f k)) := by rw [HR.out.cell (p := ⟨b, off + k * 2, none⟩) l1]; exact c1
      have d2 : wr.cell? ⟨b, off + k * 2 + 1, none⟩ = some (.int .i64 (g k)) := by rw [HR.out.cell (p := ⟨b, off + k * 2 + 1, none⟩) l1]; exact c2
      have d3 : wr.cell? ⟨b', off' + k * 2, none⟩ = some (.int .i64 (f k)) := by rw [HR.out.cell (p := ⟨b', off' + k * 2, none⟩) l2]; exact c3
      have d4 : wr.cell? ⟨b', off' + k * 2 + 1, none⟩ = some (.int .i64 (g k)) := by rw [HR.out.cell (p := ⟨b', off' + k * 2 + 1, none⟩) l2]; exact c4
      obtain ⟨F, hF⟩ : ∃ F, f k = F := ⟨_, rfl⟩
      obtain ⟨G, hG⟩ : ∃ G, g k = G := ⟨_, rfl⟩
      rw [hF] at d1 d3
      rw [hG] at d2 d4
      clear hF hG c1 c2 c3 c4 l1 l2
      have i3 : (k : Int) < (n : Int) := by omega
      have i4 : (0 : Int) ≤ (k : Int) := by omega
      have yF : (F == F) = true := by simp
      have yG : (G == G) = true := by simp
      go_wp2
      go_quiet (fail)
      go_wp2
      go_roundw
      case rel => exact ⟨k + 1, by go_num, by omega, below_drewN HR.out _⟩
      case measure => simp [intOf]; omega
    · have i3 : ¬ (k : Int) < (n : Int) := by omega
      go_wp2
      go_ret
      exact ⟨rfl, HR.out⟩
end Go.Proofs.Ytdnkmjafkpnliaa
