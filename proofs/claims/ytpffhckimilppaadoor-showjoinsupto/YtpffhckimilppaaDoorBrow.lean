/-
  Rows of bytes that a call owns and goes on writing: what one step does to the row, and leaves of all the rest.
-/
import Derived.Test.YtpffhckimilppaaDoorShTree
import Derived.Laws.AppendOwn
import Derived.Laws.AppendOwnNone
import Derived.Lib.AppendStr
import Derived.Deep.RegionLaw
import Derived.Shelf.Abstract
namespace Go.Proofs.YtpffhckimilppaaDoor
open Go.RowKit

def bytesV (bs : List UInt8) : List Value := bs.map fun b => Value.int .u8 b.toNat
theorem bytesV_len (bs : List UInt8) : (bytesV bs).length = bs.length := by simp [bytesV]
theorem bytesV_app (a b : List UInt8) : bytesV (a ++ b) = bytesV a ++ bytesV b := by simp [bytesV]
theorem bytesV_one (bs : List UInt8) : ∀ u ∈ bytesV bs, u.oneCell' = true := by
  intro u hu
  obtain ⟨x, _, rfl⟩ := List.mem_map.1 hu
  rfl
theorem bytesV_get (bs : List UInt8) (k : Nat) (h : k < bs.length) : (bytesV bs)[k]? = some (.int .u8 (bs[k]'h).toNat) := by simp [bytesV, h]
/-- A row of bytes that lies at base or above. -/
def BRow (w : World) (base : Nat) (v : Value) (bs : List UInt8) : Prop := w.ownsRow base 5 1 v bs.length (bytesV bs)
theorem brow_nil (w : World) (base : Nat) : BRow w base (.slice none 0 0) [] := World.ownsRow_nil _ _ _ _
theorem own_of_block {w w' : World} {base e size m : Nat} {v : Value} {xs : List Value} (h : w.ownsRow base e size v m xs) (hb : ∀ g, v.ownBlock = some g → w'.heap[g]? = w.heap[g]?) : w'.ownsRow base e size v m xs := by
  obtain ⟨h1, h2⟩ := h
  refine ⟨h1, ?_⟩
  rcases h2 with h2 | ⟨g, cap, cur, rfl, a, b, r⟩
  · exact .inl h2
  · exact .inr ⟨g, cap, cur, rfl, a, (hb g rfl).trans b, r⟩
theorem BRow.shape {w : World} {base : Nat} {v : Value} {bs : List UInt8} (h : BRow w base v bs) : ∃ a c, v = .slice a bs.length c := by
  rcases h.2 with ⟨e, e2⟩ | ⟨g, cap, cur, e, _⟩
  · exact ⟨none, 0, by rw [e, e2]⟩
  · exact ⟨_, cap, e⟩
theorem BRow.later {w w' : World} {base B : Nat} {v : Value} {bs : List UInt8} (h : BRow w base v bs) (hB : w.heap.size ≤ B) (f : Below B w w') : BRow w' base v bs := own_of_block h (fun k hk => f.block k (Nat.lt_of_lt_of_le (h.lt k hk).2 hB))
theorem BRow.mono {w : World} {base base' : Nat} {v : Value} {bs : List UInt8} (h : BRow w base v bs) (hb : base' ≤ base) : BRow w base' v bs := by
  obtain ⟨h1, h2⟩ := h
  refine ⟨h1, ?_⟩
  rcases h2 with h2 | ⟨g, cap, cur, e, a, r⟩
  · exact .inl h2
  · exact .inr ⟨g, cap, cur, e, Nat.le_trans hb a, r⟩
/-- The row's block is as it was, or new. -/
def Moved (B : Nat) (g g' : Option Nat) : Prop := g' = g ∨ ∃ k, g' = some k ∧ B ≤ k
/-- A step of writing: from the row v (bytes bs) to v', with the bytes new behind; all else below stays. -/
structure Step (base : Nat) (w : World) (v : Value) (bs : List UInt8) (w' : World) (v' : Value) (new : List UInt8) : Prop where
  row : BRow w' base v' (bs ++ new)
  grow : w.grownBy w' v.ownBlock
  moved : Moved w.heap.size v.ownBlock v'.ownBlock
theorem Step.size {base : Nat} {w w' : World} {v v' : Value} {bs new : List UInt8} (h : Step base w v bs w' v' new) : w.heap.size ≤ w'.heap.size := h.grow.size
theorem Step.trans {base : Nat} {w w1 w2 : World} {v v1 v2 : Value} {bs a b : List UInt8} (h : Step base w v bs w1 v1 a) (k : Step base w1 v1 (bs ++ a) w2 v2 b) : Step base w v bs w2 v2 (a ++ b) := by
  refine ⟨by rw [← List.append_assoc]; exact k.row, ⟨k.grow.os.trans h.grow.os, k.grow.tape.trans h.grow.tape, k.grow.output.trans h.grow.output, Nat.le_trans h.grow.size k.grow.size, fun j hj hne => ?_⟩, ?_⟩
  · refine (k.grow.block j (Nat.lt_of_lt_of_le hj h.grow.size) ?_).trans (h.grow.block j hj hne)
    rcases h.moved with e | ⟨g, e, hg⟩
    · rw [e]; exact hne
    · rw [e]; intro e2; injection e2 with e2; omega
  · rcases k.moved with e | ⟨g, e, hg⟩
    · rw [e]; exact h.moved
    · exact .inr ⟨g, e, Nat.le_trans h.grow.size hg⟩
theorem Step.quiet {base : Nat} {w w1 : World} {v : Value} {bs : List UInt8} (h : BRow w base v bs) (hb : Below w.heap.size w w1) : Step base w v bs w1 v [] :=
  ⟨by rw [List.append_nil]; exact h.later (Nat.le_refl _) hb, ⟨hb.os, hb.tape, hb.output, hb.size, fun k hk _ => hb.block k hk⟩, .inl rfl⟩
theorem Step.below {base : Nat} {w0 w w1 : World} {v v1 : Value} {bs a : List UInt8} (h : Step base w v bs w1 v1 a) (hr : BRow w base v bs) (hb : Below base w0 w) (hbs : base ≤ w.heap.size) : Below base w0 w1 := hb.grown h.grow hbs fun k hk => (hr.lt k hk).1
theorem Step.cell {base : Nat} {w w1 : World} {v v1 : Value} {bs a : List UInt8} (h : Step base w v bs w1 v1 a) {p : Addr} (hp : p.block < w.heap.size) (hne : some p.block ≠ v.ownBlock) : w1.cell? p = w.cell? p := World.cell?_of_block (w := w) (h.grow.block p.block hp hne)
theorem Step.eq {base : Nat} {w w1 : World} {v v1 : Value} {bs a b : List UInt8} (h : Step base w v bs w1 v1 a) (e : a = b) : Step base w v bs w1 v1 b := by rw [← e]; exact h
theorem info5 : (Tryd.prog.info? 5).map (fun i => (i.zero, i.size, i.bytes)) = some (some (.int .u8 0), 1, 1) := by kernel_rfl
/-- What an append of bytes that lie in memory does. -/
theorem append_run {base : Nat} {w : World} {v : Value} {bs l : List UInt8} {ad : Addr} {m c : Nat} (ty : TypeId) (hr : BRow w base v bs) (hbs : base ≤ w.heap.size) (hm : l.length = m)
    (hc : ∀ j u, (bytesV l)[j]? = some u → w.cell? (ad.add j) = some u) (hl : bs.length + m ≤ 140737488355328) :
    ∃ v' w', (Builtin.append_ #[30, 30] ty #[v, .slice (some ad) m c]).run Tryd.prog w = .ok v' w' ∧ Step base w v bs w' v' l := by
  obtain ⟨i0, hi0, hy0, hy1, hy2⟩ := info_parts info5
  obtain ⟨v', w', h1, h2, h3, _⟩ := run_append_own (P := Tryd.prog) w base 30 ty 5 i0 (.int .u8 0) 1 1 Tryd.underlying30 hi0 hy0 hy1 hy2 rfl (by decide) v bs.length (bytesV bs) hr ad m c (bytesV l) (by rw [bytesV_len]; omega) hc (bytesV_one _) (by unfold maxLen; omega) (by omega) hbs
  refine ⟨v', w', h1, ⟨?_, h3, ?_⟩⟩
  · unfold BRow; rw [List.length_append, bytesV_app, hm]; exact h2
  · rcases hr.2 with ⟨rfl, e2⟩ | ⟨g, cap, cur, rfl, hbg, hgg, hnc, hcm, hcs, htake⟩
    · have hx : bs = [] := List.eq_nil_of_length_eq_zero e2
      subst hx
      obtain ⟨v2, w2, hr2, ho2, _, _⟩ := run_append_own (P := Tryd.prog) w w.heap.size 30 ty 5 i0 (.int .u8 0) 1 1 Tryd.underlying30 hi0 hy0 hy1 hy2 rfl (by decide) (.slice none 0 0) 0 [] (World.ownsRow_nil _ _ _ _) ad m c (bytesV l) (by rw [bytesV_len]; omega) hc (bytesV_one _) (by unfold maxLen; omega) (by omega) (Nat.le_refl _)
      rw [h1] at hr2
      cases hr2
      cases hv : v'.ownBlock with
      | none => exact .inl rfl
      | some g => exact .inr ⟨g, rfl, (ho2.lt g hv).1⟩
    · by_cases hroom : bs.length + m ≤ cap
      · have hfit : bs.length * i0.size + (bytesV l).length ≤ cur.size := by rw [bytesV_len, hm, hy1, hcs]; omega
        have hr2 := run_append_room (P := Tryd.prog) w 30 ty 5 i0 Tryd.underlying30 hi0 g bs.length cap cur hgg ad m c (bytesV l) (by rw [bytesV_len, hy1]; omega) hc (bytesV_one _) hroom hfit
        rw [h1] at hr2
        cases hr2
        exact .inl rfl
      · have holds : ∀ j u, (bytesV bs)[j]? = some u → w.cell? ((⟨g, 0, none⟩ : Addr).add j) = some u := World.ownsRow.cells (g := g) hr rfl
        have hr2 := run_append_grow (P := Tryd.prog) w 30 ty 5 i0 (.int .u8 0) Tryd.underlying30 hi0 hy0 ⟨g, 0, none⟩ bs.length cap (bytesV bs) (by rw [bytesV_len, hy1]; omega) holds ad m c (bytesV l) (by rw [bytesV_len, hy1]; omega) hc (by omega) (by omega) (growslice_fits (by omega) (by rw [hy2]; omega))
        rw [h1] at hr2
        cases hr2
        exact .inr ⟨_, rfl, Nat.le_refl _⟩
/-- Bytes just built, as the model lays them. -/
theorem built_cells (w : World) (l : List UInt8) (arr : Array Value) (h : arr.toList = bytesV l) : ∀ j u, (bytesV l)[j]? = some u → (w.alloc (.cells arr 5)).cell? ((⟨w.heap.size, 0, none⟩ : Addr).add j) = some u := by
  intro j u hu
  rw [add0, cell_of_row _ w.heap.size j _ _ _ (heap_alloc_new _ _), ← Array.getElem?_toList, h]
  exact hu
/-- An append of bytes just built onto the row. -/
theorem app_built {base : Nat} {w : World} {ops : Array Oper} {rest : List Oper} {o : Oper} {a : Act} {Q : Exit → Act → World → Prop} (s x : Operand) (l : List UInt8) {arr : Array Value} {m c : Nat} {v : Value} {bs : List UInt8}
    (hgd : o.guard = none) (ho : o.op = .call { callee := .builtin .append, args := #[s, x], argTypes := #[30, 30] })
    (hs : a.eval s = v) (hx : a.eval x = .slice (some ⟨w.heap.size, 0, none⟩) m c) (hr : BRow w base v bs) (hbs : base ≤ w.heap.size) (hm : l.length = m) (harr : arr.toList = bytesV l) (hl : bs.length + m ≤ 140737488355328)
    (h : ∀ v' w', Step base w v bs w' v' l → wpList Tryd.prog ops Q rest (a.put o.dst v') w') : wpList Tryd.prog ops Q (o :: rest) a (w.alloc (.cells arr 5)) := by
  have hb1 : Below w.heap.size w (w.alloc (.cells arr 5)) := (Below.refl _ _).alloc (Nat.le_refl _) _
  have q := Step.quiet hr hb1
  have hr1 := hr.later (Nat.le_refl _) hb1
  obtain ⟨v', w', h1, h2⟩ := append_run (m := m) (c := c) o.type hr1 (Nat.le_trans hbs hb1.size) hm (built_cells w l arr harr) hl
  refine wpList_plain hgd fun K hK => ?_
  unfold Oper.wp execOp
  simp only [ho, resolve, invoke, builtin, Sem.run_bind, Sem.run_pure, Result.andThen_ok, List.map_toArray, List.map_cons, List.map_nil, hs, hx, h1]
  have q2 : Step base (w.alloc (.cells arr 5)) v (bs ++ []) w' v' l := by rw [List.append_nil]; exact h2
  exact hK _ _ (h v' w' ((q.trans q2).eq (List.nil_append _)))
theorem strCells_bytes (l : List UInt8) : Lib.strCells ⟨l.toArray⟩ = bytesV l := by
  unfold Lib.strCells bytesV; simp
theorem append_run_str {base : Nat} {w : World} {v : Value} {bs l : List UInt8} (ty : TypeId) (hr : BRow w base v bs) (hbs : base ≤ w.heap.size) (hl : bs.length + l.length ≤ 140737488355328) :
    ∃ v' w', (Builtin.append_ #[30, 9] ty #[v, .string ⟨l.toArray⟩]).run Tryd.prog w = .ok v' w' ∧ Step base w v bs w' v' l := by
  obtain ⟨i0, hi0, hy0, hy1, hy2⟩ := info_parts info5
  have hz : (⟨l.toArray⟩ : ByteArray).size = l.length := by simp [ByteArray.size]
  obtain ⟨v', w', h1, h2, h3, _⟩ := Lib.run_append_own_string (P := Tryd.prog) w base 30 9 ty 5 i0 Tryd.underlying30 Tryd.underlying9 hi0 hy0 hy1 hy2 v bs.length (bytesV bs) hr ⟨l.toArray⟩ (by rw [hz]; unfold maxLen; omega) (by rw [hz]; omega) hbs
  refine ⟨v', w', h1, ⟨?_, h3, ?_⟩⟩
  · unfold BRow; rw [List.length_append, bytesV_app, ← hz, ← strCells_bytes]; exact h2
  · rcases hr.2 with ⟨rfl, e2⟩ | ⟨g, cap, cur, rfl, hbg, hgg, hnc, hcm, hcs, htake⟩
    · have hx : bs = [] := List.eq_nil_of_length_eq_zero e2
      subst hx
      obtain ⟨v2, w2, hr2, ho2, _, _⟩ := Lib.run_append_own_string (P := Tryd.prog) w w.heap.size 30 9 ty 5 i0 Tryd.underlying30 Tryd.underlying9 hi0 hy0 hy1 hy2 (.slice none 0 0) 0 [] (World.ownsRow_nil _ _ _ _) ⟨l.toArray⟩ (by rw [hz]; unfold maxLen; omega) (by rw [hz]; omega) (Nat.le_refl _)
      rw [h1] at hr2
      cases hr2
      cases hv : v'.ownBlock with
      | none => exact .inl rfl
      | some g => exact .inr ⟨g, rfl, (ho2.lt g hv).1⟩
    · by_cases hroom : bs.length + (⟨l.toArray⟩ : ByteArray).size ≤ cap
      · have hcs2 : cur.size = cap := by simpa using hcs
        have hr2 := Lib.run_append_room_string (P := Tryd.prog) w 30 9 ty 5 i0 Tryd.underlying30 Tryd.underlying9 hi0 hy1 g bs.length cap cur hgg ⟨l.toArray⟩ hroom (by omega)
        rw [h1] at hr2
        cases hr2
        exact .inl rfl
      · have holds : ∀ j u, (bytesV bs)[j]? = some u → w.cell? ((⟨g, 0, none⟩ : Addr).add j) = some u := World.ownsRow.cells (g := g) hr rfl
        have hr2 := Lib.run_append_grow_string (P := Tryd.prog) w 30 9 ty 5 i0 (.int .u8 0) Tryd.underlying30 Tryd.underlying9 hi0 hy0 ⟨g, 0, none⟩ bs.length cap (bytesV bs) (by rw [bytesV_len, hy1]; omega) holds ⟨l.toArray⟩ (by omega) (by rw [hz]; omega) (growslice_fits (by omega) (by rw [hy2, hz]; omega))
        rw [h1] at hr2
        cases hr2
        exact .inr ⟨_, rfl, Nat.le_refl _⟩
/-- An append of a string onto the row. -/
theorem app_str {base : Nat} {w : World} {ops : Array Oper} {rest : List Oper} {o : Oper} {a : Act} {Q : Exit → Act → World → Prop} (s x : Operand) (l : List UInt8) {v : Value} {bs : List UInt8}
    (hgd : o.guard = none) (ho : o.op = .call { callee := .builtin .append, args := #[s, x], argTypes := #[30, 9] })
    (hs : a.eval s = v) (hx : a.eval x = .string ⟨l.toArray⟩) (hr : BRow w base v bs) (hbs : base ≤ w.heap.size) (hl : bs.length + l.length ≤ 140737488355328)
    (h : ∀ v' w', Step base w v bs w' v' l → wpList Tryd.prog ops Q rest (a.put o.dst v') w') : wpList Tryd.prog ops Q (o :: rest) a w := by
  obtain ⟨v', w', h1, h2⟩ := append_run_str o.type hr hbs hl
  refine wpList_plain hgd fun K hK => ?_
  unfold Oper.wp execOp
  simp only [ho, resolve, invoke, builtin, Sem.run_bind, Sem.run_pure, Result.andThen_ok, List.map_toArray, List.map_cons, List.map_nil, hs, hx, h1]
  exact hK _ _ (h v' w' h2)
/-- An append of bytes just built, as one step of a region that draws. -/
theorem step_built {base : Nat} {w : World} {ops : Array Oper} {o : Oper} {a : Act} {K : Act → World → Prop} {Q : Exit → Act → World → Prop} {E : Prop} (s x : Operand) (l : List UInt8) {arr : Array Value} {m c : Nat} {v : Value} {bs : List UInt8}
    (hgd : o.guard = none) (ho : o.op = .call { callee := .builtin .append, args := #[s, x], argTypes := #[30, 30] })
    (hs : a.eval s = v) (hx : a.eval x = .slice (some ⟨w.heap.size, 0, none⟩) m c) (hr : BRow w base v bs) (hbs : base ≤ w.heap.size) (hm : l.length = m) (harr : arr.toList = bytesV l) (hl : bs.length + m ≤ 140737488355328)
    (hK : ∀ v' w', Step base w v bs w' v' l → K (a.put o.dst v') w') :
    if Region.wanted o (yielded ops a.tmps) = true then Oper.wp Tryd.prog o a (w.alloc (.cells arr 5)) K Q else E := by
  have hb1 : Below w.heap.size w (w.alloc (.cells arr 5)) := (Below.refl _ _).alloc (Nat.le_refl _) _
  have q := Step.quiet hr hb1
  have hr1 := hr.later (Nat.le_refl _) hb1
  obtain ⟨v', w', h1, h2⟩ := append_run (m := m) (c := c) o.type hr1 (Nat.le_trans hbs hb1.size) hm (built_cells w l arr harr) hl
  have hw : Region.wanted o (yielded ops a.tmps) = true := by simp [Region.wanted, hgd]
  rw [if_pos hw]
  unfold Oper.wp
  have q2 : Step base (w.alloc (.cells arr 5)) v (bs ++ []) w' v' l := by rw [List.append_nil]; exact h2
  simp [execOp, ho, resolve, invoke, builtin, hs, hx, h1, Result.andThen]
  exact hK v' w' ((q.trans q2).eq (List.nil_append _))
theorem step_builtD {base : Nat} {w : World} {ops : Array Oper} {o : Oper} {a : Act} {K : Act → World → Prop} {Q : Exit → Act → World → Prop} {E : Prop} (s x : Operand) (l : List UInt8) {arr : Array Value} {m c : Nat} {v : Value} {bs : List UInt8}
    (hgd : o.guard = none) (ho : o.op = .call { callee := .builtin .append, args := #[s, x], argTypes := #[30, 30] })
    (hs : a.eval s = v) (hx : a.eval x = .slice (some ⟨w.heap.size, 0, none⟩) m c) (hr : BRow w base v bs) (hbs : base ≤ w.heap.size) (hm : l.length = m) (harr : arr.toList = bytesV l) (hl : bs.length + m ≤ 140737488355328)
    (hK : ∀ v' w', Step base w v bs w' v' l → K (a.put o.dst v') w') :
    if Region.wanted o (yielded ops a.tmps) = true then Oper.wp Tryd.prog o a (w.alloc (.cells arr 5)).drew K Q else E := by
  have e : (w.alloc (.cells arr 5)).drew = w.drew.alloc (.cells arr 5) := rfl
  rw [e]
  refine step_built (w := w.drew) s x l hgd ho hs hx (hr.later (Nat.le_refl _) (Below.refl _ _).drew) hbs hm harr hl fun v' w' h => hK v' w' ?_
  have q := Step.quiet hr ((Below.refl w.heap.size w).drew)
  have q2 : Step base w.drew v (bs ++ []) w' v' l := by rw [List.append_nil]; exact h
  exact (q.trans q2).eq (List.nil_append _)
theorem step_str {base : Nat} {w : World} {ops : Array Oper} {o : Oper} {a : Act} {K : Act → World → Prop} {Q : Exit → Act → World → Prop} {E : Prop} (s x : Operand) (l : List UInt8) {v : Value} {bs : List UInt8}
    (hgd : o.guard = none) (ho : o.op = .call { callee := .builtin .append, args := #[s, x], argTypes := #[30, 9] })
    (hs : a.eval s = v) (hx : a.eval x = .string ⟨l.toArray⟩) (hr : BRow w base v bs) (hbs : base ≤ w.heap.size) (hl : bs.length + l.length ≤ 140737488355328)
    (hK : ∀ v' w', Step base w v bs w' v' l → K (a.put o.dst v') w') :
    if Region.wanted o (yielded ops a.tmps) = true then Oper.wp Tryd.prog o a w K Q else E := by
  obtain ⟨v', w', h1, h2⟩ := append_run_str o.type hr hbs hl
  have hw : Region.wanted o (yielded ops a.tmps) = true := by simp [Region.wanted, hgd]
  rw [if_pos hw]
  unfold Oper.wp
  simp [execOp, ho, resolve, invoke, builtin, hs, hx, h1, Result.andThen]
  exact hK v' w' h2
/-- A call of a Go function that returns, as one step of a region that draws. -/
theorem step_call {P : Program} {ops : Array Oper} {o : Oper} {a : Act} {w : World} {K : Act → World → Prop} {Q : Exit → Act → World → Prop} {E : Prop}
    (hg : o.guard = none) (f : FuncId) (x : Operand) (t : TypeId) (hop : o.op = Op.call { callee := Callee.value (Operand.func f), args := #[x], argTypes := #[t] })
    (hent : ∀ args w, (callFunc f args).run P w = .ok (.enter f args) w) {R : Value → World → Prop} (u : Value) (hx : a.eval x = u)
    (H : Calls P f #[u] w fun e w' => ∃ v, e = .returned v ∧ R v w')
    (hK : ∀ v w', R v w' → K (a.put o.dst v) w') :
    if Region.wanted o (yielded ops a.tmps) = true then Oper.wp P o a w K Q else E := by
  have hw : Region.wanted o (yielded ops a.tmps) = true := by simp [Region.wanted, hg]
  rw [if_pos hw]
  have he : (execOp a.eval o).run P w = .ok (.enter f #[u]) w := by
    rw [← hx]
    simp [execOp, hop, resolve, invoke, hent, go_sem]
  unfold Oper.wp
  rw [he, Oper.upon_enter]
  refine H.mono ?_
  rintro e w' ⟨v, rfl, hR⟩
  exact hK v w' hR
theorem step_call2 {P : Program} {ops : Array Oper} {o : Oper} {a : Act} {w : World} {K : Act → World → Prop} {Q : Exit → Act → World → Prop} {E : Prop}
    (hg : o.guard = none) (f : FuncId) (x y : Operand) (t s : TypeId) (hop : o.op = Op.call { callee := Callee.value (Operand.func f), args := #[x, y], argTypes := #[t, s] })
    (hent : ∀ args w, (callFunc f args).run P w = .ok (.enter f args) w) {R : Value → World → Prop} (u z : Value) (hx : a.eval x = u) (hy : a.eval y = z)
    (H : Calls P f #[u, z] w fun e w' => ∃ v, e = .returned v ∧ R v w')
    (hK : ∀ v w', R v w' → K (a.put o.dst v) w') :
    if Region.wanted o (yielded ops a.tmps) = true then Oper.wp P o a w K Q else E := by
  have hw : Region.wanted o (yielded ops a.tmps) = true := by simp [Region.wanted, hg]
  rw [if_pos hw]
  have he : (execOp a.eval o).run P w = .ok (.enter f #[u, z]) w := by
    rw [← hx, ← hy]
    simp [execOp, hop, resolve, invoke, hent, go_sem]
  unfold Oper.wp
  rw [he, Oper.upon_enter]
  refine H.mono ?_
  rintro e w' ⟨v, rfl, hR⟩
  exact hK v w' hR
end Go.Proofs.YtpffhckimilppaaDoor
