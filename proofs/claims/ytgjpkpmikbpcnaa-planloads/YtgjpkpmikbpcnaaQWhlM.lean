/-
  Maps from tasks to how often, in memory: one more, and a loop over them; what the next visit of a task may be.
-/
import Derived.WideKeyEntry
import Derived.Maps.RangeWalk
import Derived.Test.YtgjpkpmikbpcnaaQTrAG
import Derived.Test.YtgjpkpmikbpcnaaQTskG
namespace Go.Proofs.Ytgjpkpmikbpcnaa
open Go.RowKit Go.Maps Go.ChangeMaps Go.WideElems
set_option maxRecDepth 100000 in
theorem tlawK : WideMaps.KeyLaw Try.prog 31 := deep_law_laid laidOut (m := 2) (by omega) row31 deep31 wide31
theorem zero3 (W : World) : (zeroValue 3).run Try.prog W = .ok (.int .i64 0) W := by kernel_rfl
/-- A map of tasks that says how often: those that are in it stood at least once. -/
def MapZ (w : World) (mb n : Nat) (F : Tsk → Int) : Prop := ∃ D, w.ownsMap Try.prog 31 heldT mb n D ∧ ∀ t, I64 t.2 → ∀ z, D.atKey (tlit t) z = if 0 < F t then .held (.int .i64 (F t)) else z
section
variable {w w' : World} {mb n : Nat} {F : Tsk → Int}
theorem MapZ.of_block (h : MapZ w mb n F) (e : w'.heap[mb]? = w.heap[mb]?) : MapZ w' mb n F := by
  obtain ⟨D, ⟨es, clock, hb, G, hs, hD⟩, hp⟩ := h
  exact ⟨D, ⟨es, clock, e.trans hb, G, hs, hD⟩, hp⟩
theorem MapZ.lt (h : MapZ w mb n F) : mb < w.heap.size := by
  obtain ⟨D, h, _⟩ := h
  exact h.lt
theorem MapZ.on {B : Nat} (h : MapZ w mb n F) (hB : mb < B) (f : Below B w w') : MapZ w' mb n F := h.of_block (f.block mb hB)
theorem MapZ.made (w : World) : MapZ (w.alloc (.map #[] 0)) w.heap.size 0 fun _ => 0 := ⟨.map [], World.ownsMap_made w Try.prog 31 heldT, fun _ _ z => by simp; rfl⟩
theorem MapZ.look {t : TypeId} (h : MapZ w mb n F) (ht : Try.prog.underlying t = some (.map 31 3)) (k : Tsk) (hk : I64 k.2) (h0 : 0 ≤ F k) :
    (Instr.lookup t (.map (some mb)) (tval k) false).run Try.prog w = .ok (.int .i64 (F k)) w := by
  obtain ⟨D, hD, hp⟩ := h
  obtain ⟨v, ps, r1, r2⟩ := hD.lookup tlaw ht (zero3 w) (show heldT (.int .i64 0) = some (.held (.int .i64 0), []) from rfl) (keyT k hk)
  rw [hp k hk] at r2
  have e : (if 0 < F k then DataW.held (Value.int .i64 (F k)) else .held (Value.int .i64 0)) = .held (Value.int .i64 (F k)) := by
    split
    · rfl
    · have : F k = 0 := by omega
      rw [this]
  rw [e] at r2
  simp only [heldT, Option.some.injEq, Prod.mk.injEq, DataW.held.injEq] at r2
  rw [r1, r2.1]
/-- An entry that is asked for is the element stored as it is read. -/
theorem entry_update {w : World} {t k e : TypeId} {b : Nat} {es : Array MapEntry} {clock : Nat} {R : Value → Option (DataW Value × List MemPlace)} (K : WideMaps.KeyLaw Try.prog k) (ht : Try.prog.underlying t = some (.map k e)) {z : Value} (hz : ∀ u : World, (zeroValue e).run Try.prog u = .ok z u) (hb : w.heap[b]? = some (.map es clock)) (F : Fit Try.prog k R es clock) {key : Value} {kl : Lit} (hkey : keyOf Try.prog k key = some kl) {v : Value} (hl : (Instr.lookup t (.map (some b)) key false).run Try.prog w = .ok v w) :
    ∃ a es1 clock1, (Instr.mapEntry t (.map (some b)) key).run Try.prog w = .ok a (setBlock w b (.map es1 clock1)) ∧ (Instr.mapUpdate t (.map (some b)) key v).run Try.prog w = .ok () (setBlock w b (.map es1 clock1)) := by
  have hlk := Maps.fit_look false (Keyed.of_law K) ht (hz w) hb F hkey
  rw [hl] at hlk
  simp only [Bool.false_eq_true, if_false, Result.ok.injEq, and_true] at hlk
  rcases K.find w hkey es.toList F.keys with ⟨h1, h2⟩ | ⟨j, e0, h1, h2, h3⟩
  · have hv : v = z := by
      rcases hlk with ⟨e, _⟩ | ⟨e0, _, hm, hk, _⟩
      · exact e
      · exact absurd hk (h2 e0 hm)
    subst hv
    refine ⟨.tuple #[v, goInt clock], es.push ⟨key, v, clock⟩, clock + 1, ?_, ?_⟩
    rotate_left
    · simp [Instr.mapUpdate, run_underlying ht, MapKept.run_getObj_map hb, K.check w false hkey, h1, MapKept.run_setObj_map _ hb, Result.andThen, setBlock]
    · simp [Instr.mapEntry, run_underlying ht, MapKept.run_getObj_map hb, K.check w false hkey, h1, hz, MapKept.run_setObj_map _ hb, Result.andThen, setBlock]
  · have hj : es[j]? = some e0 := by simpa using h2
    have hv : v = e0.val := by
      rcases hlk with ⟨_, hn, _⟩ | ⟨e1, _, hm, hk, e, _⟩
      · exact absurd h3 (hn e0 (List.mem_of_getElem? h2))
      · rw [e, entry_eq_of_key ((MapKept.stamped_iff es clock).1 F.stamped).2.2 hm (List.mem_of_getElem? h2) (hk.trans h3.symm)]
    subst hv
    refine ⟨.tuple #[e0.val, goInt e0.born], es.modify j (fun e' => { e' with key := key, val := e0.val }), clock, ?_, ?_⟩
    rotate_left
    · simp [Instr.mapUpdate, run_underlying ht, MapKept.run_getObj_map hb, K.check w false hkey, h1, hj, h3, K.stays w hkey, MapKept.run_setObj_map _ hb, Result.andThen, setBlock]
    · have hsame : es.modify j (fun e => { e with key := key }) = es.modify j (fun e' => { e' with key := key, val := e0.val }) := by
        apply Array.ext'
        rw [Array.toList_modify, Array.toList_modify, modify_eq_set _ _ _ _ h2, modify_eq_set _ _ _ _ h2]
      simp [Instr.mapEntry, run_underlying ht, MapKept.run_getObj_map hb, K.check w false hkey, h1, hj, h3, K.stays w hkey, hsame, MapKept.run_setObj_map _ hb, Result.andThen, setBlock]
theorem setBlock_twice (w : World) (b : Nat) (x y : Obj) : setBlock (setBlock w b x) b y = setBlock w b y := by
  unfold setBlock
  simp [Array.setIfInBounds_setIfInBounds]
/-- 'm[k]++'. -/
theorem MapZ.bump {t : TypeId} (h : MapZ w mb n F) (ht : Try.prog.underlying t = some (.map 31 3)) (hn : n < maxLen) (k : Tsk) (hk : I64 k.2) (h0 : 0 ≤ F k) :
    ∃ v0 st w1 w2, (Instr.mapEntry t (.map (some mb)) (tval k)).run Try.prog w = .ok (.tuple #[v0, .int .i64 st]) w1 ∧ (Instr.lookup t (.map (some mb)) (tval k) false).run Try.prog w1 = .ok (.int .i64 (F k)) w1 ∧ w.grownBy w1 (some mb) ∧
      (Instr.entryStore t (.map (some mb)) (.int .i64 st) (.int .i64 (F k + 1))).run Try.prog w1 = .ok () w2 ∧ MapZ w2 mb (n + 1) (fun u => if u = k then F u + 1 else F u) ∧ w.grownBy w2 (some mb) := by
  have hl := h.look ht k hk h0
  obtain ⟨D, hD, hp⟩ := h
  obtain ⟨es, clock, hb, Ft, hs, hDe⟩ := id hD
  obtain ⟨a, es1, cl1, u1, u2⟩ := entry_update tlawK ht zero3 hb Ft (keyT k hk) hl
  obtain ⟨v0, st, es2, cl2, q1, _, q3⟩ := entry_then_store tlawK ht zero3 hb Ft (keyT k hk)
  rw [u1] at q1
  injection q1 with q1 q2
  obtain ⟨es3, cl3, s1, s2⟩ := q3 (setBlock w mb (.map es2 cl2)) (.int .i64 (F k + 1)) (heap_setBlock_same hb _)
  obtain ⟨wa, a1, a2, a3⟩ := hD.update tlaw ht hn (keyT k hk) (show heldT (.int .i64 (F k)) = some (.held (.int .i64 (F k)), []) from rfl)
  obtain ⟨wb, b1, b2, b3⟩ := hD.update tlaw ht hn (keyT k hk) (show heldT (.int .i64 (F k + 1)) = some (.held (.int .i64 (F k + 1)), []) from rfl)
  rw [u2] at a1
  injection a1 with _ a1
  rw [s2] at b1
  injection b1 with _ b1
  rw [← q2, setBlock_twice] at s1
  subst a1 b1 q1
  refine ⟨v0, st, _, _, u1, ?_, a3, s1, ⟨_, b2, fun u hu z => ?_⟩, b3⟩
  · obtain ⟨v, ps, r1, r2⟩ := a2.lookup tlaw ht (zero3 _) (show heldT (.int .i64 0) = some (.held (.int .i64 0), []) from rfl) (keyT k hk)
    rw [atKey_put_same hD.isMap (tlaw.key (keyT k hk))] at r2
    simp only [heldT, Option.some.injEq, Prod.mk.injEq, DataW.held.injEq] at r2
    rw [r1, r2.1]
  · by_cases e : u = k
    · subst e
      show _ = if 0 < (if u = u then F u + 1 else F u) then DataW.held (Value.int .i64 (if u = u then F u + 1 else F u)) else z
      rw [atKey_put_same hD.isMap (tlaw.key (keyT u hu)), if_pos rfl, if_pos (by omega)]
    · show _ = if 0 < (if u = k then F u + 1 else F u) then DataW.held (Value.int .i64 (if u = k then F u + 1 else F u)) else z
      rw [atKey_put_other (fun h => e (tlit_inj hu hk h)), hp u hu z, if_neg e]
set_option maxRecDepth 100000 in
theorem lits4 {d : Nat} {x : Value} {l : List Lit} (h : Try.prog.keyLits (d + 1) 4 [x] = some l) : ∃ s, x = .bool s ∧ l = [.bool s] := by
  unfold Program.keyLits at h
  rw [Try.underlying4] at h
  cases x <;> simp at h
  exact ⟨_, rfl, h.symm⟩
set_option maxRecDepth 100000 in
theorem lits3 {d : Nat} {x : Value} {l : List Lit} (h : Try.prog.keyLits (d + 1) 3 [x] = some l) : ∃ i, x = .int .i64 i ∧ l = [.int .i64 i] ∧ I64 i := by
  unfold Program.keyLits at h
  rw [Try.underlying3] at h
  cases x <;> simp at h
  obtain ⟨⟨rfl, hw⟩, rfl⟩ := h
  refine ⟨_, rfl, rfl, ?_⟩
  have e1 : IntKind.i64.min = -9223372036854775808 := by rfl
  have e2 : IntKind.i64.max = 9223372036854775807 := by rfl
  simp [Lit.wf, e1, e2] at hw
  unfold I64
  omega
set_option maxRecDepth 100000 in
/-- What is a key of a task's type is a task. -/
theorem key_inv {key : Value} {kl : Lit} (h : keyOf Try.prog 31 key = some kl) : ∃ t : Tsk, key = tval t ∧ kl = tlit t ∧ I64 t.2 := by
  have hc : Try.prog.cellsOf 31 = 2 := by kernel_rfl
  have hc4 : Try.prog.cellsOf 4 = 1 := by kernel_rfl
  have hc3 : Try.prog.cellsOf 3 = 1 := by kernel_rfl
  unfold keyOf at h
  rw [Try.underlying31] at h
  simp only at h
  split at h
  · rename_i hf
    obtain ⟨_, hf⟩ := Bool.and_eq_true_iff.1 hf
    cases key with
    | agg cs =>
      simp only [Value.formed, Try.underlying31, hc, beq_iff_eq] at hf
      obtain ⟨l⟩ := cs
      match l, hf with
      | [x, y], _ =>
        obtain ⟨d, hd⟩ : ∃ d, Try.prog.types.size + 1 = d + 2 := ⟨Try.prog.types.size - 1, by have : 31 < Try.prog.types.size := of_decide_eq_true (by kernel_rfl); omega⟩
        rw [hd] at h
        unfold Program.keyLits at h
        simp [Value.cells, Try.underlying31, hc, hc4, hc3, Option.bind_eq_some_iff] at h
        obtain ⟨a, ha, _, ⟨b, hb, rfl⟩, rfl⟩ := h
        obtain ⟨s, rfl, rfl⟩ := lits4 ha
        obtain ⟨i, rfl, rfl, hi⟩ := lits3 hb
        exact ⟨(s, i), rfl, rfl, hi⟩
    | _ => simp [Value.formed, Try.underlying31] at hf
  · cases h
/-- What a range over the map has still to come to; those that are gone have all their visits. -/
def RngZ (w : World) (mb r n : Nat) (F : Tsk → Int) (cnt : Nat) : Prop := ∃ D left, w.ranges Try.prog 31 heldT mb r n D left cnt ∧ (∀ t, I64 t.2 → ∀ z, D.atKey (tlit t) z = if 0 < F t then .held (.int .i64 (F t)) else z) ∧ ∀ t, I64 t.2 → 0 < F t → left (tlit t) = false → visN' t ≤ F t
theorem RngZ.left_eq {r cnt : Nat} (h : RngZ w mb r n F cnt) : w.rangeLeft mb r = cnt := by
  obtain ⟨_, _, h, _⟩ := h
  exact h.left_eq
theorem RngZ.lt {r cnt : Nat} (h : RngZ w mb r n F cnt) : r < w.heap.size := by
  obtain ⟨_, _, h, _⟩ := h
  exact h.lt
theorem RngZ.on {r cnt : Nat} (h : RngZ w mb r n F cnt) (f : Below w.heap.size w w') : RngZ w' mb r n F cnt := by
  obtain ⟨D, left, ⟨es, clock, since, seen, c0, h1, h2, h3, h4, h5, h6⟩, hp, hv⟩ := h
  have l1 : mb < w.heap.size := (Array.getElem?_eq_some_iff.1 h1).1
  have l2 : r < w.heap.size := (Array.getElem?_eq_some_iff.1 h5).1
  exact ⟨D, left, ⟨es, clock, since, seen, c0, (f.block mb l1).trans h1, h2, h3, h4, (f.block r l2).trans h5, h6⟩, hp, hv⟩
/-- The range begins. -/
theorem MapZ.range (h : MapZ w mb n F) {o : Oper} {ops : Array Oper} {rest : List Oper} {a : Act} {Q : Exit → Act → World → Prop} (hg : o.guard = none) (m : Operand) (t : TypeId) (hop : o.op = Op.range t m) (ht : Try.prog.underlying t = some (.map 31 3)) (hm : a.eval m = .map (some mb))
    (hK : ∀ w' cnt, RngZ w' mb w.heap.size n F cnt → Below w.heap.size w w' → w'.heap.size = w.heap.size + 1 → wpList Try.prog ops Q rest (a.put o.dst (.pointer (some ⟨w.heap.size, 0, none⟩))) w') : wpList Try.prog ops Q (o :: rest) a w := by
  obtain ⟨D, hD, hp⟩ := h
  refine wpList_range_own w hg m t hop 31 3 tlaw ht heldT mb n D hm hD fun w' h1 h2 h3 => ?_
  refine hK w' _ ⟨D, _, h1, hp, fun t ht h0 hl => ?_⟩ ⟨h2.os, h2.tape, h2.output, h2.size, fun i hi => h2.block i hi (by simp)⟩ h3
  have : Maps.has D (tlit t) = true := has_true_of_atKey (y := .held (.int .i64 (F t))) fun z => by rw [hp t ht z, if_pos h0]
  rw [this] at hl
  cases hl
set_option maxRecDepth 100000 in
/-- The next one. -/
theorem RngZ.next {r cnt : Nat} (h : RngZ w mb r n F cnt) {o : Oper} {ops : Array Oper} {rest : List Oper} {a : Act} {Q : Exit → Act → World → Prop} (hg : o.guard = none) (it : Operand) (hop : o.op = Op.next it false) (hit : a.eval it = .pointer (some ⟨r, 0, none⟩))
    (hDone : Hid (∀ t : Tsk, I64 t.2 → 0 < F t → visN' t ≤ F t) → wpList Try.prog ops Q rest (a.put o.dst (.tuple #[.bool false])) w)
    (hMore : ∀ (s : Bool) (i : Int) (w' : World) (cnt' : Nat), Hid (0 < F (s, i)) → Hid (visN' (s, i) ≤ F (s, i) → RngZ w' mb r n F cnt') → Hid (cnt' < cnt) → Hid (w.grownBy w' (some r)) → w'.heap.size = w.heap.size → (Instr.entry (.pointer (some ⟨r, 0, none⟩))).run Try.prog w' = .ok (.tuple #[.agg #[.bool s, .int .i64 i], .int .i64 (F (s, i))]) w' → wpList Try.prog ops Q rest (a.put o.dst (.tuple #[.bool true, .agg #[.bool s, .int .i64 i], .int .i64 (F (s, i))])) w') : wpList Try.prog ops Q (o :: rest) a w := by
  obtain ⟨D, left, hr, hp, hv⟩ := h
  refine wpList_next_ranges (α := Tsk) (β := Value) w hg it hop 31 tlaw heldT tval id (fun key kl hk => by obtain ⟨t, e, _⟩ := key_inv hk; exact ⟨t, e⟩) (fun v _ _ => ⟨v, rfl⟩) mb r n D left cnt hit hr (fun _ hl => hDone fun t ht h0 => hv t ht h0 (hl _)) fun x c kl y w' cnt' hk hlk hy hat hr' hlt hgr hsz hen => ?_
  obtain ⟨t, e1, e2, ht⟩ := key_inv hk
  have ext : x = t := by
    obtain ⟨s, i⟩ := x
    obtain ⟨s', i'⟩ := t
    simp [tval] at e1
    rw [e1.1, e1.2]
  subst ext e2
  have h0 : 0 < F x := by
    by_cases h0 : 0 < F x
    · exact h0
    · have a1 := hat (.held (.bool true))
      have a2 := hat (.held (.bool false))
      rw [hp x ht, if_neg h0] at a1 a2
      rw [← a2] at a1
      cases a1
  have hc : c = .int .i64 (F x) := by
    have a1 := hat (.held (.bool true))
    rw [hp x ht, if_pos h0] at a1
    simp only [heldT, id_eq, Option.some.injEq] at hy
    rw [← hy] at a1
    injection a1 with a1
    exact a1.symm
  subst hc
  obtain ⟨s, i⟩ := x
  refine hMore s i w' cnt' h0 (fun hvn => ⟨D, _, hr', hp, fun u hu hu0 hul => ?_⟩) hlt hgr hsz hen
  cases el : left (tlit u) with
  | false => exact hv u hu hu0 el
  | true =>
    simp only [el, Bool.true_and, Bool.not_eq_false'] at hul
    have := WideAt.sameKey_eq hul
    rw [tlit_inj hu ht this]
    exact hvn
end
/-- Whether the next visit of a task may stand here. -/
theorem stood_next {p : Prb} {P : List Vst} {kd it : Int} (h : Gd p P) (hk : kd = 1 ∨ kd = 2 ∨ kd = 3) : ∃ n : Nat, stoodM P (taskOf (kd, it)) = n ∧ n ≤ visN (taskOf (kd, it)).1 ∧ ((n ≠ visN (taskOf (kd, it)).1 ∧ visK (taskOf (kd, it)).1 n = kd) ↔ ((kd, it) ∉ P ∧ (kd = 3 → ((2, it) : Vst) ∈ P))) := by
  have h3 : ((3, it) : Vst) ∈ P → ((2, it) : Vst) ∈ P := fun hm => by
    obtain ⟨i, hi⟩ := List.getElem?_of_mem hm
    exact List.mem_of_mem_take ((h i _ hi (by simp)).2.2 rfl)
  rcases hk with rfl | rfl | rfl
  · by_cases e : ((1, it) : Vst) ∈ P
    · exact ⟨1, by simp [stoodM, taskOf, e], by simp [taskOf, visN], by simp [taskOf, visN, e]⟩
    · exact ⟨0, by simp [stoodM, taskOf, e], by simp [taskOf, visN], by simp [taskOf, visN, visK, e]⟩
  · by_cases e : ((2, it) : Vst) ∈ P
    · by_cases e3 : ((3, it) : Vst) ∈ P
      · exact ⟨2, by simp [stoodM, taskOf, e, e3], by simp [taskOf, visN], by simp [taskOf, visN, e]⟩
      · exact ⟨1, by simp [stoodM, taskOf, e, e3], by simp [taskOf, visN], by simp [taskOf, visN, visK, e]⟩
    · have e3 : ((3, it) : Vst) ∉ P := fun h => e (h3 h)
      exact ⟨0, by simp [stoodM, taskOf, e, e3], by simp [taskOf, visN], by simp [taskOf, visN, visK, e]⟩
  · by_cases e : ((2, it) : Vst) ∈ P
    · by_cases e3 : ((3, it) : Vst) ∈ P
      · exact ⟨2, by simp [stoodM, taskOf, e, e3], by simp [taskOf, visN], by simp [taskOf, visN, e3]⟩
      · exact ⟨1, by simp [stoodM, taskOf, e, e3], by simp [taskOf, visN], by simp [taskOf, visN, visK, e, e3]⟩
    · have e3 : ((3, it) : Vst) ∉ P := fun h => e (h3 h)
      exact ⟨0, by simp [stoodM, taskOf, e, e3], by simp [taskOf, visN], by simp [taskOf, visN, visK, e]⟩
theorem there_kind {p : Prb} {kd it : Int} (h : thereV p kd it = true) : (kd = 1 ∨ kd = 2 ∨ kd = 3) ∧ ofM kd it = (taskOf (kd, it), true) ∧ thereM p (taskOf (kd, it)) = true := by
  unfold thereV ofM at h
  unfold ofM
  by_cases h1 : kd = 1
  · subst h1; simpa [taskOf] using h
  · by_cases h2 : kd = 2
    · subst h2; simpa [taskOf] using h
    · by_cases h3 : kd = 3
      · subst h3; simpa [taskOf] using h
      · rw [if_neg h1, if_neg h2, if_neg h3] at h; simp at h
end Go.Proofs.Ytgjpkpmikbpcnaa
