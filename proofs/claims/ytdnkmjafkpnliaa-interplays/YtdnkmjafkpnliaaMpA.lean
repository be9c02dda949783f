/-
  Maps from visits to numbers, in memory: what is there, one more or less, a range over them.
-/
import Derived.Test.YtdnkmjafkpnliaaArg
import Derived.Test.YtdnkmjafkpnliaaSlA
import Derived.DeepKeys4
import Derived.Maps.OwnSet
import Derived.Maps.RangeWalk
import Derived.WideKeyEntry
namespace Go.Proofs.Ytdnkmjafkpnliaa
open Go.RowKit Go.Maps Go.ChangeMaps Go.WideElems

theorem wide58 : (match Try.prog.underlying 58 with | some (.array _ _) | some (.struct _) => true | _ => false) = true := by kernel_rfl
theorem row58 : (58 : TypeId) < Try.prog.types.size := of_decide_eq_true (by kernel_rfl)
theorem deep58 : Try.prog.keyTypeAt 2 58 = true := by kernel_rfl
set_option maxRecDepth 100000 in
theorem vlawK : WideMaps.KeyLaw Try.prog 58 := deep_law_laid laidOut (m := 2) (by omega) row58 deep58 wide58
theorem vlaw : Keyed Try.prog 58 := Keyed.of_law vlawK
theorem zero3 (W : World) : (zeroValue 3).run Try.prog W = .ok (.int .i64 0) W := by kernel_rfl
def vval (t : Vst) : Value := .agg #[.int .i64 t.1, .int .i64 t.2]
def vlit (t : Vst) : Lit := .string (keyBytes [.int .i64 t.1, .int .i64 t.2])
def I64 (x : Int) : Prop := -9223372036854775808 ≤ x ∧ x ≤ 9223372036854775807
def V64 (t : Vst) : Prop := I64 t.1 ∧ I64 t.2
theorem wf64 {x : Int} (h : I64 x) : (Lit.int .i64 x).wf = true := by
  obtain ⟨h1, h2⟩ := h
  have e1 : IntKind.i64.min = -9223372036854775808 := by rfl
  have e2 : IntKind.i64.max = 9223372036854775807 := by rfl
  simp [Lit.wf, e1, e2]
  omega
theorem i64_wf {x : Int} (hw : (Lit.int .i64 x).wf = true) : I64 x := by
  have e1 : IntKind.i64.min = -9223372036854775808 := by rfl
  have e2 : IntKind.i64.max = 9223372036854775807 := by rfl
  simp [Lit.wf, e1, e2] at hw
  unfold I64
  omega
theorem keyV (t : Vst) (h : V64 t) : keyOf Try.prog 58 (vval t) = some (vlit t) := by
  obtain ⟨s, i⟩ := t
  have h1 : Try.prog.keyType 58 = true := by kernel_rfl
  have hc : Try.prog.cellsOf 58 = 2 := by kernel_rfl
  have hc4 : Try.prog.cellsOf 56 = 1 := by kernel_rfl
  have hc3 : Try.prog.cellsOf 3 = 1 := by kernel_rfl
  have h2 : (vval (s, i)).formed Try.prog 58 = true := by simp [vval, Value.formed, Try.underlying58, hc]
  have hw := wf64 h.1
  have hw2 := wf64 h.2
  simp only at hw hw2
  have h3 : ∀ d, Try.prog.keyLits (d + 2) 58 [.int .i64 s, .int .i64 i] = some [.int .i64 s, .int .i64 i] := by
    intro d
    simp [Program.keyLits, Try.underlying58, Try.underlying56, Try.underlying3, hc, hc4, hc3, hw, hw2]
  obtain ⟨d, hd⟩ : ∃ d, Try.prog.types.size + 1 = d + 2 := ⟨Try.prog.types.size - 1, by have : 58 < Try.prog.types.size := of_decide_eq_true (by kernel_rfl); omega⟩
  unfold keyOf
  rw [Try.underlying58]
  simp only [h1, h2, Bool.and_self, if_true]
  rw [hd]
  show (Try.prog.keyLits (d + 2) 58 [.int .i64 s, .int .i64 i]).map _ = _
  rw [h3]
  rfl
theorem vlit_inj {t u : Vst} (ht : V64 t) (hu : V64 u) (h : vlit t = vlit u) : t = u := by
  have := vlaw.inj (keyV t ht) (by rw [h]; exact keyV u hu)
  obtain ⟨s, i⟩ := t
  obtain ⟨s', i'⟩ := u
  simp [vval] at this
  rw [this.1, this.2]
def heldT (v : Value) : Option (DataW Value × List MemPlace) := some (.held v, [])
theorem grown_below {w w' : World} {mb : Nat} (h : w.grownBy w' (some mb)) (hl : mb ≤ w.heap.size) : Below mb w w' := (Below.refl mb w).grown h hl fun q hq => by cases hq; exact Nat.le_refl _
theorem grown_cell {w w' : World} {mb b o : Nat} (h : w.grownBy w' (some mb)) (hb : b < w.heap.size) (hne : b ≠ mb) : w'.cell? ⟨b, o, none⟩ = w.cell? ⟨b, o, none⟩ := by
  have e := h.block b hb (by simpa using hne)
  unfold World.cell?
  simp only [e]
/-- A map of visits to numbers: one that isn't in it reads as 0. -/
def MapN (w : World) (mb n : Nat) (F : Vst → Int) : Prop := ∃ D, w.ownsMap Try.prog 58 heldT mb n D ∧ ∀ t, V64 t → D.atKey (vlit t) (.held (.int .i64 0)) = .held (.int .i64 (F t))
section
variable {w w' : World} {mb n : Nat} {F : Vst → Int}
theorem MapN.of_block (h : MapN w mb n F) (e : w'.heap[mb]? = w.heap[mb]?) : MapN w' mb n F := by
  obtain ⟨D, ⟨es, clock, hb, G, hs, hD⟩, hp⟩ := h
  exact ⟨D, ⟨es, clock, e.trans hb, G, hs, hD⟩, hp⟩
theorem MapN.lt (h : MapN w mb n F) : mb < w.heap.size := by
  obtain ⟨D, h, _⟩ := h
  exact h.lt
theorem MapN.on {B : Nat} (h : MapN w mb n F) (hB : mb < B) (f : Below B w w') : MapN w' mb n F := h.of_block (f.block mb hB)
theorem MapN.made (w : World) : MapN (w.alloc (.map #[] 0)) w.heap.size 0 fun _ => 0 := ⟨.map [], World.ownsMap_made w Try.prog 58 heldT, fun _ _ => rfl⟩
theorem MapN.look {t : TypeId} (h : MapN w mb n F) (ht : Try.prog.underlying t = some (.map 58 3)) (k : Vst) (hk : V64 k) :
    (Instr.lookup t (.map (some mb)) (vval k) false).run Try.prog w = .ok (.int .i64 (F k)) w := by
  obtain ⟨D, hD, hp⟩ := h
  obtain ⟨v, ps, r1, r2⟩ := hD.lookup vlaw ht (zero3 w) (show heldT (.int .i64 0) = some (.held (.int .i64 0), []) from rfl) (keyV k hk)
  rw [hp k hk] at r2
  simp only [heldT, Option.some.injEq, Prod.mk.injEq, DataW.held.injEq] at r2
  rw [r1, r2.1]
/-- An entry that is asked for is the element stored as it is read. -/
theorem entry_update {w : World} {t k e : TypeId} {b : Nat} {es : Array MapEntry} {clock : Nat} {R : Value → Option (DataW Value × List MemPlace)} (K : WideMaps.KeyLaw Try.prog k) (ht : Try.prog.underlying t = some (.map k e)) {z : Value} (hz : ∀ u : World, (zeroValue e).run Try.prog u = .ok z u) (hb : w.heap[b]? = some (.map es clock)) (F : Fit Try.prog k R es clock) {key : Value} {kl : Lit} (hkey : keyOf Try.prog k key = some kl) {v : Value} (hl : (Instr.lookup t (.map (some b)) key false).run Try.prog w = .ok v w) :
    ∃ a es1 clock1, (Instr.mapEntry t (.map (some b)) key).run Try.prog w = .ok a (setBlock w b (.map es1 clock1)) ∧ (Instr.mapUpdate t (.map (some b)) key v).run Try.prog w = .ok () (setBlock w b (.map es1 clock1)) := by
  have hlk := Maps.fit_look false (Keyed.of_law K) ht (hz w) hb F hkey
  rw [hl] at hlk
  simp only [Bool.false_eq_true, if_false, Result.ok.injEq, and_true] at hlk
  rcases K.find w hkey es.toList F.keys with ⟨h1, h2⟩ | ⟨j, e0, h1, h2, h3⟩
  · have hv : v = z := by
      rcases hlk with ⟨e, _⟩ | ⟨e0, _, hm, hk, _⟩
      · exact e
      · exact absurd hk (h2 e0 hm)
    subst hv
    refine ⟨.tuple #[v, goInt clock], es.push ⟨key, v, clock⟩, clock + 1, ?_, ?_⟩
    rotate_left
    · simp [Instr.mapUpdate, run_underlying ht, MapKept.run_getObj_map hb, K.check w false hkey, h1, MapKept.run_setObj_map _ hb, Result.andThen, setBlock]
    · simp [Instr.mapEntry, run_underlying ht, MapKept.run_getObj_map hb, K.check w false hkey, h1, hz, MapKept.run_setObj_map _ hb, Result.andThen, setBlock]
  · have hj : es[j]? = some e0 := by simpa using h2
    have hv : v = e0.val := by
      rcases hlk with ⟨_, hn, _⟩ | ⟨e1, _, hm, hk, e, _⟩
      · exact absurd h3 (hn e0 (List.mem_of_getElem? h2))
      · rw [e, entry_eq_of_key ((MapKept.stamped_iff es clock).1 F.stamped).2.2 hm (List.mem_of_getElem? h2) (hk.trans h3.symm)]
    subst hv
    refine ⟨.tuple #[e0.val, goInt e0.born], es.modify j (fun e' => { e' with key := key, val := e0.val }), clock, ?_, ?_⟩
    rotate_left
    · simp [Instr.mapUpdate, run_underlying ht, MapKept.run_getObj_map hb, K.check w false hkey, h1, hj, h3, K.stays w hkey, MapKept.run_setObj_map _ hb, Result.andThen, setBlock]
    · have hsame : es.modify j (fun e => { e with key := key }) = es.modify j (fun e' => { e' with key := key, val := e0.val }) := by
        apply Array.ext'
        rw [Array.toList_modify, Array.toList_modify, modify_eq_set _ _ _ _ h2, modify_eq_set _ _ _ _ h2]
      simp [Instr.mapEntry, run_underlying ht, MapKept.run_getObj_map hb, K.check w false hkey, h1, hj, h3, K.stays w hkey, hsame, MapKept.run_setObj_map _ hb, Result.andThen, setBlock]
theorem setBlock_twice (w : World) (b : Nat) (x y : Obj) : setBlock (setBlock w b x) b y = setBlock w b y := by
  unfold setBlock
  simp [Array.setIfInBounds_setIfInBounds]
/-- 'm[k]++'. -/
theorem MapN.bump {t : TypeId} (h : MapN w mb n F) (ht : Try.prog.underlying t = some (.map 58 3)) (hn : n < maxLen) (k : Vst) (hk : V64 k) (d : Int) :
    ∃ v0 st w1 w2, (Instr.mapEntry t (.map (some mb)) (vval k)).run Try.prog w = .ok (.tuple #[v0, .int .i64 st]) w1 ∧ (Instr.lookup t (.map (some mb)) (vval k) false).run Try.prog w1 = .ok (.int .i64 (F k)) w1 ∧ w.grownBy w1 (some mb) ∧
      (Instr.entryStore t (.map (some mb)) (.int .i64 st) (.int .i64 (F k + d))).run Try.prog w1 = .ok () w2 ∧ MapN w2 mb (n + 1) (fun u => if u = k then F u + d else F u) ∧ w.grownBy w2 (some mb) := by
  have hl := h.look ht k hk
  obtain ⟨D, hD, hp⟩ := h
  obtain ⟨es, clock, hb, Ft, hs, hDe⟩ := id hD
  obtain ⟨a, es1, cl1, u1, u2⟩ := entry_update vlawK ht zero3 hb Ft (keyV k hk) hl
  obtain ⟨v0, st, es2, cl2, q1, _, q3⟩ := entry_then_store vlawK ht zero3 hb Ft (keyV k hk)
  rw [u1] at q1
  injection q1 with q1 q2
  obtain ⟨es3, cl3, s1, s2⟩ := q3 (setBlock w mb (.map es2 cl2)) (.int .i64 (F k + d)) (heap_setBlock_same hb _)
  obtain ⟨wa, a1, a2, a3⟩ := hD.update vlaw ht hn (keyV k hk) (show heldT (.int .i64 (F k)) = some (.held (.int .i64 (F k)), []) from rfl)
  obtain ⟨wb, b1, b2, b3⟩ := hD.update vlaw ht hn (keyV k hk) (show heldT (.int .i64 (F k + d)) = some (.held (.int .i64 (F k + d)), []) from rfl)
  rw [u2] at a1
  injection a1 with _ a1
  rw [s2] at b1
  injection b1 with _ b1
  rw [← q2, setBlock_twice] at s1
  subst a1 b1 q1
  refine ⟨v0, st, _, _, u1, ?_, a3, s1, ⟨_, b2, fun u hu => ?_⟩, b3⟩
  · obtain ⟨v, ps, r1, r2⟩ := a2.lookup vlaw ht (zero3 _) (show heldT (.int .i64 0) = some (.held (.int .i64 0), []) from rfl) (keyV k hk)
    rw [atKey_put_same hD.isMap (vlaw.key (keyV k hk))] at r2
    simp only [heldT, Option.some.injEq, Prod.mk.injEq, DataW.held.injEq] at r2
    rw [r1, r2.1]
  · by_cases e : u = k
    · subst e
      simp only [if_true]
      rw [atKey_put_same hD.isMap (vlaw.key (keyV u hu))]
    · simp only [if_neg e]
      rw [atKey_put_other (fun h => e (vlit_inj hu hk h)), hp u hu]
set_option maxRecDepth 100000 in
theorem lits3 {d : Nat} {x : Value} {l : List Lit} (h : Try.prog.keyLits (d + 1) 3 [x] = some l) : ∃ i, x = .int .i64 i ∧ l = [.int .i64 i] ∧ I64 i := by
  unfold Program.keyLits at h
  rw [Try.underlying3] at h
  cases x <;> simp at h
  obtain ⟨⟨rfl, hw⟩, rfl⟩ := h
  refine ⟨_, rfl, rfl, ?_⟩
  have e1 : IntKind.i64.min = -9223372036854775808 := by rfl
  have e2 : IntKind.i64.max = 9223372036854775807 := by rfl
  simp [Lit.wf, e1, e2] at hw
  unfold I64
  omega
set_option maxRecDepth 100000 in
theorem lits56 {d : Nat} {x : Value} {l : List Lit} (h : Try.prog.keyLits (d + 1) 56 [x] = some l) : ∃ i, x = .int .i64 i ∧ l = [.int .i64 i] ∧ I64 i := by
  unfold Program.keyLits at h
  rw [Try.underlying56] at h
  cases x <;> simp at h
  obtain ⟨⟨rfl, hw⟩, rfl⟩ := h
  exact ⟨_, rfl, rfl, i64_wf hw⟩
set_option maxRecDepth 100000 in
/-- What is a key of a visit's type is a visit. -/
theorem key_inv {key : Value} {kl : Lit} (h : keyOf Try.prog 58 key = some kl) : ∃ t : Vst, key = vval t ∧ kl = vlit t ∧ V64 t := by
  have hc : Try.prog.cellsOf 58 = 2 := by kernel_rfl
  have hc4 : Try.prog.cellsOf 56 = 1 := by kernel_rfl
  have hc3 : Try.prog.cellsOf 3 = 1 := by kernel_rfl
  unfold keyOf at h
  rw [Try.underlying58] at h
  simp only at h
  split at h
  · rename_i hf
    obtain ⟨_, hf⟩ := Bool.and_eq_true_iff.1 hf
    cases key with
    | agg cs =>
      simp only [Value.formed, Try.underlying58, hc, beq_iff_eq] at hf
      obtain ⟨l⟩ := cs
      match l, hf with
      | [x, y], _ =>
        obtain ⟨d, hd⟩ : ∃ d, Try.prog.types.size + 1 = d + 2 := ⟨Try.prog.types.size - 1, by have : 58 < Try.prog.types.size := of_decide_eq_true (by kernel_rfl); omega⟩
        rw [hd] at h
        unfold Program.keyLits at h
        simp [Value.cells, Try.underlying58, hc, hc4, hc3, Option.bind_eq_some_iff] at h
        obtain ⟨a, ha, _, ⟨b, hb, rfl⟩, rfl⟩ := h
        obtain ⟨s, rfl, rfl, hs⟩ := lits56 ha
        obtain ⟨i, rfl, rfl, hi⟩ := lits3 hb
        exact ⟨(s, i), rfl, rfl, hs, hi⟩
    | _ => simp [Value.formed, Try.underlying58] at hf
  · cases h
/-- A range over the map. -/
def RngN (w : World) (mb r n : Nat) (F : Vst → Int) (cnt : Nat) : Prop := ∃ D left, w.ranges Try.prog 58 heldT mb r n D left cnt ∧ ∀ t, V64 t → D.atKey (vlit t) (.held (.int .i64 0)) = .held (.int .i64 (F t))
theorem RngN.left_eq {r cnt : Nat} (h : RngN w mb r n F cnt) : w.rangeLeft mb r = cnt := by
  obtain ⟨_, _, h, _⟩ := h
  exact h.left_eq
theorem RngN.lt {r cnt : Nat} (h : RngN w mb r n F cnt) : r < w.heap.size := by
  obtain ⟨_, _, h, _⟩ := h
  exact h.lt
/-- The range begins. -/
theorem MapN.range (h : MapN w mb n F) {o : Oper} {ops : Array Oper} {rest : List Oper} {a : Act} {Q : Exit → Act → World → Prop} (hg : o.guard = none) (m : Operand) (t : TypeId) (hop : o.op = Op.range t m) (ht : Try.prog.underlying t = some (.map 58 3)) (hm : a.eval m = .map (some mb))
    (hK : ∀ w' cnt, RngN w' mb w.heap.size n F cnt → Below w.heap.size w w' → w'.heap.size = w.heap.size + 1 → wpList Try.prog ops Q rest (a.put o.dst (.pointer (some ⟨w.heap.size, 0, none⟩))) w') : wpList Try.prog ops Q (o :: rest) a w := by
  obtain ⟨D, hD, hp⟩ := h
  refine wpList_range_own w hg m t hop 58 3 vlaw ht heldT mb n D hm hD fun w' h1 h2 h3 => ?_
  exact hK w' _ ⟨D, _, h1, hp⟩ ⟨h2.os, h2.tape, h2.output, h2.size, fun i hi => h2.block i hi (by simp)⟩ h3
set_option maxRecDepth 100000 in
/-- The next one. -/
theorem RngN.next {r cnt : Nat} (h : RngN w mb r n F cnt) {o : Oper} {ops : Array Oper} {rest : List Oper} {a : Act} {Q : Exit → Act → World → Prop} (hg : o.guard = none) (it : Operand) (hop : o.op = Op.next it false) (hit : a.eval it = .pointer (some ⟨r, 0, none⟩))
    (hDone : wpList Try.prog ops Q rest (a.put o.dst (.tuple #[.bool false])) w)
    (hMore : ∀ (s i : Int) (w' : World) (cnt' : Nat), Hid (V64 (s, i)) → Hid (RngN w' mb r n F cnt') → Hid (cnt' < cnt) → Hid (w.grownBy w' (some r)) → w'.heap.size = w.heap.size → (Instr.entry (.pointer (some ⟨r, 0, none⟩))).run Try.prog w' = .ok (.tuple #[.agg #[.int .i64 s, .int .i64 i], .int .i64 (F (s, i))]) w' → wpList Try.prog ops Q rest (a.put o.dst (.tuple #[.bool true, .agg #[.int .i64 s, .int .i64 i], .int .i64 (F (s, i))])) w') : wpList Try.prog ops Q (o :: rest) a w := by
  obtain ⟨D, left, hr, hp⟩ := h
  refine wpList_next_ranges (α := Vst) (β := Value) w hg it hop 58 vlaw heldT vval id (fun key kl hk => by obtain ⟨t, e, _⟩ := key_inv hk; exact ⟨t, e⟩) (fun v _ _ => ⟨v, rfl⟩) mb r n D left cnt hit hr (fun _ _ => hDone) fun x c kl y w' cnt' hk hlk hy hat hr' hlt hgr hsz hen => ?_
  obtain ⟨t, e1, e2, ht⟩ := key_inv hk
  have ext : x = t := by
    obtain ⟨s, i⟩ := x
    obtain ⟨s', i'⟩ := t
    simp [vval] at e1
    rw [e1.1, e1.2]
  subst ext e2
  have hc : c = .int .i64 (F x) := by
    have a1 := hat (.held (.int .i64 0))
    rw [hp x ht] at a1
    simp only [heldT, id_eq, Option.some.injEq] at hy
    rw [← hy] at a1
    injection a1 with a1
    exact a1.symm
  subst hc
  obtain ⟨s, i⟩ := x
  exact hMore s i w' cnt' ht ⟨D, _, hr', hp⟩ hlt hgr hsz hen
end
end Go.Proofs.Ytdnkmjafkpnliaa
