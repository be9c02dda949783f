/-
  Maps whose keys are tasks, in memory: what is there, what is stored.
-/
import Derived.Test.YtgjpkpmikbpcnaaArg
import Derived.Test.YtgjpkpmikbpcnaaAsk
import Derived.DeepKeys4
import Derived.Maps.OwnSet
import Derived.Maps.RangeWalk
namespace Go.Proofs.Ytgjpkpmikbpcnaa
open Go.RowKit Go.Maps

theorem wide31 : (match Try.prog.underlying 31 with | some (.array _ _) | some (.struct _) => true | _ => false) = true := by kernel_rfl
theorem row31 : (31 : TypeId) < Try.prog.types.size := of_decide_eq_true (by kernel_rfl)
theorem deep31 : Try.prog.keyTypeAt 2 31 = true := by kernel_rfl
set_option maxRecDepth 100000 in
theorem tlaw : Keyed Try.prog 31 := Keyed.of_law (deep_law_laid laidOut (m := 2) (by omega) row31 deep31 wide31)
def tval (t : Tsk) : Value := .agg #[.bool t.1, .int .i64 t.2]
def tlit (t : Tsk) : Lit := .string (keyBytes [.bool t.1, .int .i64 t.2])
def I64 (x : Int) : Prop := -9223372036854775808 ≤ x ∧ x ≤ 9223372036854775807
theorem wf64 {x : Int} (h : I64 x) : (Lit.int .i64 x).wf = true := by
  obtain ⟨h1, h2⟩ := h
  have e1 : IntKind.i64.min = -9223372036854775808 := by rfl
  have e2 : IntKind.i64.max = 9223372036854775807 := by rfl
  simp [Lit.wf, e1, e2]
  omega
theorem keyT (t : Tsk) (h : I64 t.2) : keyOf Try.prog 31 (tval t) = some (tlit t) := by
  obtain ⟨s, i⟩ := t
  have h1 : Try.prog.keyType 31 = true := by kernel_rfl
  have hc : Try.prog.cellsOf 31 = 2 := by kernel_rfl
  have hc4 : Try.prog.cellsOf 4 = 1 := by kernel_rfl
  have hc3 : Try.prog.cellsOf 3 = 1 := by kernel_rfl
  have h2 : (tval (s, i)).formed Try.prog 31 = true := by simp [tval, Value.formed, Try.underlying31, hc]
  have hw := wf64 h
  have h3 : ∀ d, Try.prog.keyLits (d + 2) 31 [.bool s, .int .i64 i] = some [.bool s, .int .i64 i] := by
    intro d
    simp [Program.keyLits, Try.underlying31, Try.underlying4, Try.underlying3, hc, hc4, hc3, hw]
  obtain ⟨d, hd⟩ : ∃ d, Try.prog.types.size + 1 = d + 2 := ⟨Try.prog.types.size - 1, by have : 31 < Try.prog.types.size := of_decide_eq_true (by kernel_rfl); omega⟩
  unfold keyOf
  rw [Try.underlying31]
  simp only [h1, h2, Bool.and_self, if_true]
  rw [hd]
  show (Try.prog.keyLits (d + 2) 31 [.bool s, .int .i64 i]).map _ = _
  rw [h3]
  rfl
theorem tlit_inj {t u : Tsk} (ht : I64 t.2) (hu : I64 u.2) (h : tlit t = tlit u) : t = u := by
  have := tlaw.inj (keyT t ht) (by rw [h]; exact keyT u hu)
  obtain ⟨s, i⟩ := t
  obtain ⟨s', i'⟩ := u
  simp [tval] at this
  rw [this.1, this.2]
def heldT (v : Value) : Option (DataW Value × List MemPlace) := some (.held v, [])
/-- A map of tasks, where each that isn't in it reads as z. -/
def MapT (w : World) (mb n : Nat) (z : Value) (F : Tsk → Value) : Prop := ∃ D, w.ownsMap Try.prog 31 heldT mb n D ∧ ∀ t, I64 t.2 → D.atKey (tlit t) (.held z) = .held (F t)
theorem MapT.of_block {w w' : World} {mb n : Nat} {z : Value} {F : Tsk → Value} (h : MapT w mb n z F) (e : w'.heap[mb]? = w.heap[mb]?) : MapT w' mb n z F := by
  obtain ⟨D, ⟨es, clock, hb, G, hs, hD⟩, hp⟩ := h
  exact ⟨D, ⟨es, clock, e.trans hb, G, hs, hD⟩, hp⟩
theorem MapT.lt {w : World} {mb n : Nat} {z : Value} {F : Tsk → Value} (h : MapT w mb n z F) : mb < w.heap.size := by
  obtain ⟨D, h, _⟩ := h
  exact h.lt
theorem MapT.on {w w' : World} {mb n B : Nat} {z : Value} {F : Tsk → Value} (h : MapT w mb n z F) (hB : mb < B) (f : Below B w w') : MapT w' mb n z F := h.of_block (f.block mb hB)
theorem MapT.made (w : World) (z : Value) : MapT (w.alloc (.map #[] 0)) w.heap.size 0 z fun _ => z := ⟨.map [], World.ownsMap_made w Try.prog 31 heldT, fun _ _ => rfl⟩
theorem MapT.look {w : World} {mb n : Nat} {z : Value} {F : Tsk → Value} {t e : TypeId} (h : MapT w mb n z F) (ht : Try.prog.underlying t = some (.map 31 e)) (hz : (zeroValue e).run Try.prog w = .ok z w) (k : Tsk) (hk : I64 k.2) :
    (Instr.lookup t (.map (some mb)) (tval k) false).run Try.prog w = .ok (F k) w := by
  obtain ⟨D, hD, hp⟩ := h
  obtain ⟨v, ps, r1, r2⟩ := hD.lookup tlaw ht hz (show heldT z = some (.held z, []) from rfl) (keyT k hk)
  rw [hp k hk] at r2
  simp only [heldT, Option.some.injEq, Prod.mk.injEq, DataW.held.injEq] at r2
  rw [r1, r2.1]
theorem MapT.store {w : World} {mb n : Nat} {z : Value} {F : Tsk → Value} {t e : TypeId} (h : MapT w mb n z F) (ht : Try.prog.underlying t = some (.map 31 e)) (hn : n < maxLen) (k : Tsk) (hk : I64 k.2) (v : Value) :
    ∃ w', (Instr.mapUpdate t (.map (some mb)) (tval k) v).run Try.prog w = .ok () w' ∧ MapT w' mb (n + 1) z (fun u => if u = k then v else F u) ∧ w.grownBy w' (some mb) := by
  obtain ⟨D, hD, hp⟩ := h
  obtain ⟨w', r1, r2, r3⟩ := hD.update tlaw ht hn (keyT k hk) (show heldT v = some (.held v, []) from rfl)
  refine ⟨w', r1, ⟨_, r2, fun u hu => ?_⟩, r3⟩
  simp only
  by_cases e : u = k
  · subst e
    rw [if_pos rfl]
    exact atKey_put_same hD.isMap (tlaw.key (keyT u hu)) _ _
  · rw [if_neg e, atKey_put_other (fun h => e (tlit_inj hu hk h))]
    exact hp u hu
theorem grown_below {w w' : World} {mb : Nat} (h : w.grownBy w' (some mb)) (hl : mb ≤ w.heap.size) : Below mb w w' := (Below.refl mb w).grown h hl fun q hq => by cases hq; exact Nat.le_refl _
theorem grown_cell {w w' : World} {mb b o : Nat} (h : w.grownBy w' (some mb)) (hb : b < w.heap.size) (hne : b ≠ mb) : w'.cell? ⟨b, o, none⟩ = w.cell? ⟨b, o, none⟩ := by
  have e := h.block b hb (by simpa using hne)
  unfold World.cell?
  simp only [e]
end Go.Proofs.Ytgjpkpmikbpcnaa
