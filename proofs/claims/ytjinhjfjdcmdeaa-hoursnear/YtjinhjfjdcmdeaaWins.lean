/-
  Windows in memory: what a slice of them that came in reads as, and rows of them that a call owns.
-/
import Derived.Test.YtjinhjfjdcmdeaaPlain
import Derived.Test.YtjinhjfjdcmdeaaProg
import Derived.WalkKit
import Derived.WalkSpells
import Derived.WalkLawsBesides
import Derived.Deep.QuietTactic
import Derived.BigQuiet
import Derived.BigRegion
import Derived.Deep.RegionWith
import Derived.Deep.RegionHeld
import Derived.Laws.AppendOwnNone
import Derived.Laws.OwnMore
import Derived.Shelf.Abstract
namespace Go.Proofs.Ytjinhjfjdcmdeaa
open Go.RowKit

theorem hide {p : Prop} (h : p) : Hid p := h
theorem drewN_heap (w : World) (n : Nat) : (w.drewN n).heap = w.heap := by
  induction n with
  | zero => rfl
  | succ n ih => exact ih
theorem below_drewN {B : Nat} {a w : World} (h : Below B a w) (n : Nat) : Below B a (w.drewN n) := ⟨h.os, h.tape, h.output, by rw [drewN_heap]; exact h.size, fun k hk => by rw [drewN_heap]; exact h.block k hk⟩
theorem below_on {a b c : World} (h : Below a.heap.size a b) (k : Below b.heap.size b c) : Below a.heap.size a c := h.trans (k.mono h.size)
/-- Windows in memory. -/
structure WinsAt (w : World) (a : Option Addr) (m : Nat) (L : List Win) : Prop where
  len : L.length = m
  max : m * 16 ≤ 140737488351232
  cell : ∀ k, k < m → ∃ b off, a = some ⟨b, off, none⟩ ∧ w.cell? ⟨b, off + k * 2, none⟩ = some (.int .i64 (L[k]!).1) ∧ w.cell? ⟨b, off + k * 2 + 1, none⟩ = some (.int .i64 (L[k]!).2)
theorem WinsAt.later {w w' : World} {a : Option Addr} {m B : Nat} {L : List Win} (h : WinsAt w a m L) (hB : w.heap.size ≤ B) (f : Below B w w') : WinsAt w' a m L :=
  ⟨h.len, h.max, fun k hk => by
    obtain ⟨b, off, e, h0, h1⟩ := h.cell k hk
    have hb : b < B := Nat.lt_of_lt_of_le (block_lt_of_cell h0) hB
    exact ⟨b, off, e, (f.cell (p := ⟨b, _, none⟩) hb).trans h0, (f.cell (p := ⟨b, _, none⟩) hb).trans h1⟩⟩
theorem WinsAt.on {w w' : World} {a : Option Addr} {m : Nat} {L : List Win} (h : WinsAt w a m L) (f : Below w.heap.size w w') : WinsAt w' a m L := h.later (Nat.le_refl _) f
theorem wins_none {w : World} {m : Nat} {L : List Win} (h : WinsAt w none m L) : m = 0 := by
  rcases Nat.eq_zero_or_pos m with e | e
  · exact e
  · obtain ⟨b, off, e2, _⟩ := h.cell 0 e; cases e2

def encW (x : Win) : List Value := [.int .i64 x.1, .int .i64 x.2]
def flatW (A : List Win) : List Value := A.flatMap encW
theorem flatW_len : ∀ A : List Win, (flatW A).length = A.length * 2
  | [] => rfl
  | x :: r => by rw [show flatW (x :: r) = encW x ++ flatW r from rfl, List.length_append, flatW_len r]; simp [encW]; omega
theorem flatW_get : ∀ (A : List Win) (i c : Nat), i < A.length → c < 2 → (flatW A)[i * 2 + c]? = some ((encW A[i]!)[c]!)
  | [], _, _, h, _ => by simp at h
  | x :: r, 0, c, _, hc => by
    rw [show flatW (x :: r) = encW x ++ flatW r from rfl, List.getElem?_append_left (by simp [encW]; omega)]
    have : c = 0 ∨ c = 1 := by omega
    rcases this with rfl | rfl <;> simp [encW]
  | x :: r, i + 1, c, h, hc => by
    rw [show flatW (x :: r) = encW x ++ flatW r from rfl, List.getElem?_append_right (by simp [encW]; omega), show (i + 1) * 2 + c - (encW x).length = i * 2 + c by simp [encW]; omega, flatW_get r i c (by simpa using h) hc]
    simp
theorem flatW_one (A : List Win) : ∀ u ∈ flatW A, u.oneCell' = true := by
  intro u hu
  unfold flatW at hu
  rw [List.mem_flatMap] at hu
  obtain ⟨x, _, hx⟩ := hu
  simp [encW] at hx
  rcases hx with rfl | rfl <;> rfl
theorem info37 : (Try.prog.info? 37).map (fun i => (i.zero, i.size, i.bytes)) = some (some (.agg #[.int .i64 0, .int .i64 0]), 2, 16) := by kernel_rfl
theorem addAt (b off j : Nat) : (⟨b, off, none⟩ : Addr).add j = ⟨b, off + j, none⟩ := by
  unfold Addr.add
  split
  · rename_i h; subst h; rfl
  · rfl
theorem wins_news {w : World} {b off m : Nat} {A : List Win} (h : WinsAt w (some ⟨b, off, none⟩) m A) : ∀ j u, (flatW A)[j]? = some u → w.cell? ((⟨b, off, none⟩ : Addr).add j) = some u := by
  intro j u hu
  have hj : j < m * 2 := by
    have := (List.getElem?_eq_some_iff.1 hu).1
    rw [flatW_len, h.len] at this
    exact this
  obtain ⟨b2, off2, e, c0, c1⟩ := h.cell (j / 2) (by omega)
  cases e
  have hf := flatW_get A (j / 2) (j % 2) (by rw [h.len]; omega) (by omega)
  rw [show j / 2 * 2 + j % 2 = j by omega, hu] at hf
  rw [addAt, Option.some.inj hf]
  have : j % 2 = 0 ∨ j % 2 = 1 := by omega
  rcases this with e | e
  · rw [e, show off + j = off + j / 2 * 2 by omega]; exact c0
  · rw [e, show off + j = off + j / 2 * 2 + 1 by omega]; exact c1
/-- A row of windows that a call owns. -/
def WRow (w : World) (base : Nat) (v : Value) (L : List Win) : Prop := w.ownsRow base 37 2 v L.length (flatW L)
section
variable {w w' : World} {base g cap m : Nat} {v : Value} {L : List Win}
theorem WRow.at (h : WRow w base v L) (hm : L.length * 16 ≤ 140737488351232) : ∃ a c, v = .slice a L.length c ∧ WinsAt w a L.length L := by
  have h' : w.ownsRow base 37 2 v L.length (flatW L) := h
  rcases h'.2 with ⟨e, e2⟩ | ⟨g, cap, cur, e, hb, hg, hnc, hcm, _⟩
  · exact ⟨none, 0, by rw [e, e2], rfl, hm, fun k hk => by omega⟩
  · subst e
    refine ⟨_, cap, rfl, rfl, hm, fun k hk => ⟨g, 0, rfl, ?_⟩⟩
    have f := fun c hc => flatW_get L k c hk hc
    simp only [Nat.zero_add]
    exact ⟨by rw [World.ownsRow.cellAt h' _ (by omega)]; exact f 0 (by omega), by rw [World.ownsRow.cellAt h' _ (by omega)]; exact f 1 (by omega)⟩
theorem WRow.later {B : Nat} (h : WRow w base v L) (hB : w.heap.size ≤ B) (f : Below B w w') : WRow w' base v L := by
  have hl := World.ownsRow.lt h
  obtain ⟨h1, h2⟩ := h
  refine ⟨h1, ?_⟩
  rcases h2 with h2 | ⟨g, cap, cur, rfl, a, b, r⟩
  · exact .inl h2
  · exact .inr ⟨g, cap, cur, rfl, a, (f.block g (Nat.lt_of_lt_of_le (hl g rfl).2 hB)).trans b, r⟩
theorem WRow.mono {base' : Nat} (h : WRow w base v L) (hb : base' ≤ base) : WRow w base' v L := by
  obtain ⟨h1, h2⟩ := h
  refine ⟨h1, ?_⟩
  rcases h2 with h2 | ⟨g, cap, cur, e, a, r⟩
  · exact .inl h2
  · exact .inr ⟨g, cap, cur, e, Nat.le_trans hb a, r⟩
end
/-- An append of windows that are there onto the empty slice, just made: a copy. -/
theorem app_wins {w w0 : World} {ops : Array Oper} {rest : List Oper} {o : Oper} {a : Act} {Q : Exit → Act → World → Prop} (s x : Operand)
    (hgd : o.guard = none) (ho : o.op = .call { callee := .builtin .append, args := #[s, x], argTypes := #[22, 22] }) {m : Nat} {ad : Option Addr} {c : Nat} {L : List Win}
    (hs : a.eval s = .slice (some ⟨w.heap.size, 0, none⟩) 0 0) (hx : a.eval x = .slice ad m c) (hr : WinsAt w ad m L) (hc : ad = none → c = 0) (hb : Below w0.heap.size w0 w)
    (h : ∀ a' c' w', WRow w' w.heap.size (.slice a' m c') L → WinsAt w' a' m L → (a' = none → c' = 0) → Below w.heap.size w w' → Below w0.heap.size w0 w' → wpList Try.prog ops Q rest (a.put o.dst (.slice a' m c')) w') : wpList Try.prog ops Q (o :: rest) a (w.alloc (.cells #[] 37)) := by
  obtain ⟨i0, hi0, hy0, hy1, hy2⟩ := info_parts info37
  have hown : (w.alloc (.cells #[] 37)).ownsRow w.heap.size 37 2 (.slice (some ⟨w.heap.size, 0, none⟩) 0 0) 0 [] := World.ownsRow_made w #[] 0 (Nat.le_refl _) (by decide) rfl
  have fA : Below w.heap.size w (w.alloc (.cells #[] 37)) := (Below.refl _ _).alloc (Nat.le_refl _) _
  have hmax := hr.max
  have hlen := hr.len
  cases ad with
  | none =>
    have hm := wins_none hr
    have hz : L = [] := List.eq_nil_of_length_eq_zero (by rw [hr.len]; exact hm)
    subst hm hz
    rw [hc rfl] at hx
    refine wpList_append_own_none hgd s x 22 ho w.heap.size 37 i0 2 Try.underlying22 hi0 _ 0 [] hs hown hx ?_
    exact h _ _ _ hown ⟨rfl, by omega, fun k hk => by omega⟩ (fun e => by cases e) fA (hb.trans (fA.mono hb.size))
  | some y =>
    have hnews : ∀ j u, (flatW L)[j]? = some u → (w.alloc (.cells #[] 37)).cell? (y.add j) = some u := by
      by_cases hm : m = 0
      · have hz : L = [] := List.eq_nil_of_length_eq_zero (by rw [hr.len]; exact hm)
        subst hz
        intro j u hu
        simp [flatW] at hu
      · obtain ⟨b, off, e, _⟩ := hr.cell 0 (by omega)
        cases e
        exact wins_news (hr.on fA)
    refine wpList_append_own _ hgd s x 22 ho w.heap.size 37 i0 _ 2 16 Try.underlying22 hi0 hy0 hy1 hy2 rfl (by decide) _ 0 [] hs hown y m c (flatW L) hx (by rw [flatW_len, hr.len]) hnews (flatW_one _) (by unfold maxLen; omega) (by omega) (by simp) ?_
    intro v' w' h1 h2 _
    rw [Nat.zero_add, List.nil_append, ← hlen] at h1
    have hr' : WRow w' w.heap.size v' L := h1
    have hbb : Below w.heap.size w w' := fA.grown h2 fA.size fun k hk => (hown.lt k hk).1
    obtain ⟨a', c', e, hat⟩ := hr'.at (by omega)
    subst e
    rw [hlen] at hr' hat ⊢
    refine h a' c' w' hr' hat (fun e => ?_) hbb (hb.trans (hbb.mono hb.size))
    subst e
    have hz : w'.ownsRow w.heap.size 37 2 (.slice none m c') L.length (flatW L) := hr'
    rcases hz.2 with ⟨e, _⟩ | ⟨g, cap, cur, e, _⟩
    · cases e; rfl
    · cases e
end Go.Proofs.Ytjinhjfjdcmdeaa
