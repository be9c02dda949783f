/-
  What the fixed facts (Awake) of layer 2 do.
-/
import Derived.Test.YtedhglphnmheiabDoorParse
namespace Go.Proofs.YtedhglphnmheiabDoor
open Go.RowKit

theorem parse_row (l : List UInt8) (w : World) (fz : Nat × Nat) (ht : Lib.Utf8Tabs 0 1 w) (h2 : 2 ≤ w.heap.size) (hl : l.length ≤ 9223372036854775807) :
    Calls Tryd.prog 11 #[.slice (some ⟨w.heap.size, 0, none⟩) l.length l.length] (w.alloc (.cells (Lib.byteCells l).toArray 5 fz)) (DoneR (w.alloc (.cells (Lib.byteCells l).toArray 5 fz)) (parseM l)) := by
  refine parse_json (B := l) (tb := w.heap.size) (toff := 0) ?_ (by simp) (Nat.le_refl _) hl (tabs_below ((Below.refl _ w).alloc (Nat.le_refl _) _) h2 ht) (by simp; omega)
  intro j hj
  rw [cell_of_row _ w.heap.size (0 + j) _ _ _ (heap_alloc_new w _), Nat.zero_add]
  simp [Lib.byteCells, byteAt, List.getD_eq_getElem?_getD, List.getElem?_eq_getElem hj]

def t1 : List UInt8 := [91, 49, 44, 32, 34, 97, 34, 93]
def t2 : List UInt8 := [123, 34, 97, 34, 58, 49, 44, 34, 97, 34, 58, 50, 125]
theorem p1 : parseM t1 = .ok [{ kind := 3, num := 1 }, { kind := 4, text := [97] }, { kind := 5, kids := [0, 1] }] 0 := by kernel_rfl
theorem p2 : parseM t2 = .bad 7 28 := by kernel_rfl
theorem row1 (w : World) (ht : Lib.Utf8Tabs 0 1 w) (h2 : 2 ≤ w.heap.size) :
    Calls Tryd.prog 11 #[.slice (some ⟨w.heap.size, 0, none⟩) 8 8] (w.alloc (.cells #[.int .u8 91, .int .u8 49, .int .u8 44, .int .u8 32, .int .u8 34, .int .u8 97, .int .u8 34, .int .u8 93] 5 (8, 9))) fun e w' =>
      ∃ g cap, e = .returned (.tuple #[.slice (some ⟨g, 0, none⟩) 3 cap, .int .i64 0, .int .i64 0]) ∧ w'.cell? ⟨g, 12, none⟩ = some (.int .i64 5) ∧ w'.cell? ⟨g, 9, none⟩ = some (.string ⟨#[97]⟩) ∧ Below w.heap.size w w' := by
  have h := parse_row t1 w (8, 9) ht h2 (by decide)
  rw [p1] at h
  refine Calls.mono h ?_
  rintro e w' ⟨v, cs, rfl, ho, hr, hb⟩
  obtain ⟨n0, k0, r0, e0, _, n1, k1, r1, e1, _, n2, k2, r2, e2, _, e3⟩ := hr
  subst e3 e2 e1
  rcases ho.2 with ⟨_, h0⟩ | ⟨g, cap, cur, rfl, _⟩
  · cases h0
  · have hadd : ∀ j, (⟨g, 0, none⟩ : Addr).add j = ⟨g, j, none⟩ := fun j => by unfold Addr.add; split <;> simp_all
    refine ⟨g, cap, rfl, ?_, ?_, ((Below.refl _ w).alloc (Nat.le_refl _) _).trans (hb.mono (by simp))⟩
    · have := ho.cells (g := g) rfl 12 (.int .i64 5) (by rw [e0]; rfl)
      rwa [hadd] at this
    · have := ho.cells (g := g) rfl 9 (.string ⟨#[97]⟩) (by rw [e0]; rfl)
      rwa [hadd] at this
theorem row2 (w : World) (ht : Lib.Utf8Tabs 0 1 w) (h2 : 2 ≤ w.heap.size) :
    Calls Tryd.prog 11 #[.slice (some ⟨w.heap.size, 0, none⟩) 13 13] (w.alloc (.cells #[.int .u8 123, .int .u8 34, .int .u8 97, .int .u8 34, .int .u8 58, .int .u8 49, .int .u8 44, .int .u8 34, .int .u8 97, .int .u8 34, .int .u8 58, .int .u8 50, .int .u8 125] 5 (13, 14))) fun e w' =>
      e = .returned (.tuple #[.slice none 0 0, .int .i64 7, .int .i64 28]) ∧ Below w.heap.size w w' := by
  have h := parse_row t2 w (13, 14) ht h2 (by decide)
  rw [p2] at h
  refine Calls.mono h ?_
  rintro e w' ⟨rfl, hb⟩
  exact ⟨rfl, ((Below.refl _ w).alloc (Nat.le_refl _) _).trans (hb.mono (by simp))⟩

theorem conv_mark (w : World) (C : Array Value) (n c : Nat) : (convert 24 24 (.slice (some ⟨w.heap.size, 0, none⟩) n c)).run Tryd.prog (w.alloc (.cells C 5)) = .ok (.slice (some ⟨w.heap.size, 0, none⟩) n c) (w.alloc (.cells C 5 (C.size, C.size + 1))) := by
  have hb : (w.alloc (.cells C 5)).heap[w.heap.size]? = some (.cells C 5 (0, 0)) := heap_alloc_new w _
  have hsh : (w.alloc (.cells C 5)).shape? w.heap.size = some (5, C.size) := by unfold World.shape?; rw [hb]
  have hfr : (w.alloc (.cells C 5)).freeze ⟨w.heap.size, C.size, none⟩ 1 = w.alloc (.cells C 5 (C.size, C.size + 1)) := by
    unfold World.freeze
    rw [if_neg (by decide)]
    show ({ w with heap := (w.heap.push (.cells C 5)).modify w.heap.size _ } : World) = { w with heap := w.heap.push (.cells C 5 (C.size, C.size + 1)) }
    congr 1
    apply Array.ext_getElem?
    intro i
    simp only [Array.getElem?_modify, Array.getElem?_push]
    by_cases e : i = w.heap.size
    · subst e; simp
    · have e' : ¬ w.heap.size = i := fun h => e h.symm
      rw [if_neg e, if_neg e', if_neg e]
  simp [convert, run_underlying Tryd.underlying24, run_underlying Tryd.underlying5, markStringish, hsh, hfr]

set_option maxRecDepth 100000 in
set_option maxHeartbeats 800000 in
theorem awake_any (w : World) (ht : Lib.Utf8Tabs 0 1 w) (h2 : 2 ≤ w.heap.size) :
    Calls Tryd.prog 9 #[] w fun e w' => e = .returned (.bool true) ∧ Below w.heap.size w w' := by
  have HT : Hid (Lib.Utf8Tabs 0 1 w) := ht
  clear ht
  have hcv := conv_mark
  go_enter Tryd.func9, Tryd.ntmps9
  go_wp2_with (first | (go_at_call 11; refine (row2 w1 (tabs_below hb1 h2 HT.out) (Nat.le_trans h2 hb1.size)).mono ?_; rintro e w2 ⟨rfl, hb2⟩; have c12' := (hb2.cell (p := ⟨g, 12, none⟩) (block_lt_of_cell c12)).trans c12; have c9' := (hb2.cell (p := ⟨g, 9, none⟩) (block_lt_of_cell c9)).trans c9) | (go_at_call 11; refine (row1 w HT.out h2).mono ?_; rintro e w1 ⟨g, cap, rfl, c12, c9, hb1⟩))
  go_ret
  exact ⟨rfl, hb1.trans (hb2.mono hb1.size)⟩
end Go.Proofs.YtedhglphnmheiabDoor
