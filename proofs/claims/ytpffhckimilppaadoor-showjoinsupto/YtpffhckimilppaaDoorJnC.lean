/-
  How the loop of ShowJoins begins, goes on and ends.
-/
import Derived.Test.YtpffhckimilppaaDoorJnB
import Derived.Test.YtpffhckimilppaaDoorPrintsL
namespace Go.Proofs.YtpffhckimilppaaDoor.Jn
open Go.RowKit
set_option maxRecDepth 100000

theorem inB_shift {n : Nat} {x : VI} (h : InB x) : InB (shiftV n x) := ⟨by have := h.bulk; unfold vb shiftV at *; simpa using this, h.num⟩
theorem inB_join {A B : List VI} (ha : ∀ x ∈ A, InB x) (hb : ∀ x ∈ B, InB x) : (∀ x ∈ A ++ B.map (shiftV A.length), InB x) ∧ ∀ x ∈ joinT A B, InB x := by
  have h1 : ∀ x ∈ A ++ B.map (shiftV A.length), InB x := fun x hx => by
    rcases List.mem_append.1 hx with h | h
    · exact ha x h
    · obtain ⟨y, hy, rfl⟩ := List.mem_map.1 h
      exact inB_shift (hb y hy)
  refine ⟨h1, fun x hx => ?_⟩
  unfold joinT at hx
  rcases List.mem_append.1 hx with h | h
  · exact h1 x h
  · simp at h; subst h; exact ⟨by simp [vb, nodeJ], by simp [nodeJ]⟩
theorem str_len (l : List UInt8) : (⟨l.toArray⟩ : ByteArray).size = l.length := by simp [ByteArray.size]
theorem str_app (a b : List UInt8) : (⟨a.toArray⟩ : ByteArray) ++ ⟨b.toArray⟩ = ⟨(a ++ b).toArray⟩ := by
  apply ByteArray.ext
  simp [ByteArray.data_append]
/-- What the loop leaves. -/
def Joined2 (w : World) (b3 : Nat) (A B : List VI) (tv : Value) (wr : World) : Prop := ∃ nvT kvT cs, wr.ownsRow b3 42 6 tv (A.length + B.length) cs ∧ Cel cs (A ++ B.map (shiftV A.length)) nvT kvT ∧ Rows2 wr (A ++ B.map (shiftV A.length)) nvT kvT ∧ Below w.heap.size w wr ∧ tv.ownBlock ≠ none
theorem js_done {w w3 : World} {b3 b4 Ra Rb capb : Nat} {A B : List VI} {nvA kvA nv kv : Nat → Value} {H G : Nat → Nat} {tv tvA : Value} {wr : World} {HA GA : Nat → Nat} (h : JS w w3 b3 b4 Ra Rb capb A nvA kvA nv kv H G (curB A.length B B.length) B.length tv wr) (hA : CT w3 b3 tvA A nvA kvA HA GA) (hb4 : b4 = w3.heap.size) (hRa : ∃ arr f, w3.heap[Ra]? = some (.cells arr 42 f)) : Joined2 w b3 A B tv wr := by
  obtain ⟨cs, h1, h2⟩ := h.tr
  have hr := h.rows hA hb4 hRa
  have e : (curB A.length B B.length).take B.length = B.map (shiftV A.length) := by rw [curB_all]; exact List.take_of_length_le (by simp)
  rw [e] at h2 hr
  exact ⟨_, _, cs, h1, h2, hr, h.below, h.owned⟩
/-- Where the loop begins. -/
theorem js_start {w w3 w4 : World} {b3 Ra capa Rb capb : Nat} {A B : List VI} {nvA kvA nv kv : Nat → Value} {HA GA H G : Nat → Nat} (h3 : Below w.heap.size w w3) (hA : CT w3 b3 (.slice (some ⟨Ra, 0, none⟩) A.length capa) A nvA kvA HA GA) (hb : Below w3.heap.size w3 w4) (hB : CT w4 w3.heap.size (.slice (some ⟨Rb, 0, none⟩) B.length capb) B nv kv H G) :
    JS w w3 b3 w3.heap.size Ra Rb capb A nvA kvA nv kv H G (curB A.length B 0) 0 (.slice (some ⟨Ra, 0, none⟩) A.length capa) w4 := by
  obtain ⟨cs, h1, h2⟩ := hA.row
  rw [curB_zero]
  refine ⟨below_on h3 hb, fun b hlt _ => hb.block b hlt, hB, ⟨cs, row_later h1 hb, ?_⟩, .inl rfl, hb.size⟩
  rw [List.take_zero, List.append_nil]
  intro k y hy j u hu
  have hk := (List.getElem?_eq_some_iff.1 hy).1
  unfold nvJ at hu
  rw [if_pos hk, if_pos hk] at hu
  exact h2 k y hy j u hu
/-- The cells of the next value, its names and kids. -/
theorem js_next {w w3 : World} {b3 b4 Ra Rb capb : Nat} {A C : List VI} {nvA kvA nv kv : Nat → Value} {H G : Nat → Nat} {i : Nat} {tv : Value} {wr : World} (h : JS w w3 b3 b4 Ra Rb capb A nvA kvA nv kv H G C i tv wr) {x : VI} {i0 : Nat} (hx : C[i0]? = some x) :
    ∃ na nc ka kc, nv i0 = .slice na x.names.length nc ∧ kv i0 = .slice ka x.kids.length kc ∧ (x.kids ≠ [] → ka = some ⟨G i0, 0, none⟩) ∧ x.kids.length ≤ 9223372036854775807 ∧
      wr.cell? ⟨Rb, i0 * 6, none⟩ = some (.int .i64 x.kind) ∧ wr.cell? ⟨Rb, i0 * 6 + 1, none⟩ = some (.bool x.truth) ∧ wr.cell? ⟨Rb, i0 * 6 + 2, none⟩ = some (.int .i64 x.num) ∧ wr.cell? ⟨Rb, i0 * 6 + 3, none⟩ = some (.string ⟨x.text.toArray⟩) ∧ wr.cell? ⟨Rb, i0 * 6 + 4, none⟩ = some (nv i0) ∧ wr.cell? ⟨Rb, i0 * 6 + 5, none⟩ = some (kv i0) := by
  obtain ⟨cs, h1, h2⟩ := h.bt.row
  obtain ⟨na, nc, en, _, _⟩ := h.bt.nms i0 x hx
  obtain ⟨ka, kc, ek, hkl, hk3⟩ := h.bt.kds i0 x hx
  rw [List.length_map] at en ek hkl
  have c := fun j u hu => h1.cells (g := Rb) rfl (i0 * 6 + j) u (h2 i0 x hx j u hu)
  have c0 := c 0 _ rfl
  have c1 := c 1 _ rfl
  have c2 := c 2 _ rfl
  have c3 := c 3 _ rfl
  have c4 := c 4 _ rfl
  have c5 := c 5 _ rfl
  rw [add0] at c0 c1 c2 c3 c4 c5
  exact ⟨na, nc, ka, kc, en, ek, fun hne => (hk3 (by simpa using hne)).1, hkl, c0, c1, c2, c3, c4, c5⟩
theorem js_kid {w w3 : World} {b3 b4 Ra Rb capb : Nat} {A C : List VI} {nvA kvA nv kv : Nat → Value} {H G : Nat → Nat} {i : Nat} {tv : Value} {wr : World} (h : JS w w3 b3 b4 Ra Rb capb A nvA kvA nv kv H G C i tv wr) {x : VI} {i0 j : Nat} {k : Int} (hx : C[i0]? = some x) (hj : x.kids[j]? = some k) :
    wr.cell? ⟨G i0, j, none⟩ = some (.int .i64 k) ∧ wr.frozen? ⟨G i0, j, none⟩ = false ∧ ∃ arr, wr.heap[G i0]? = some (.cells arr 3 (0, 0)) := by
  obtain ⟨ka, kc, ek, hkl, hk3⟩ := h.bt.kds i0 x hx
  obtain ⟨_, _, arr, hg, hcs⟩ := hk3 (by intro e; have e2 : x.kids = [] := by simpa using e
                                         rw [e2] at hj; simp at hj)
  refine ⟨?_, frozen_of_row wr (G i0) j _ _ hg, arr, hg⟩
  rw [cell_of_row _ (G i0) j _ _ _ hg]
  exact hcs j (intv k) (by rw [List.getElem?_map, hj]; rfl)
/-- The list's own value is put. -/
theorem put_last {w wr w8 : World} {b3 kb : Nat} {A B : List VI} {tv : Value} {p q : Int} (h : Joined2 w b3 A B tv wr) (hb : Below wr.heap.size wr w8) (hk : w8.heap[kb]? = some (.cells #[.int .i64 p, .int .i64 q] 3 (0, 0))) :
    ∃ cs, w8.ownsRow b3 42 6 tv (A.length + B.length) cs ∧ tv.ownBlock ≠ none ∧ ∀ (v' : Value) (w' : World), w'.ownsRow b3 42 6 v' (A.length + B.length + 1) (cs ++ aggI { kind := 5, kids := [p, q] } (.slice none 0 0) (.slice (some ⟨kb, 0, none⟩) 2 2)) → w'.ownsRow b3 42 6 tv (A.length + B.length) cs →
      (∀ b, b < w8.heap.size → some b ≠ tv.ownBlock → w'.heap[b]? = w8.heap[b]?) → TreeAt w' v' (A ++ B.map (shiftV A.length) ++ [{ kind := 5, kids := [p, q] }]) ∧ TreeAt w' tv (A ++ B.map (shiftV A.length)) := by
  obtain ⟨nvT, kvT, cs, h1, h2, h3, h4, h5⟩ := h
  have hl : (A ++ B.map (shiftV A.length)).length = A.length + B.length := by simp
  refine ⟨cs, row_later h1 hb, h5, fun v' w' k1 k2 k3 => ?_⟩
  exact node_put (n := A.length + B.length) (by rw [hl]; exact row_later h1 hb) h2 (h3.later hb) hk hl k1 k2 k3
theorem put_made {w8 : World} {base kb : Nat} {T : List VI} {v : Value} {p q : Int} (h : ∃ nv kv H G, CT w8 base v T nv kv H G) (hk : w8.heap[kb]? = some (.cells #[.int .i64 p, .int .i64 q] 3 (0, 0))) :
    ∃ cs, w8.ownsRow base 42 6 v T.length cs ∧ ∀ (v' : Value) (w' : World), w'.ownsRow base 42 6 v' (T.length + 1) (cs ++ aggI { kind := 5, kids := [p, q] } (.slice none 0 0) (.slice (some ⟨kb, 0, none⟩) 2 2)) → w'.ownsRow base 42 6 v T.length cs →
      (∀ b, b < w8.heap.size → some b ≠ v.ownBlock → w'.heap[b]? = w8.heap[b]?) → TreeAt w' v' (T ++ [{ kind := 5, kids := [p, q] }]) := by
  obtain ⟨nv, kv, H, G, hc⟩ := h
  obtain ⟨cs, h1, h2⟩ := hc.row
  exact ⟨cs, h1, fun v' w' k1 k2 k3 => (node_put h1 h2 hc.rows hk rfl k1 k2 k3).1⟩
end Go.Proofs.YtpffhckimilppaaDoor.Jn
