/-
  The document's queue in memory; what the calls of its find and Key do.
-/
import Derived.Test.YtbgolkkfpajkdaaTwo
namespace Go.Proofs.Ytbgolkkfpajkdaa
open Go.RowKit Go.Maps

/-- A row of entries. -/
def RowE (w : World) (v : Value) (L : List Pr) : Prop := w.ownsRow 0 52 2 v L.length (flat L)
section
variable {w w' : World} {v : Value} {L : List Pr}
theorem RowE.of_block (h : RowE w v L) (e : ∀ g, v.ownBlock = some g → w'.heap[g]? = w.heap[g]?) : RowE w' v L := by
  obtain ⟨h1, h2⟩ := h
  refine ⟨h1, ?_⟩
  rcases h2 with h2 | ⟨g, cap, cur, rfl, a, hb, r⟩
  · exact .inl h2
  · exact .inr ⟨g, cap, cur, rfl, a, (e g rfl).trans hb, r⟩
theorem RowE.nonempty (h : RowE w v L) (hl : 0 < L.length) : ∃ g cap, v = .slice (some ⟨g, 0, none⟩) L.length cap ∧ L.length ≤ cap ∧ cap ≤ 9223372036854775807 := by
  rcases h.2 with ⟨_, h2⟩ | ⟨g, cap, cur, rfl, _, _, h3, h4, _⟩
  · omega
  · exact ⟨g, cap, rfl, h3, by unfold maxLen at h4; omega⟩
theorem RowE.shape (h : RowE w v L) : ∃ a cap, v = .slice a L.length cap ∧ L.length ≤ cap ∧ cap ≤ 9223372036854775807 := by
  rcases h.2 with ⟨rfl, h2⟩ | ⟨g, cap, cur, rfl, _, _, h3, h4, _⟩
  · exact ⟨none, 0, by rw [h2], by omega, by omega⟩
  · exact ⟨_, cap, rfl, h3, by unfold maxLen at h4; omega⟩
theorem RowE.cells {g n cap : Nat} (h : RowE w (.slice (some ⟨g, 0, none⟩) n cap) L) (i : Nat) (hi : i < L.length) :
    w.cell? ⟨g, i * 2, none⟩ = some (.int .i64 (at' L i).1) ∧ w.cell? ⟨g, i * 2 + 1, none⟩ = some (.int .i64 (at' L i).2) := by
  have h1 : ∀ j u, (flat L)[j]? = some u → w.cell? ((⟨g, 0, none⟩ : Addr).add j) = some u := World.ownsRow.cells (g := g) h rfl
  have h2 := flat_get L i hi
  have a := h1 _ _ h2.1
  have b := h1 _ _ h2.2
  rw [add0] at a b
  exact ⟨a, b⟩
theorem RowE.blk {g n cap : Nat} (h : RowE w (.slice (some ⟨g, 0, none⟩) n cap) L) : ∃ cur, w.heap[g]? = some (.cells cur 52 (0, 0)) := by
  rcases h.2 with ⟨h2, _⟩ | ⟨g2, cap2, cur, e, _, hb, _⟩
  · cases h2
  · cases e; exact ⟨cur, hb⟩
end
/-- The document's queue: at r, with just X. -/
structure RAt (r : Nat) (X : List Pr) (w : World) (T : Nat → Prop) : Prop where
  ex : ∃ v, w.heap[r]? = some (.cells #[v] 29 (0, 0)) ∧ RowE w v X ∧ (∀ g, v.ownBlock = some g → T g)
  tr : T r
theorem keeps_ref (r : Nat) (X : List Pr) : Keeps (RAt r X) := by
  rintro w w' S T ⟨⟨v, h1, h2, h3⟩, h4⟩ f hlt hd
  exact ⟨⟨v, (f.block r (hlt r h4) (hd r h4)).trans h1, h2.of_block (fun g e => f.block g (hlt g (h3 g e)) (hd g (h3 g e))), h3⟩, h4⟩
section
variable {w w' : World} {r : Nat} {X : List Pr} {T : Nat → Prop}
/-- Where an item stands. -/
def findM (X : List Pr) (x : Int) : Int := if X.findIdx (fun p => decide (p.1 = x)) < X.length then (X.findIdx (fun p => decide (p.1 = x)) : Int) else -1

set_option maxRecDepth 100000 in
set_option maxHeartbeats 800000 in
theorem find_any (h : RAt r X w T) (hl : X.length ≤ 4096) (x : Int) : Calls Try.prog 21 #[.pointer (some ⟨r, 0, none⟩), .int .i64 x] w fun e w' => e = .returned (.int .i64 (findM X x)) ∧ w' = w := by
  obtain ⟨v, h1, h2, _⟩ := h.ex
  have c0 := cell_of_row w r 0 _ _ _ h1
  simp only [List.getElem?_toArray, List.getElem?_cons_zero] at c0
  obtain ⟨a, cap, rfl, hc1, hc2⟩ := h2.shape
  have HR := hide h2
  clear h h1 h2
  go_enter Try.func21, Try.ntmps21
  go_wp2
  go_loop [5] (fun i => ∃ k : Nat, i = .int .i64 k ∧ k ≤ X.length ∧ ∀ j, j < k → (at' X j).1 ≠ x) (fun i => X.length - (intOf i).toNat)
  case atStart => exact ⟨0, rfl, Nat.zero_le _, fun j hj => by omega⟩
  case round =>
    obtain ⟨k, rfl, hk, hn⟩ := hrel
    have HN := hide hn
    clear hn
    by_cases hlt : k < X.length
    · obtain ⟨g, cap2, e, _, _⟩ := HR.out.nonempty (by omega)
      cases e
      obtain ⟨a0, _⟩ := HR.out.cells k hlt
      obtain ⟨y, hy⟩ : ∃ y, (at' X k).1 = y := ⟨_, rfl⟩
      rw [hy] at a0
      have i1 : (k : Int) < (X.length : Int) := by omega
      by_cases hxy : y = x
      · have HE : Hid (findM X x = (k : Int)) := by
          show _ = _
          have hp : ∀ j (hj : j < X.length), X[j] = at' X j := fun j hj => by simp [at', List.getD_eq_getElem?_getD, hj]
          have h3 : X.findIdx (fun p => decide (p.1 = x)) = k := by
            rw [List.findIdx_eq hlt]
            refine ⟨by rw [hp k hlt]; simp [hy, hxy], fun j hj => ?_⟩
            rw [hp j (by omega)]
            simpa using HN.out j hj
          unfold findM
          rw [h3, if_pos hlt]
        subst hxy
        go_wp2
        go_ret
        exact ⟨by rw [HE.out]; rfl, rfl⟩
      · have hxy' : (y == x) = false := by simpa using hxy
        have HN2 : Hid (∀ j, j < k + 1 → (at' X j).1 ≠ x) := fun j hj => by
          by_cases e : j = k
          · subst e; rw [hy]; exact hxy
          · exact HN.out j (by omega)
        clear hxy hy
        go_wp2
        go_round
        case rel => exact ⟨k + 1, by go_num, by omega, HN2.out⟩
        case measure => simp [intOf]; omega
    · have HE : Hid (findM X x = -1) := by
        show _ = _
        have h3 : X.findIdx (fun p => decide (p.1 = x)) = X.length := by
          rw [List.findIdx_eq_length]
          intro p hp
          obtain ⟨j, hj, rfl⟩ := mem_at.1 hp
          simpa using HN.out j (by omega)
        unfold findM
        rw [h3, if_neg (by omega)]
      go_wp2
      go_ret
      exact ⟨by rw [HE.out]; rfl, rfl⟩
theorem find_look (X : List Pr) (x : Int) : (look X x = none ∧ findM X x = -1) ∨ (∃ i, i < X.length ∧ (at' X i).1 = x ∧ look X x = some (at' X i) ∧ findM X x = (i : Int) ∧ X.findIdx (fun p => decide (p.1 = x)) = i) := by
  by_cases h : X.findIdx (fun p => decide (p.1 = x)) < X.length
  · refine .inr ⟨_, h, ?_, ?_, ?_, rfl⟩
    · have := List.findIdx_getElem (w := h)
      have e : at' X (X.findIdx (fun p => decide (p.1 = x))) = X[X.findIdx (fun p => decide (p.1 = x))] := by simp [at', List.getD_eq_getElem?_getD, h]
      rw [e]
      simpa using this
    · unfold look
      rw [List.find?_eq_getElem?_findIdx, at_get h]
    · unfold findM; rw [if_pos h]
  · refine .inl ⟨?_, by unfold findM; rw [if_neg h]⟩
    rw [look_none]
    have h3 : X.findIdx (fun p => decide (p.1 = x)) = X.length := Nat.le_antisymm List.findIdx_le_length (by omega)
    rw [List.findIdx_eq_length] at h3
    intro p hp
    simpa using h3 p hp

theorem rkey_any (h : RAt r X w T) (hl : X.length ≤ 4096) (x : Int) : Calls Try.prog 15 #[.pointer (some ⟨r, 0, none⟩), .int .i64 x] w fun e w' => e = .returned (.tuple #[.int .i64 (keyM X x).1, .bool (keyM X x).2]) ∧ w' = w := by
  have HF := find_any h hl x
  rcases find_look X x with ⟨e1, e2⟩ | ⟨i, hi, e1, e2, e3, _⟩
  · have hk : keyM X x = (0, false) := by unfold keyM; rw [e1]
    rw [e2] at HF
    replace HF := hide HF
    rw [hk]
    clear h
    go_enter Try.func15, Try.ntmps15
    go_wp2_with (go_at_call 21; refine HF.out.mono ?_; rintro e w2 ⟨rfl, rfl⟩)
    go_ret2
    exact ⟨rfl, rfl⟩
  · have hk : keyM X x = ((at' X i).2, true) := by unfold keyM; rw [e2]
    rw [e3] at HF
    replace HF := hide HF
    rw [hk]
    obtain ⟨v, h1, h2, _⟩ := h.ex
    have c0 := cell_of_row w r 0 _ _ _ h1
    simp only [List.getElem?_toArray, List.getElem?_cons_zero] at c0
    obtain ⟨g, cap, rfl, hc1, hc2⟩ := h2.nonempty (by omega)
    obtain ⟨_, a1⟩ := h2.cells i hi
    obtain ⟨z, hz⟩ : ∃ z, (at' X i).2 = z := ⟨_, rfl⟩
    rw [hz] at a1 ⊢
    have i1 : (i : Int) < (X.length : Int) := by omega
    clear h h1 h2 e1 e2 e3 hz hk
    go_enter Try.func15, Try.ntmps15
    go_wp2_with (go_at_call 21; refine HF.out.mono ?_; rintro e w2 ⟨rfl, rfl⟩)
    go_ret2
    exact ⟨rfl, rfl⟩
end
end Go.Proofs.Ytbgolkkfpajkdaa
