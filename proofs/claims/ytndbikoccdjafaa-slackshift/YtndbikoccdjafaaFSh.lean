/-
  A problem whose vehicle k ends its shift later: in memory, and the same way in it.
-/
import Derived.Test.YtndbikoccdjafaaBCPlBG
import Derived.Test.YtndbikoccdjafaaBCRSetG
import Derived.Test.YtndbikoccdjafaaBCCelG
import Derived.Test.YtndbikoccdjafaaBCCpX
import Derived.Test.YtndbikoccdjafaaBCRFt
import Derived.Test.YtndbikoccdjafaaBSkFG
import Derived.Test.YtndbikoccdjafaaBSkP
namespace Go.Proofs.Ytndbikoccdjafaa
open Go.RowKit
section
variable {cl8 cl9 : Int} {s : Stg} {S : List Stg} {t u : Int}
theorem lst_mono (h : okG (s :: S)) (htu : t ≤ u) (ht : (lstG s.1 t).2 = true) : (lstG s.1 u).2 = true ∧ (lstG s.1 t).1 ≤ (lstG s.1 u).1 := by
  refine (galG h _ u).1 ?_
  have := (galG h (lstG s.1 t).1 t).2 ⟨ht, Int.le_refl _⟩
  exact ⟨this.1, by omega⟩
theorem lat_shift (h : cl8 ≤ cl9) : ∀ {S : List Stg} {l : List Int}, okG S → latG cl8 S = some l → ∃ l', latG cl9 S = some l' ∧ ∀ i, i < l.length → l.getD i 0 ≤ l'.getD i 0
  | [], l, _, hl => by
    unfold latG at hl
    injection hl with hl
    subst hl
    refine ⟨[cl9], rfl, fun i hi => ?_⟩
    have : i = 0 := by simpa using hi
    subst this
    exact h
  | s :: r, l, ok, hl => by
    obtain ⟨m, h1, h2, rfl⟩ := lat_cons hl
    obtain ⟨m', k1, k2⟩ := lat_shift h ok.tail h1
    have hl0 := lat_len h1
    have h0 := k2 0 (by omega)
    have e : ∀ x : List Int, x.getD 0 0 = x.headD 0 := fun x => by cases x <;> rfl
    rw [e, e] at h0
    have hm := lst_mono ok (t := m.headD 0 - s.2) (u := m'.headD 0 - s.2) (by omega) h2
    refine ⟨(lstG s.1 (m'.headD 0 - s.2)).1 :: m', ?_, fun i hi => ?_⟩
    · unfold latG
      rw [k1]
      show (if _ then _ else _) = _
      rw [if_pos hm.1]
    · cases i with
      | zero => exact hm.2
      | succ i => exact k2 i (by simpa using hi)
end
theorem set_cell {w : World} {g n j t : Nat} {A : Array Value} {v : Value} (h : w.heap[g]? = some (.cells A t (0, 0))) (hn : n < A.size) : (w.setCell ⟨g, n, none⟩ v).cell? ⟨g, j, none⟩ = if n = j then some v else w.cell? ⟨g, j, none⟩ := by
  rw [cell_of_row _ _ _ _ _ _ (heap_setCell_same w g n _ _ v h), cell_of_row _ _ _ _ _ _ h, Array.getElem?_setIfInBounds]
  by_cases e : n = j
  · rw [if_pos e, if_pos e, if_pos hn]
  · rw [if_neg e, if_neg e]
theorem cpf_v {w : World} {base gv gj gs : Nat} {p : Prb} {x : PrbS} (hF : CpF w base gv gj gs p x) (hn : 0 < p.vs.length) : (∃ c, x.v = .slice (some ⟨gv, 0, none⟩) p.vs.length c) ∧ base ≤ gv ∧ gv < w.heap.size ∧ ∀ j, w.frozen? ⟨gv, j, none⟩ = false := by
  obtain ⟨R, h1, h2, h3, h4, h5⟩ := hF.v
  have hlt := h1.lt gv hF.ev
  rcases h1.2 with ⟨_, e⟩ | ⟨g, cap, cur, e, a, hb, _⟩
  · omega
  · have hg : g = gv := by
      have := hF.ev
      rw [e] at this
      exact own_blk this
    subst hg
    exact ⟨⟨cap, e⟩, hlt.1, hlt.2, fun j => frozen_of_row w g j _ _ hb⟩
theorem copy_any {w : World} {x : PrbS} {p : Prb} (h : PrbV w x p) (hn : 0 < p.vs.length) : Calls Try.prog 14 #[.agg (prbE p x)] w fun e w' => ∃ ta tc da dc gv cv ja jc sa sc gj gs, e = .returned (.agg (prbE p ⟨.slice ta p.time.cells.length tc, .slice da p.dist.cells.length dc, .slice (some ⟨gv, 0, none⟩) p.vs.length cv, .slice ja p.js.length jc, .slice sa p.ss.length sc⟩)) ∧ (CpF w' (w.heap.size + 2) gv gj gs p ⟨.slice ta p.time.cells.length tc, .slice da p.dist.cells.length dc, .slice (some ⟨gv, 0, none⟩) p.vs.length cv, .slice ja p.js.length jc, .slice sa p.ss.length sc⟩ ∧ w.heap.size + 2 ≤ gv ∧ gv < w'.heap.size ∧ ∀ j, w'.frozen? ⟨gv, j, none⟩ = false) ∧ Below w.heap.size w w' := by
  refine (copied_any h).mono ?_
  rintro e w' ⟨x', rfl, ⟨gv, gj, gs, hF⟩, k9⟩
  obtain ⟨⟨cv, hv⟩, h1, h2, h3⟩ := cpf_v hF hn
  obtain ⟨ta, tc, da, dc, va, vc, ja, jc, sa, sc, rfl⟩ := hF.prb.open
  simp only at hv
  injection hv with e1 _ e3
  subst e1 e3
  exact ⟨ta, tc, da, dc, gv, _, ja, jc, sa, sc, gj, gs, rfl, ⟨hF, h1, h2, h3⟩, k9⟩
theorem umod_hundred (x : Int) : ∃ r : Nat, (IntKind.u64.wrap x).tmod 100 = r ∧ r < 100 := by
  have h0 : 0 ≤ IntKind.u64.wrap x := by rw [IntKind.wrap_u64]; omega
  have h1 := Int.tmod_lt_of_pos (IntKind.u64.wrap x) (show (0 : Int) < 100 by decide)
  have h2 := Int.tmod_nonneg 100 h0
  exact ⟨((IntKind.u64.wrap x).tmod 100).toNat, by omega, by omega⟩
def endV (v : Veh) (y : Int) : Veh := ⟨v.start, v.stop, v.cap, v.skills, (v.shift.1, y), v.fixed, v.perT, v.perD, v.maxT, v.brks⟩
/-- The problem whose vehicle k ends its shift at y. -/
def endP (p : Prb) (k : Nat) (y : Int) : Prb := ⟨p.dims, p.time, p.dist, p.vs.set k (endV (p.vs.getD k vz) y), p.js, p.ss⟩
theorem end_veh {p : Prb} {k : Nat} {y : Int} (hk : k < p.vs.length) : (endP p k y).vs.getD k vz = endV (p.vs.getD k vz) y := by
  unfold endP
  rw [List.getD_eq_getElem?_getD, List.getElem?_set_self hk]
  rfl
theorem rout_end {p : Prb} {k : Nat} {y : Int} {L : List StepT} {G : List Stg} (hk : k < p.vs.length) (R : Rout p k L G) : Rout (endP p k y) k L G := by
  refine ⟨R.len, R.low, R.high, R.ok, fun i hi => ?_⟩
  rw [end_veh hk]
  exact R.step i hi
theorem lat_more {cl mr : Int} {G : List Stg} {l : List Int} (ok : okG G) (h : latG cl G = some l) (hm : 0 ≤ mr) : ∃ l2, latG (cl + mr) G = some l2 ∧ l2.length = l.length ∧ (∀ i, i < l.length → l.getD i 0 ≤ l2.getD i 0) ∧ l.getD G.length 0 = cl ∧ l2.getD G.length 0 = cl + mr := by
  obtain ⟨l2, h2, h3⟩ := lat_shift (show cl ≤ cl + mr by omega) ok h
  exact ⟨l2, h2, by rw [lat_len h2, lat_len h], h3, lat_last h, lat_last h2⟩
theorem shift_close {w3 : World} {base gv gj gs k c : Nat} {y : Int} {p : Prb} {x : PrbS} (hF : CpF w3 base gv gj gs p x) (hk : k < p.vs.length) (hv : x.v = .slice (some ⟨gv, 0, none⟩) p.vs.length c) : PrbV (w3.setCell ⟨gv, k * 11 + 5, none⟩ (.int .i64 y)) x (endP p k y) := by
  obtain ⟨w', hw'⟩ : ∃ w', w3.setCell ⟨gv, k * 11 + 5, none⟩ (.int .i64 y) = w' := ⟨_, rfl⟩
  have hg : w3.grownBy w' (some gv) := by rw [← hw']; exact grw_set (grw_refl _ _) _ _
  have kp : Kp w3 w' base (G3 gv gj gs) (G3 gv gj gs) := fun b hb _ hl => ⟨hg.block b hl (fun e => by injection e with e; exact hb (.inl e)), hb⟩
  have kj : Kp w3 w' base (fun b => G3 gv gj gs b ∧ b ≠ gj) (fun b => G3 gv gj gs b ∧ b ≠ gj) := fun b hb _ hl => ⟨hg.block b hl (fun e => by injection e with e; exact hb ⟨.inl e, fun e2 => hF.vj (e.symm.trans e2)⟩), hb⟩
  have ks : Kp w3 w' base (fun b => G3 gv gj gs b ∧ b ≠ gs) (fun b => G3 gv gj gs b ∧ b ≠ gs) := fun b hb _ hl => ⟨hg.block b hl (fun e => by injection e with e; exact hb ⟨.inl e, fun e2 => hF.vs (e.symm.trans e2)⟩), hb⟩
  rw [hw']
  refine ⟨(hF.t.kp kp).read, (hF.d.kp kp).read, ?_, ?_, ?_⟩
  · have hS : SlV 11 120 vz (fun _ l a => OVeh w3 w3 base (G3 gv gj gs) (G3 gv gj gs) a.brks.length l a) w3 x.v p.vs := hF.v.read fun k l a ha hp => hp
    obtain ⟨R, h1, h2, h3, h4, h5⟩ := hF.v
    obtain ⟨cur, t, hcur⟩ : ∃ cur t, w3.heap[gv]? = some (.cells cur t (0, 0)) := by
      rcases h1.2 with ⟨e, _⟩ | ⟨g, cap, cur, e, a, hb, _⟩
      · rw [hv] at e; cases e
      · rw [hv] at e
        injection e with e1 e2 e3
        injection e1 with e1
        injection e1 with e1
        subst e1
        exact ⟨_, _, hb⟩
    obtain ⟨a0, c0, e0, f0, f1, f2⟩ := hS
    have ea : a0 = some ⟨gv, 0, none⟩ := by rw [hv] at e0; injection e0 with e1; exact e1.symm
    have hsz : k * 11 + 5 < cur.size := by
      obtain ⟨b, off, l, e1, e2, e3, _⟩ := f2 k hk
      rw [ea] at e1
      injection e1 with e1
      injection e1 with e1 e4
      subst e1 e4
      have h9 := e3 5 (by decide)
      rw [cell_of_row _ _ _ _ _ _ hcur] at h9
      have h8 : l[5]? = some (l[5]'(by omega)) := List.getElem?_eq_getElem (by omega)
      rw [h8] at h9
      have := (Array.getElem?_eq_some_iff.1 h9).1
      omega
    refine ⟨some ⟨gv, 0, none⟩, c, (by rw [hv]; unfold endP; rw [List.length_set]), (fun e => by cases e), (by unfold endP; rw [List.length_set]; exact f1), fun i hi => ?_⟩
    have hi' : i < p.vs.length := by unfold endP at hi; simpa using hi
    obtain ⟨b, off, l, e1, e2, e3, hO⟩ := f2 i hi'
    rw [ea] at e1
    injection e1 with e1
    injection e1 with e1 e4
    subst e1 e4
    obtain ⟨xc, xb, e5, q1, q2, q3⟩ := VehV.of_o (hO.kp kp)
    by_cases hik : i = k
    · subst hik
      refine ⟨gv, 0, vehE (endV (p.vs.getD i vz) y) xc xb, rfl, rfl, fun j hj => ?_, ?_⟩
      · rw [← hw', set_cell hcur hsz]
        by_cases h4 : j = 5
        · subst h4
          rw [if_pos (by omega)]
          rfl
        · rw [if_neg (by omega), e3 j hj, e5]
          have hj' : j = 0 ∨ j = 1 ∨ j = 2 ∨ j = 3 ∨ j = 4 ∨ j = 6 ∨ j = 7 ∨ j = 8 ∨ j = 9 ∨ j = 10 := by omega
          rcases hj' with rfl | rfl | rfl | rfl | rfl | rfl | rfl | rfl | rfl | rfl <;> rfl
      · rw [end_veh hi']
        exact ⟨xc, xb, rfl, q1, q2, q3⟩
    · have hge : (endP p k y).vs.getD i vz = p.vs.getD i vz := by
        unfold endP
        rw [List.getD_eq_getElem?_getD, List.getElem?_set_ne (by omega), List.getD_eq_getElem?_getD]
      refine ⟨gv, 0, l, rfl, e2, fun j hj => ?_, ?_⟩
      · rw [← hw', set_cell hcur hsz, if_neg (by omega)]
        exact e3 j hj
      · rw [hge]
        exact ⟨xc, xb, e5, q1, q2, q3⟩
  · exact (hF.j.kp kj fun k l a h => h.kp kp).read fun k l a ha hp => by
      obtain ⟨a, b, c, e, h1, h2, h3, h4⟩ := hp
      exact ⟨a, b, c, e, h1.read, h2.read, h3.read, h4⟩
  · exact (hF.s.kp ks fun k l a h => h.kp kp).read fun k l a ha hp => by
      obtain ⟨a, b, c, e, h1, h2, h3, h4⟩ := hp
      exact ⟨a, b, c, e, h1.read, h2.read, h3.read, h4⟩
theorem cpf_cell5 {w : World} {base gv gj gs k c : Nat} {p : Prb} {x : PrbS} (hF : CpF w base gv gj gs p x) (hk : k < p.vs.length) (hv : x.v = .slice (some ⟨gv, 0, none⟩) p.vs.length c) : w.cell? ⟨gv, k * 11 + 5, none⟩ = some (.int .i64 (p.vs.getD k vz).shift.2) := by
  obtain ⟨b, off, c2, xc, xb, he, hb, hcs, _, _⟩ := veh_cells hF.prb.v hk
  rw [hv] at he
  injection he with e1 _ _
  injection e1 with e1
  injection e1 with e1 e4
  subst e1 e4
  have := hcs 5 (by decide)
  rw [Nat.zero_add] at this
  exact this
end Go.Proofs.Ytndbikoccdjafaa
