/-
  slack.onward 37: how long it takes from the beginning of a step till one comes to the next one.
-/
import Derived.Deep.RegionHeld3
import Derived.BigRegion
import Derived.Test.YtndbikoccdjafaaASkQG
import Derived.Test.YtndbikoccdjafaaACHCallG
import Derived.Test.YtndbikoccdjafaaACLineG
import Derived.Test.YtndbikoccdjafaaACPlB
namespace Go.Proofs.Ytndbikoccdjafaa
open Go.RowKit
set_option maxRecDepth 100000 in
set_option maxHeartbeats 6400000 in
theorem onward_c {w : World} {x : PrbS} {p : Prb} {n c i : Nat} {a : Option Addr} {L : List StepT} {s t : StepT} (h : PrbV w x p) (hl : lawM p = true) (hR : StpC w a n L) (hs : L[i]? = some s) (ht : L[i + 1]? = some t) (hi : i + 1 < n) (hn : n ≤ 1000) (hb : -1000000000000 ≤ s.serv ∧ s.serv ≤ 1000000000000) (vi tm ds wt sv co : Int) : Calls Try.prog 37 #[.agg (prbE p x), .agg (planC vi (.slice a n c) tm ds wt sv co), .int .i64 i] w fun e w' => e = .returned (.int .i64 (s.serv + cellM p.time s.place t.place)) ∧ Below w.heap.size w w' := by
  have HP := hide h
  have HL := hide hl
  obtain ⟨ta, tc, da, dc, va, vc, ja, jc, sa, sc, rfl⟩ := h.open
  obtain ⟨g, y1, rfl, hg, c1⟩ := hR.2 i s hs
  obtain ⟨g2, y2, hg2, _, c2⟩ := hR.2 (i + 1) t ht
  injection hg2 with hg2
  injection hg2 with hg2
  subst hg2
  obtain ⟨sp, hsp⟩ : ∃ z, s.place = z := ⟨_, rfl⟩
  obtain ⟨tp, htp⟩ : ∃ z, t.place = z := ⟨_, rfl⟩
  obtain ⟨se, hse⟩ : ∃ z, s.serv = z := ⟨_, rfl⟩
  have d2 : w.cell? ⟨g, i * 9 + 2, none⟩ = some (.int .i64 sp) := by rw [← hsp]; exact c1 2 (by decide)
  have d5 : w.cell? ⟨g, i * 9 + 5, none⟩ = some (.int .i64 se) := by rw [← hse]; exact c1 5 (by decide)
  have e2 : w.cell? ⟨g, (i + 1) * 9 + 2, none⟩ = some (.int .i64 tp) := by rw [← htp]; exact c2 2 (by decide)
  rw [hsp, htp, hse]
  rw [hse] at hb
  have hc := (ways_ok hl).mt sp tp
  obtain ⟨cc, hcc⟩ : ∃ z, cellM p.time sp tp = z := ⟨_, rfl⟩
  have H60 : Hid (∀ W2, Below w.heap.size w W2 → Calls Try.prog 60 #[.agg #[.int .i64 p.time.n, .slice ta p.time.cells.length tc], .int .i64 sp, .int .i64 tp] W2 fun e w' => e = .returned (.int .i64 cc) ∧ Below W2.heap.size W2 w') := fun W2 hf => by
    have h9 := cell_any (HP.out.on hf).t (ways_ok HL.out).st sp tp
    rw [hcc] at h9
    exact h9
  rw [hcc] at hc ⊢
  clear h hl hR hs ht c1 c2 hsp htp hse hcc
  unfold prbE planC
  have i1 : (0 : Int) ≤ (i : Int) := by omega
  have i2 : (i : Int) < (n : Int) := by omega
  obtain ⟨j, hj⟩ : ∃ z, i + 1 = z := ⟨_, rfl⟩
  have i3 : IntKind.i64.wrap ((i : Int) + 1) = (j : Int) := by rw [IntKind.wrap_i64]; omega
  have i4 : (0 : Int) ≤ (j : Int) := by omega
  have i5 : (j : Int) < (n : Int) := by omega
  have i6 : IntKind.i64.wrap (se + cc) = se + cc := by rw [IntKind.wrap_i64]; omega
  rw [hj] at e2
  have hgn : ¬ g = w.heap.size := by omega
  have hgn1 : ¬ g = w.heap.size + 1 := by omega
  clear hj hi
  obtain ⟨W, hW⟩ : ∃ W, (w.alloc (.cells #[.int .i64 p.dims, .int .i64 p.time.n, .slice ta p.time.cells.length tc, .int .i64 p.dist.n, .slice da p.dist.cells.length dc, .slice va p.vs.length vc, .slice ja p.js.length jc, .slice sa p.ss.length sc] 29)).alloc (.cells #[.int .i64 vi, .slice (some ⟨g, 0, none⟩) n c, .int .i64 tm, .int .i64 ds, .int .i64 wt, .int .i64 sv, .int .i64 co] 34) = W := ⟨_, rfl⟩
  have HB : Hid (Below w.heap.size w W) := by show Below _ _ _; rw [← hW]; exact ((Below.refl _ _).alloc (Nat.le_refl _) _).alloc (by simp) _
  have HX1 : Hid (W.heap[w.heap.size]? = some (.cells #[.int .i64 p.dims, .int .i64 p.time.n, .slice ta p.time.cells.length tc, .int .i64 p.dist.n, .slice da p.dist.cells.length dc, .slice va p.vs.length vc, .slice ja p.js.length jc, .slice sa p.ss.length sc] 29 (0, 0))) := by
    show _ = _
    rw [← hW, heap_alloc_old _ _ (by simp)]
    exact new_block _ _
  have HX2 : Hid (W.heap[w.heap.size + 1]? = some (.cells #[.int .i64 vi, .slice (some ⟨g, 0, none⟩) n c, .int .i64 tm, .int .i64 ds, .int .i64 wt, .int .i64 sv, .int .i64 co] 34 (0, 0))) := by
    show _ = _
    rw [← hW]
    have h9 := new_block (w.alloc (.cells #[.int .i64 p.dims, .int .i64 p.time.n, .slice ta p.time.cells.length tc, .int .i64 p.dist.n, .slice da p.dist.cells.length dc, .slice va p.vs.length vc, .slice ja p.js.length jc, .slice sa p.ss.length sc] 29)) (.cells #[.int .i64 vi, .slice (some ⟨g, 0, none⟩) n c, .int .i64 tm, .int .i64 ds, .int .i64 wt, .int .i64 sv, .int .i64 co] 34)
    rw [show (w.alloc (.cells #[.int .i64 p.dims, .int .i64 p.time.n, .slice ta p.time.cells.length tc, .int .i64 p.dist.n, .slice da p.dist.cells.length dc, .slice va p.vs.length vc, .slice ja p.js.length jc, .slice sa p.ss.length sc] 29)).heap.size = w.heap.size + 1 from by simp] at h9
    exact h9
  have HS : Hid (∀ w', Below W.heap.size W w' → w'.cell? ⟨w.heap.size, 1, none⟩ = some (.int .i64 p.time.n) ∧ w'.cell? ⟨w.heap.size, 2, none⟩ = some (.slice ta p.time.cells.length tc) ∧ w'.cell? ⟨w.heap.size + 1, 1, none⟩ = some (.slice (some ⟨g, 0, none⟩) n c) ∧ w'.cell? ⟨g, i * 9 + 2, none⟩ = some (.int .i64 sp) ∧ w'.cell? ⟨g, i * 9 + 5, none⟩ = some (.int .i64 se) ∧ w'.cell? ⟨g, j * 9 + 2, none⟩ = some (.int .i64 tp)) := fun w' hf => ⟨((bcell hf).1 _ _ (lt_of_block HX1.out)).trans (cell_of_row _ _ _ _ _ _ HX1.out), ((bcell hf).1 _ _ (lt_of_block HX1.out)).trans (cell_of_row _ _ _ _ _ _ HX1.out), ((bcell hf).1 _ _ (lt_of_block HX2.out)).trans (cell_of_row _ _ _ _ _ _ HX2.out), ((bcell (below_on HB.out hf)).1 _ _ hg).trans d2, ((bcell (below_on HB.out hf)).1 _ _ hg).trans d5, ((bcell (below_on HB.out hf)).1 _ _ hg).trans e2⟩
  go_enter Try.func37, Try.ntmps37
  go_wp2
  obtain ⟨k1, k2, k3, k4, k5, k6⟩ := HS.out W (Below.refl _ _)
  first | (go_region_held3 (fun w' => w'.cell? ⟨w.heap.size, 1, none⟩ = some (.int .i64 p.time.n) ∧ w'.cell? ⟨w.heap.size, 2, none⟩ = some (.slice ta p.time.cells.length tc) ∧ w'.cell? ⟨w.heap.size + 1, 1, none⟩ = some (.slice (some ⟨g, 0, none⟩) n c) ∧ w'.cell? ⟨g, i * 9 + 2, none⟩ = some (.int .i64 sp) ∧ w'.cell? ⟨g, i * 9 + 5, none⟩ = some (.int .i64 se) ∧ w'.cell? ⟨g, j * 9 + 2, none⟩ = some (.int .i64 tp)) (go_keep) (first | (go_at_call 60; refine (H60.out _ (below_on HB.out (Below.refl _ _).drew)).mono ?_; rintro e w2 ⟨rfl, kk⟩; have K2 := hide (below_on (Below.refl W.heap.size W).drew kk); clear kk; obtain ⟨m1, m2, m3, m4, m5, m6⟩ := HS.out w2 K2.out) | fail)) | fail
  rename_i hHeld
  clear hHeld
  go_wp2
  go_ret
  exact ⟨rfl, below_on HB.out K2.out⟩
theorem onward_any {w : World} {x : PrbS} {p : Prb} {k n i : Nat} {a : Option Addr} {L : List StepT} {G : List Stg} (h : SlkV w x p k a n L G) (hi : i < G.length) (c : Nat) (tm ds wt sv co : Int) : ∃ s t, L[i]? = some s ∧ L[i + 1]? = some t ∧ Calls Try.prog 37 #[.agg (prbE p x), .agg (planC k (.slice a n c) tm ds wt sv co), .int .i64 i] w fun e w' => e = .returned (.int .i64 (s.serv + cellM p.time s.place t.place)) ∧ Below w.heap.size w w' := by
  obtain ⟨s, t, hs, ht, hG, h1, h2, _⟩ := h.rt.step i hi
  have hn := h.stp.1
  have hlen := h.rt.len
  have hhi := h.rt.high
  exact ⟨s, t, hs, ht, onward_c h.prb h.law h.stp hs ht (by omega) (by omega) (by omega) _ _ _ _ _ _⟩
end Go.Proofs.Ytndbikoccdjafaa
