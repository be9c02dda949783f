/-
  What the call of stopOf does.
-/
import Derived.Test.YtgjpkpmikbpcnaaAsk
namespace Go.Proofs.Ytgjpkpmikbpcnaa
open Go.RowKit

set_option maxRecDepth 100000 in
set_option maxHeartbeats 3200000 in
theorem stopOf_pick {w : World} {x : PrbS} {p : Prb} (h : PrbV w x p) {k : Nat} (hk : k < p.ss.length) : Calls Try.prog 53 #[.agg (prbE p x), .agg #[.int .i64 2, .int .i64 k]] w fun e w' => ∃ y, e = .returned (.agg #[.int .i64 (p.ss.getD k hz).pick.place, .int .i64 (p.ss.getD k hz).pick.serv, y]) ∧ WinsV w' y (p.ss.getD k hz).pick.wins ∧ Below w.heap.size w w' := by
  have HB0 : Hid (∀ A B C, Below w.heap.size w (((w.alloc A).alloc B).alloc C)) := fun A B C => (((Below.refl _ _).alloc (Nat.le_refl _) A).alloc (by simp) B).alloc (by simp; omega) C
  obtain ⟨b, off, cc, x1, x2, xa, he, hb, hcs, hw1, hw2, _⟩ := shp_cells h.s hk
  obtain ⟨ya, yc, rfl⟩ := WinsV.shape hw1
  have HW := hide hw1
  obtain ⟨ta, tc, da, dc, va, vc, ja, jc, sa, sc, rfl⟩ := h.open
  simp only at he
  injection he with he1 he2 he3
  subst he1 he3
  clear he2
  have c0 : w.cell? ⟨b, off + k * 9, none⟩ = some (.int .i64 (p.ss.getD k hz).pick.place) := hcs 0 (by decide)
  have c1 : w.cell? ⟨b, off + k * 9 + 1, none⟩ = some (.int .i64 (p.ss.getD k hz).pick.serv) := hcs 1 (by decide)
  have c2 : w.cell? ⟨b, off + k * 9 + 2, none⟩ = some (.slice ya (p.ss.getD k hz).pick.wins.length yc) := hcs 2 (by decide)
  obtain ⟨ln, hln⟩ : ∃ q, p.ss.length = q := ⟨_, rfl⟩
  have hbd := SlV.bound h.s
  rw [hln] at hk hbd
  have i1 : (0 : Int) ≤ (k : Int) := by omega
  have i2 : (k : Int) < (ln : Int) := by omega
  generalize (p.ss.getD k hz).pick = st at *
  have n1 : ¬ b = w.heap.size := by omega
  have n2 : ¬ b = w.heap.size + 1 := by omega
  have n3 : ¬ b = w.heap.size + 1 + 1 := by omega
  have n4 : ¬ w.heap.size = b := by omega
  have n5 : b < w.heap.size + 1 := by omega
  have n6 : b < w.heap.size + 1 + 1 := by omega
  unfold prbE
  rw [hln]
  clear hcs h hln hw1 hw2
  go_enter Try.func53, Try.ntmps53
  go_wp2
  refine bodyPost_ret (v := .agg #[.int .i64 st.place, .int .i64 st.serv, .slice ya st.wins.length yc]) ?_ rfl ⟨_, rfl, HW.out.on (HB0.out _ _ _), HB0.out _ _ _⟩
  simp [results, Try.results53, go_sem]
set_option maxRecDepth 100000 in
set_option maxHeartbeats 3200000 in
theorem stopOf_deli {w : World} {x : PrbS} {p : Prb} (h : PrbV w x p) {k : Nat} (hk : k < p.ss.length) : Calls Try.prog 53 #[.agg (prbE p x), .agg #[.int .i64 3, .int .i64 k]] w fun e w' => ∃ y, e = .returned (.agg #[.int .i64 (p.ss.getD k hz).deli.place, .int .i64 (p.ss.getD k hz).deli.serv, y]) ∧ WinsV w' y (p.ss.getD k hz).deli.wins ∧ Below w.heap.size w w' := by
  have HB0 : Hid (∀ A B C, Below w.heap.size w (((w.alloc A).alloc B).alloc C)) := fun A B C => (((Below.refl _ _).alloc (Nat.le_refl _) A).alloc (by simp) B).alloc (by simp; omega) C
  obtain ⟨b, off, cc, x1, x2, xa, he, hb, hcs, hw1, hw2, _⟩ := shp_cells h.s hk
  obtain ⟨ya, yc, rfl⟩ := WinsV.shape hw2
  have HW := hide hw2
  obtain ⟨ta, tc, da, dc, va, vc, ja, jc, sa, sc, rfl⟩ := h.open
  simp only at he
  injection he with he1 he2 he3
  subst he1 he3
  clear he2
  have c0 : w.cell? ⟨b, off + k * 9 + 3, none⟩ = some (.int .i64 (p.ss.getD k hz).deli.place) := hcs 3 (by decide)
  have c1 : w.cell? ⟨b, off + k * 9 + 4, none⟩ = some (.int .i64 (p.ss.getD k hz).deli.serv) := hcs 4 (by decide)
  have c2 : w.cell? ⟨b, off + k * 9 + 5, none⟩ = some (.slice ya (p.ss.getD k hz).deli.wins.length yc) := hcs 5 (by decide)
  obtain ⟨ln, hln⟩ : ∃ q, p.ss.length = q := ⟨_, rfl⟩
  have hbd := SlV.bound h.s
  rw [hln] at hk hbd
  have i1 : (0 : Int) ≤ (k : Int) := by omega
  have i2 : (k : Int) < (ln : Int) := by omega
  generalize (p.ss.getD k hz).deli = st at *
  have n1 : ¬ b = w.heap.size := by omega
  have n2 : ¬ b = w.heap.size + 1 := by omega
  have n3 : ¬ b = w.heap.size + 1 + 1 := by omega
  have n4 : ¬ w.heap.size = b := by omega
  have n5 : b < w.heap.size + 1 := by omega
  have n6 : b < w.heap.size + 1 + 1 := by omega
  unfold prbE
  rw [hln]
  clear hcs h hln hw1 hw2
  go_enter Try.func53, Try.ntmps53
  go_wp2
  refine bodyPost_ret (v := .agg #[.int .i64 st.place, .int .i64 st.serv, .slice ya st.wins.length yc]) ?_ rfl ⟨_, rfl, HW.out.on (HB0.out _ _ _), HB0.out _ _ _⟩
  simp [results, Try.results53, go_sem]
set_option maxRecDepth 100000 in
set_option maxHeartbeats 3200000 in
theorem stopOf_job {w : World} {x : PrbS} {p : Prb} (h : PrbV w x p) {k : Nat} (hk : k < p.js.length) : Calls Try.prog 53 #[.agg (prbE p x), .agg #[.int .i64 1, .int .i64 k]] w fun e w' => ∃ y, e = .returned (.agg #[.int .i64 (p.js.getD k jz).stop.place, .int .i64 (p.js.getD k jz).stop.serv, y]) ∧ WinsV w' y (p.js.getD k jz).stop.wins ∧ Below w.heap.size w w' := by
  have HB0 : Hid (∀ A B C, Below w.heap.size w (((w.alloc A).alloc B).alloc C)) := fun A B C => (((Below.refl _ _).alloc (Nat.le_refl _) A).alloc (by simp) B).alloc (by simp; omega) C
  obtain ⟨b, off, cc, x1, x2, xa, he, hb, hcs, hw1, hw2, _⟩ := job_cells h.j hk
  obtain ⟨ya, yc, rfl⟩ := WinsV.shape hw1
  have HW := hide hw1
  obtain ⟨ta, tc, da, dc, va, vc, ja, jc, sa, sc, rfl⟩ := h.open
  simp only at he
  injection he with he1 he2 he3
  subst he1 he3
  clear he2
  have c0 : w.cell? ⟨b, off + k * 7, none⟩ = some (.int .i64 (p.js.getD k jz).stop.place) := hcs 0 (by decide)
  have c1 : w.cell? ⟨b, off + k * 7 + 1, none⟩ = some (.int .i64 (p.js.getD k jz).stop.serv) := hcs 1 (by decide)
  have c2 : w.cell? ⟨b, off + k * 7 + 2, none⟩ = some (.slice ya (p.js.getD k jz).stop.wins.length yc) := hcs 2 (by decide)
  obtain ⟨ln, hln⟩ : ∃ q, p.js.length = q := ⟨_, rfl⟩
  have hbd := SlV.bound h.j
  rw [hln] at hk hbd
  have i1 : (0 : Int) ≤ (k : Int) := by omega
  have i2 : (k : Int) < (ln : Int) := by omega
  generalize (p.js.getD k jz).stop = st at *
  have n1 : ¬ b = w.heap.size := by omega
  have n2 : ¬ b = w.heap.size + 1 := by omega
  have n3 : ¬ b = w.heap.size + 1 + 1 := by omega
  have n4 : ¬ w.heap.size = b := by omega
  have n5 : b < w.heap.size + 1 := by omega
  have n6 : b < w.heap.size + 1 + 1 := by omega
  unfold prbE
  rw [hln]
  clear hcs h hln hw1 hw2
  go_enter Try.func53, Try.ntmps53
  go_wp2
  refine bodyPost_ret (v := .agg #[.int .i64 st.place, .int .i64 st.serv, .slice ya st.wins.length yc]) ?_ rfl ⟨_, rfl, HW.out.on (HB0.out _ _ _), HB0.out _ _ _⟩
  simp [results, Try.results53, go_sem]
end Go.Proofs.Ytgjpkpmikbpcnaa
