/-
  Several texts in one: CVis CStpO.
-/
import Derived.Test.YtndbikoccdjafaaACAsk
namespace Go.Proofs.Ytndbikoccdjafaa
open Go.RowKit
/-- The task of a visit. -/
def ofM (k i : Int) : (Bool × Int) × Bool := if k = 1 then ((false, i), true) else if k = 2 then ((true, i), true) else if k = 3 then ((true, i), true) else ((false, 0), false)
def taskE (t : Bool × Int) : Value := .agg #[.bool t.1, .int .i64 t.2]
set_option maxRecDepth 100000 in
set_option maxHeartbeats 3200000 in
theorem of_any (w : World) (k i : Int) : Calls Try.prog 107 #[.agg #[.int .i64 k, .int .i64 i]] w fun e w' => e = .returned (.tuple #[taskE (ofM k i).1, .bool (ofM k i).2]) ∧ Below w.heap.size w w' := by
  have HB0 : Hid (∀ A B, Below w.heap.size w ((w.alloc A).alloc B)) := fun A B => ((Below.refl _ _).alloc (Nat.le_refl _) A).alloc (by simp) B
  unfold taskE ofM
  by_cases h1 : k = 1
  · subst h1
    rw [if_pos rfl]
    go_enter Try.func107, Try.ntmps107
    go_wp2
    refine bodyPost_ret (v := (.tuple #[.agg #[.bool false, .int .i64 i], .bool true])) ?_ rfl ⟨rfl, (by repeat (first | exact HB0.out _ _ | (refine Below.setCell ?_ (by simp) _) | refine Below.drew ?_))⟩
    simp [results, Try.results107, go_sem]
  · rw [if_neg h1]
    have e1 : (k == 1) = false := by simpa using h1
    by_cases h2 : k = 2
    · subst h2
      rw [if_pos rfl]
      clear h1 e1
      go_enter Try.func107, Try.ntmps107
      go_wp2
      refine bodyPost_ret (v := (.tuple #[.agg #[.bool true, .int .i64 i], .bool true])) ?_ rfl ⟨rfl, (by repeat (first | exact HB0.out _ _ | (refine Below.setCell ?_ (by simp) _) | refine Below.drew ?_))⟩
      simp [results, Try.results107, go_sem]
    · rw [if_neg h2]
      have e2 : (k == 2) = false := by simpa using h2
      by_cases h3 : k = 3
      · subst h3
        rw [if_pos rfl]
        clear h1 e1 h2 e2
        go_enter Try.func107, Try.ntmps107
        go_wp2
        refine bodyPost_ret (v := (.tuple #[.agg #[.bool true, .int .i64 i], .bool true])) ?_ rfl ⟨rfl, (by repeat (first | exact HB0.out _ _ | (refine Below.setCell ?_ (by simp) _) | refine Below.drew ?_))⟩
        simp [results, Try.results107, go_sem]
      · rw [if_neg h3]
        have e3 : (k == 3) = false := by simpa using h3
        go_enter Try.func107, Try.ntmps107
        go_wp2
        refine bodyPost_ret (v := (.tuple #[.agg #[.bool false, .int .i64 0], .bool false])) ?_ rfl ⟨rfl, (by repeat (first | exact HB0.out _ _ | (refine Below.setCell ?_ (by simp) _) | refine Below.drew ?_))⟩
        simp [results, Try.results107, go_sem]
set_option maxRecDepth 100000 in
set_option maxHeartbeats 3200000 in
theorem rof_any (w : World) (k i : Int) : Calls Try.prog 61 #[.agg #[.int .i64 k, .int .i64 i]] w fun e w' => e = .returned (.tuple #[taskE (ofM k i).1, .bool (ofM k i).2]) ∧ Below w.heap.size w w' := by
  have HB0 : Hid (∀ A B, Below w.heap.size w ((w.alloc A).alloc B)) := fun A B => ((Below.refl _ _).alloc (Nat.le_refl _) A).alloc (by simp) B
  unfold taskE ofM
  by_cases h1 : k = 1
  · subst h1
    rw [if_pos rfl]
    go_enter Try.func61, Try.ntmps61
    go_wp2
    refine bodyPost_ret (v := (.tuple #[.agg #[.bool false, .int .i64 i], .bool true])) ?_ rfl ⟨rfl, (by repeat (first | exact HB0.out _ _ | (refine Below.setCell ?_ (by simp) _) | refine Below.drew ?_))⟩
    simp [results, Try.results61, go_sem]
  · rw [if_neg h1]
    have e1 : (k == 1) = false := by simpa using h1
    by_cases h2 : k = 2
    · subst h2
      rw [if_pos rfl]
      clear h1 e1
      go_enter Try.func61, Try.ntmps61
      go_wp2
      refine bodyPost_ret (v := (.tuple #[.agg #[.bool true, .int .i64 i], .bool true])) ?_ rfl ⟨rfl, (by repeat (first | exact HB0.out _ _ | (refine Below.setCell ?_ (by simp) _) | refine Below.drew ?_))⟩
      simp [results, Try.results61, go_sem]
    · rw [if_neg h2]
      have e2 : (k == 2) = false := by simpa using h2
      by_cases h3 : k = 3
      · subst h3
        rw [if_pos rfl]
        clear h1 e1 h2 e2
        go_enter Try.func61, Try.ntmps61
        go_wp2
        refine bodyPost_ret (v := (.tuple #[.agg #[.bool true, .int .i64 i], .bool true])) ?_ rfl ⟨rfl, (by repeat (first | exact HB0.out _ _ | (refine Below.setCell ?_ (by simp) _) | refine Below.drew ?_))⟩
        simp [results, Try.results61, go_sem]
      · rw [if_neg h3]
        have e3 : (k == 3) = false := by simpa using h3
        go_enter Try.func61, Try.ntmps61
        go_wp2
        refine bodyPost_ret (v := (.tuple #[.agg #[.bool false, .int .i64 0], .bool false])) ?_ rfl ⟨rfl, (by repeat (first | exact HB0.out _ _ | (refine Below.setCell ?_ (by simp) _) | refine Below.drew ?_))⟩
        simp [results, Try.results61, go_sem]
end Go.Proofs.Ytndbikoccdjafaa
namespace Go.Proofs.Ytndbikoccdjafaa
open Go.RowKit
set_option maxRecDepth 100000 in
set_option maxHeartbeats 3200000 in
theorem stopOf_pick {w : World} {x : PrbS} {p : Prb} (h : PrbV w x p) {k : Nat} (hk : k < p.ss.length) : Calls Try.prog 113 #[.agg (prbE p x), .agg #[.int .i64 2, .int .i64 k]] w fun e w' => ∃ y, e = .returned (.agg #[.int .i64 (p.ss.getD k hz).pick.place, .int .i64 (p.ss.getD k hz).pick.serv, y]) ∧ WinsV w' y (p.ss.getD k hz).pick.wins ∧ Below w.heap.size w w' := by
  have HB0 : Hid (∀ A B C, Below w.heap.size w (((w.alloc A).alloc B).alloc C)) := fun A B C => (((Below.refl _ _).alloc (Nat.le_refl _) A).alloc (by simp) B).alloc (by simp; omega) C
  obtain ⟨b, off, cc, x1, x2, xa, he, hb, hcs, hw1, hw2, _⟩ := shp_cells h.s hk
  obtain ⟨ya, yc, rfl⟩ := WinsV.shape hw1
  have HW := hide hw1
  obtain ⟨ta, tc, da, dc, va, vc, ja, jc, sa, sc, rfl⟩ := h.open
  simp only at he
  injection he with he1 he2 he3
  subst he1 he3
  clear he2
  have c0 : w.cell? ⟨b, off + k * 9, none⟩ = some (.int .i64 (p.ss.getD k hz).pick.place) := hcs 0 (by decide)
  have c1 : w.cell? ⟨b, off + k * 9 + 1, none⟩ = some (.int .i64 (p.ss.getD k hz).pick.serv) := hcs 1 (by decide)
  have c2 : w.cell? ⟨b, off + k * 9 + 2, none⟩ = some (.slice ya (p.ss.getD k hz).pick.wins.length yc) := hcs 2 (by decide)
  obtain ⟨ln, hln⟩ : ∃ q, p.ss.length = q := ⟨_, rfl⟩
  have hbd := SlV.bound h.s
  rw [hln] at hk hbd
  have i1 : (0 : Int) ≤ (k : Int) := by omega
  have i2 : (k : Int) < (ln : Int) := by omega
  generalize (p.ss.getD k hz).pick = st at *
  have n1 : ¬ b = w.heap.size := by omega
  have n2 : ¬ b = w.heap.size + 1 := by omega
  have n3 : ¬ b = w.heap.size + 1 + 1 := by omega
  have n4 : ¬ w.heap.size = b := by omega
  have n5 : b < w.heap.size + 1 := by omega
  have n6 : b < w.heap.size + 1 + 1 := by omega
  unfold prbE
  rw [hln]
  clear hcs h hln hw1 hw2
  go_enter Try.func113, Try.ntmps113
  go_wp2
  refine bodyPost_ret (v := .agg #[.int .i64 st.place, .int .i64 st.serv, .slice ya st.wins.length yc]) ?_ rfl ⟨_, rfl, HW.out.on (HB0.out _ _ _), HB0.out _ _ _⟩
  simp [results, Try.results113, go_sem]
set_option maxRecDepth 100000 in
set_option maxHeartbeats 3200000 in
theorem stopOf_deli {w : World} {x : PrbS} {p : Prb} (h : PrbV w x p) {k : Nat} (hk : k < p.ss.length) : Calls Try.prog 113 #[.agg (prbE p x), .agg #[.int .i64 3, .int .i64 k]] w fun e w' => ∃ y, e = .returned (.agg #[.int .i64 (p.ss.getD k hz).deli.place, .int .i64 (p.ss.getD k hz).deli.serv, y]) ∧ WinsV w' y (p.ss.getD k hz).deli.wins ∧ Below w.heap.size w w' := by
  have HB0 : Hid (∀ A B C, Below w.heap.size w (((w.alloc A).alloc B).alloc C)) := fun A B C => (((Below.refl _ _).alloc (Nat.le_refl _) A).alloc (by simp) B).alloc (by simp; omega) C
  obtain ⟨b, off, cc, x1, x2, xa, he, hb, hcs, hw1, hw2, _⟩ := shp_cells h.s hk
  obtain ⟨ya, yc, rfl⟩ := WinsV.shape hw2
  have HW := hide hw2
  obtain ⟨ta, tc, da, dc, va, vc, ja, jc, sa, sc, rfl⟩ := h.open
  simp only at he
  injection he with he1 he2 he3
  subst he1 he3
  clear he2
  have c0 : w.cell? ⟨b, off + k * 9 + 3, none⟩ = some (.int .i64 (p.ss.getD k hz).deli.place) := hcs 3 (by decide)
  have c1 : w.cell? ⟨b, off + k * 9 + 4, none⟩ = some (.int .i64 (p.ss.getD k hz).deli.serv) := hcs 4 (by decide)
  have c2 : w.cell? ⟨b, off + k * 9 + 5, none⟩ = some (.slice ya (p.ss.getD k hz).deli.wins.length yc) := hcs 5 (by decide)
  obtain ⟨ln, hln⟩ : ∃ q, p.ss.length = q := ⟨_, rfl⟩
  have hbd := SlV.bound h.s
  rw [hln] at hk hbd
  have i1 : (0 : Int) ≤ (k : Int) := by omega
  have i2 : (k : Int) < (ln : Int) := by omega
  generalize (p.ss.getD k hz).deli = st at *
  have n1 : ¬ b = w.heap.size := by omega
  have n2 : ¬ b = w.heap.size + 1 := by omega
  have n3 : ¬ b = w.heap.size + 1 + 1 := by omega
  have n4 : ¬ w.heap.size = b := by omega
  have n5 : b < w.heap.size + 1 := by omega
  have n6 : b < w.heap.size + 1 + 1 := by omega
  unfold prbE
  rw [hln]
  clear hcs h hln hw1 hw2
  go_enter Try.func113, Try.ntmps113
  go_wp2
  refine bodyPost_ret (v := .agg #[.int .i64 st.place, .int .i64 st.serv, .slice ya st.wins.length yc]) ?_ rfl ⟨_, rfl, HW.out.on (HB0.out _ _ _), HB0.out _ _ _⟩
  simp [results, Try.results113, go_sem]
set_option maxRecDepth 100000 in
set_option maxHeartbeats 3200000 in
theorem stopOf_job {w : World} {x : PrbS} {p : Prb} (h : PrbV w x p) {k : Nat} (hk : k < p.js.length) : Calls Try.prog 113 #[.agg (prbE p x), .agg #[.int .i64 1, .int .i64 k]] w fun e w' => ∃ y, e = .returned (.agg #[.int .i64 (p.js.getD k jz).stop.place, .int .i64 (p.js.getD k jz).stop.serv, y]) ∧ WinsV w' y (p.js.getD k jz).stop.wins ∧ Below w.heap.size w w' := by
  have HB0 : Hid (∀ A B C, Below w.heap.size w (((w.alloc A).alloc B).alloc C)) := fun A B C => (((Below.refl _ _).alloc (Nat.le_refl _) A).alloc (by simp) B).alloc (by simp; omega) C
  obtain ⟨b, off, cc, x1, x2, xa, he, hb, hcs, hw1, hw2, _⟩ := job_cells h.j hk
  obtain ⟨ya, yc, rfl⟩ := WinsV.shape hw1
  have HW := hide hw1
  obtain ⟨ta, tc, da, dc, va, vc, ja, jc, sa, sc, rfl⟩ := h.open
  simp only at he
  injection he with he1 he2 he3
  subst he1 he3
  clear he2
  have c0 : w.cell? ⟨b, off + k * 7, none⟩ = some (.int .i64 (p.js.getD k jz).stop.place) := hcs 0 (by decide)
  have c1 : w.cell? ⟨b, off + k * 7 + 1, none⟩ = some (.int .i64 (p.js.getD k jz).stop.serv) := hcs 1 (by decide)
  have c2 : w.cell? ⟨b, off + k * 7 + 2, none⟩ = some (.slice ya (p.js.getD k jz).stop.wins.length yc) := hcs 2 (by decide)
  obtain ⟨ln, hln⟩ : ∃ q, p.js.length = q := ⟨_, rfl⟩
  have hbd := SlV.bound h.j
  rw [hln] at hk hbd
  have i1 : (0 : Int) ≤ (k : Int) := by omega
  have i2 : (k : Int) < (ln : Int) := by omega
  generalize (p.js.getD k jz).stop = st at *
  have n1 : ¬ b = w.heap.size := by omega
  have n2 : ¬ b = w.heap.size + 1 := by omega
  have n3 : ¬ b = w.heap.size + 1 + 1 := by omega
  have n4 : ¬ w.heap.size = b := by omega
  have n5 : b < w.heap.size + 1 := by omega
  have n6 : b < w.heap.size + 1 + 1 := by omega
  unfold prbE
  rw [hln]
  clear hcs h hln hw1 hw2
  go_enter Try.func113, Try.ntmps113
  go_wp2
  refine bodyPost_ret (v := .agg #[.int .i64 st.place, .int .i64 st.serv, .slice ya st.wins.length yc]) ?_ rfl ⟨_, rfl, HW.out.on (HB0.out _ _ _), HB0.out _ _ _⟩
  simp [results, Try.results113, go_sem]
end Go.Proofs.Ytndbikoccdjafaa
