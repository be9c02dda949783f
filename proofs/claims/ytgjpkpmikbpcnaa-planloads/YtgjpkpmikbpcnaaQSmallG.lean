/-
  Several texts in one: Small MatW ChkM Ask.
-/
import Derived.Test.YtgjpkpmikbpcnaaQChkA
namespace Go.Proofs.Ytgjpkpmikbpcnaa
open Go.RowKit
set_option maxHeartbeats 800000 in
theorem below_any (x m : Int) (w : World) : Calls Try.prog 58 #[.int .i64 x, .int .i64 m] w fun e w' => e = .returned (.bool (upB x (m - 1))) ∧ w' = w := by
  by_cases h1 : 0 ≤ x
  · by_cases h2 : x < m
    · rw [upB_yes h1 (by omega)]
      go_enter Try.func58, Try.ntmps58
      go_wp2
      go_ret
      exact ⟨rfl, rfl⟩
    · rw [upB_hi (by omega)]
      go_enter Try.func58, Try.ntmps58
      go_wp2
      go_ret
      exact ⟨rfl, rfl⟩
  · rw [upB_lo h1]
    go_enter Try.func58, Try.ntmps58
    go_wp2
    go_ret
    exact ⟨rfl, rfl⟩
set_option maxHeartbeats 800000 in
theorem up_any (x m : Int) (w : World) : Calls Try.prog 59 #[.int .i64 x, .int .i64 m] w fun e w' => e = .returned (.bool (upB x m)) ∧ w' = w := by
  by_cases h1 : 0 ≤ x
  · by_cases h2 : x ≤ m
    · rw [upB_yes h1 h2]
      go_enter Try.func59, Try.ntmps59
      go_wp2
      go_ret
      exact ⟨rfl, rfl⟩
    · rw [upB_hi h2]
      go_enter Try.func59, Try.ntmps59
      go_wp2
      go_ret
      exact ⟨rfl, rfl⟩
  · rw [upB_lo h1]
    go_enter Try.func59, Try.ntmps59
    go_wp2
    go_ret
    exact ⟨rfl, rfl⟩
set_option maxHeartbeats 800000 in
theorem rwins_any {w : World} {v : Value} {L : List Win} (h : WinsV w v L) : Calls Try.prog 118 #[v] w fun e w' => e = .returned (.bool (winB L)) ∧ Below w.heap.size w w' := by
  obtain ⟨a, c, rfl, _, hA⟩ := h
  obtain ⟨y, hy⟩ : ∃ y, (chk L).1 = y := ⟨_, rfl⟩
  obtain ⟨z, hz⟩ : ∃ z, (chk L).2 = z := ⟨_, rfl⟩
  have HC := hide (rwindows_any (c := c) hA)
  rw [hy, hz] at HC
  unfold winB
  rw [hz]
  have hd : (z == 0) = decide (z = 0) := by by_cases e : z = 0 <;> simp [e]
  clear hA hy hz
  go_enter Try.func118, Try.ntmps118
  go_wp2_with (go_at_call 132; refine HC.out.mono ?_; rintro e w' ⟨rfl, q, hb⟩; have HB := hide hb; clear hb)
  go_ret
  exact ⟨rfl, by rw [HB.out]; exact below_drewN (Below.refl _ _) q⟩
end Go.Proofs.Ytgjpkpmikbpcnaa
namespace Go.Proofs.Ytgjpkpmikbpcnaa
open Go.RowKit
/-- From cell k on. -/
def celF (n : Int) (L : List Int) (k : Nat) : Bool := (List.range' k (L.length - k)).all (fun i => celB n i L[i]!)
theorem celF_all (n : Int) (L : List Int) : (List.range L.length).all (fun i => celB n i L[i]!) = celF n L 0 := by unfold celF; rw [List.range_eq_range', Nat.sub_zero]
theorem celF_step (n : Int) (L : List Int) (k : Nat) (h : k < L.length) : celF n L k = (celB n k L[k]! && celF n L (k + 1)) := by
  unfold celF
  rw [show L.length - k = (L.length - (k + 1)) + 1 by omega, List.range'_succ]
  rfl
theorem celF_end (n : Int) (L : List Int) (k : Nat) (h : ¬ k < L.length) : celF n L k = true := by
  unfold celF
  rw [show L.length - k = 0 by omega]
  rfl
theorem matB_n {n : Int} {m : Mat} (h : ¬ m.n = n) : matB n m = false := by unfold matB; rw [dec_no h]; rfl
theorem matB_l {n : Int} {m : Mat} (h : ¬ (m.cells.length : Int) = n * n) : matB n m = false := by unfold matB; rw [dec_no h]; simp
theorem matB_c {n : Int} {m : Mat} (h : m.n = n) (k : (m.cells.length : Int) = n * n) : matB n m = celF n m.cells 0 := by unfold matB; rw [dec_yes h, dec_yes k, celF_all]; rfl
end Go.Proofs.Ytgjpkpmikbpcnaa
namespace Go.Proofs.Ytgjpkpmikbpcnaa
open Go.RowKit
theorem checkM_eq {p : Prb} {b1 b2 b3 bf b4 b5 b6 : Bool} (h1 : dimB p = b1) (h2 : matB p.time.n p.time = b2) (h3 : matB p.time.n p.dist = b3) (hf : fewB p = bf) (h4 : p.vs.all (vehB p.dims p.time.n) = b4) (h5 : p.js.all (jobB p.dims p.time.n) = b5) (h6 : p.ss.all (shpB p.dims p.time.n) = b6) :
    checkM p = if (b1 && b2 && b3) = false then 2 else if bf = false then 27 else if (b4 && b5 && b6) = false then 2 else 0 := by
  unfold checkM allB
  rw [h1, h2, h3, hf, h4, h5, h6]
theorem dimB_in {p : Prb} (h : dimB p = true) : 1 ≤ p.time.n ∧ p.time.n ≤ 32 ∧ 0 ≤ p.dims ∧ p.dims ≤ 3 := by
  unfold dimB at h
  rw [Bool.and_eq_true] at h
  have h1 := upB_iff.1 h.1
  have h2 := of_decide_eq_true h.2
  omega
theorem few_yes {p : Prb} (h : fewB p = true) : p.vs.length ≤ 4 ∧ p.js.length + p.ss.length ≤ 12 := of_decide_eq_true h
theorem few_no {p : Prb} (h : fewB p = false) : ¬ (p.vs.length ≤ 4 ∧ p.js.length + p.ss.length ≤ 12) := of_decide_eq_false h
/-- The slices of a problem, written out. -/
theorem PrbV.open {w : World} {x : PrbS} {p : Prb} (h : PrbV w x p) : ∃ ta tc da dc va vc ja jc sa sc, x = ⟨.slice ta p.time.cells.length tc, .slice da p.dist.cells.length dc, .slice va p.vs.length vc, .slice ja p.js.length jc, .slice sa p.ss.length sc⟩ := by
  obtain ⟨ta, tc, h1⟩ := h.t.shape
  obtain ⟨da, dc, h2⟩ := h.d.shape
  obtain ⟨va, vc, h3⟩ := SlV.shape h.v
  obtain ⟨ja, jc, h4⟩ := SlV.shape h.j
  obtain ⟨sa, sc, h5⟩ := SlV.shape h.s
  obtain ⟨x1, x2, x3, x4, x5⟩ := x
  simp only at h1 h2 h3 h4 h5
  exact ⟨ta, tc, da, dc, va, vc, ja, jc, sa, sc, by rw [h1, h2, h3, h4, h5]⟩
theorem SlV.bound {α : Type} {z y : Nat} {zero : α} {V : World → List Value → α → Prop} {w : World} {v : Value} {L : List α} (h : SlV z y zero V w v L) : L.length * y ≤ 140737488351232 := by
  obtain ⟨_, _, _, _, h, _⟩ := h
  exact h
theorem IntsV.bound {w : World} {v : Value} {L : List Int} (h : IntsV w v L) : L.length * 8 ≤ 140737488351232 := by
  obtain ⟨_, _, _, _, h, _⟩ := h
  exact h
end Go.Proofs.Ytgjpkpmikbpcnaa
namespace Go.Proofs.Ytgjpkpmikbpcnaa
open Go.RowKit
/-- A task: a shipment or not; which. -/
abbrev Tsk := Bool × Int
def thereM (p : Prb) (t : Tsk) : Bool := if t.1 = true then upB t.2 ((p.ss.length : Int) - 1) else upB t.2 ((p.js.length : Int) - 1)
def sklM (p : Prb) (t : Tsk) : Int := if thereM p t = true then (if t.1 = true then (p.ss.getD t.2.toNat hz).skills else (p.js.getD t.2.toNat jz).skills) else 0
theorem there_ship {p : Prb} {i : Int} (h : thereM p (true, i) = true) : ∃ k : Nat, i = k ∧ k < p.ss.length := by
  have := upB_iff.1 (show upB i ((p.ss.length : Int) - 1) = true from h)
  exact ⟨i.toNat, by omega, by omega⟩
theorem there_job {p : Prb} {i : Int} (h : thereM p (false, i) = true) : ∃ k : Nat, i = k ∧ k < p.js.length := by
  have := upB_iff.1 (show upB i ((p.js.length : Int) - 1) = true from h)
  exact ⟨i.toNat, by omega, by omega⟩
theorem skl_ship {p : Prb} {k : Nat} (h : thereM p (true, (k : Int)) = true) : sklM p (true, (k : Int)) = (p.ss.getD k hz).skills := by
  unfold sklM; rw [if_pos h]; simp
theorem skl_job {p : Prb} {k : Nat} (h : thereM p (false, (k : Int)) = true) : sklM p (false, (k : Int)) = (p.js.getD k jz).skills := by
  unfold sklM; rw [if_pos h]; simp
theorem skl_none {p : Prb} {t : Tsk} (h : thereM p t = false) : sklM p t = 0 := by unfold sklM; rw [h]; rfl
/-- A shipment's and a job's cells. -/
theorem shp_cells {w : World} {v : Value} {L : List Shp} {k : Nat} (h : ShpsV w v L) (hk : k < L.length) : ∃ b off c x1 x2 xa, v = .slice (some ⟨b, off, none⟩) L.length c ∧ b < w.heap.size ∧ (∀ j, j < 9 → w.cell? ⟨b, off + k * 9 + j, none⟩ = (shpE (L.getD k hz) x1 x2 xa)[j]?) ∧ WinsV w x1 (L.getD k hz).pick.wins ∧ WinsV w x2 (L.getD k hz).deli.wins ∧ IntsV w xa (L.getD k hz).amt := by
  obtain ⟨a, c, rfl, _, _, hc⟩ := h
  obtain ⟨b, off, l, rfl, hl, hcs, x1, x2, xa, rfl, q1, q2, q3, _⟩ := hc k hk
  have h0 : w.cell? ⟨b, off + k * 9 + 0, none⟩ = some _ := hcs 0 (by decide)
  exact ⟨b, off, c, x1, x2, xa, rfl, block_lt_of_cell h0, hcs, q1, q2, q3⟩
theorem job_cells {w : World} {v : Value} {L : List Jb} {k : Nat} (h : JobsV w v L) (hk : k < L.length) : ∃ b off c x1 x2 xa, v = .slice (some ⟨b, off, none⟩) L.length c ∧ b < w.heap.size ∧ (∀ j, j < 7 → w.cell? ⟨b, off + k * 7 + j, none⟩ = (jobE (L.getD k jz) x1 x2 xa)[j]?) ∧ WinsV w x1 (L.getD k jz).stop.wins ∧ IntsV w x2 (L.getD k jz).drop ∧ IntsV w xa (L.getD k jz).pick := by
  obtain ⟨a, c, rfl, _, _, hc⟩ := h
  obtain ⟨b, off, l, rfl, hl, hcs, x1, x2, xa, rfl, q1, q2, q3, _⟩ := hc k hk
  have h0 : w.cell? ⟨b, off + k * 7 + 0, none⟩ = some _ := hcs 0 (by decide)
  exact ⟨b, off, c, x1, x2, xa, rfl, block_lt_of_cell h0, hcs, q1, q2, q3⟩
set_option maxRecDepth 100000 in
set_option maxHeartbeats 1600000 in
theorem there_any {w : World} {x : PrbS} {p : Prb} (h : PrbV w x p) (s : Bool) (i : Int) : Calls Try.prog 26 #[.agg (prbE p x), .agg #[.bool s, .int .i64 i]] w fun e w' => e = .returned (.bool (thereM p (s, i))) ∧ Below w.heap.size w w' := by
  obtain ⟨ta, tc, da, dc, va, vc, ja, jc, sa, sc, rfl⟩ := h.open
  have HB0 : Hid (∀ A B, Below w.heap.size w ((w.alloc A).alloc B)) := fun A B => ((Below.refl _ _).alloc (Nat.le_refl _) A).alloc (by simp) B
  unfold prbE thereM
  clear h
  cases s with
  | true =>
    go_enter Try.func26, Try.ntmps26
    go_wp2_with (go_at_call 58; refine (below_any _ _ _).mono ?_; rintro e w' ⟨rfl, rfl⟩)
    go_ret
    exact ⟨rfl, HB0.out _ _⟩
  | false =>
    go_enter Try.func26, Try.ntmps26
    go_wp2_with (go_at_call 58; refine (below_any _ _ _).mono ?_; rintro e w' ⟨rfl, rfl⟩)
    go_ret
    exact ⟨rfl, HB0.out _ _⟩
set_option maxRecDepth 100000 in
set_option maxHeartbeats 1600000 in
theorem rthere_any {w : World} {x : PrbS} {p : Prb} (h : PrbV w x p) (s : Bool) (i : Int) : Calls Try.prog 27 #[.agg (prbE p x), .agg #[.bool s, .int .i64 i]] w fun e w' => e = .returned (.bool (thereM p (s, i))) ∧ Below w.heap.size w w' := by
  obtain ⟨ta, tc, da, dc, va, vc, ja, jc, sa, sc, rfl⟩ := h.open
  have hj := SlV.bound h.j
  have hs := SlV.bound h.s
  have HB0 : Hid (∀ A B, Below w.heap.size w ((w.alloc A).alloc B)) := fun A B => ((Below.refl _ _).alloc (Nat.le_refl _) A).alloc (by simp) B
  unfold prbE thereM
  clear h
  cases s with
  | true =>
    go_enter Try.func27, Try.ntmps27
    go_wp2_with (go_at_call 59; refine (up_any _ _ _).mono ?_; rintro e w' ⟨rfl, rfl⟩)
    go_ret
    exact ⟨rfl, HB0.out _ _⟩
  | false =>
    go_enter Try.func27, Try.ntmps27
    go_wp2_with (go_at_call 59; refine (up_any _ _ _).mono ?_; rintro e w' ⟨rfl, rfl⟩)
    go_ret
    exact ⟨rfl, HB0.out _ _⟩
set_option maxRecDepth 100000 in
set_option maxHeartbeats 1600000 in
theorem skills12_any {w : World} {x : PrbS} {p : Prb} (h : PrbV w x p) (s : Bool) (i : Int) : Calls Try.prog 29 #[.agg (prbE p x), .agg #[.bool s, .int .i64 i]] w fun e w' => e = .returned (.int .u64 (sklM p (s, i))) ∧ Below w.heap.size w w' := by
  have HP := hide h
  have HB0 : Hid (∀ A B, Below w.heap.size w ((w.alloc A).alloc B)) := fun A B => ((Below.refl _ _).alloc (Nat.le_refl _) A).alloc (by simp) B
  obtain ⟨bb, hbb⟩ : ∃ b, thereM p (s, i) = b := ⟨_, rfl⟩
  have HT := hide hbb
  cases bb with
  | false =>
    obtain ⟨ta, tc, da, dc, va, vc, ja, jc, sa, sc, rfl⟩ := h.open
    rw [skl_none hbb]
    clear hbb h
    unfold prbE
    go_enter Try.func29, Try.ntmps29
    go_wp2_with (go_at_call 26; refine (there_any (HP.out.on (HB0.out _ _)) _ _).mono ?_; rintro e w1 ⟨rfl, k1⟩; rw [HT.out]; obtain ⟨hc1, hf1⟩ := bcell k1; have K1 := hide k1; clear k1)
    go_ret
    exact ⟨rfl, below_on (HB0.out _ _) K1.out⟩
  | true =>
    cases s with
    | true =>
      obtain ⟨k, rfl, hk⟩ := there_ship hbb
      obtain ⟨b, off, cc, x1, x2, xa, he, hb, hcs, _, _, _⟩ := shp_cells h.s hk
      obtain ⟨ta, tc, da, dc, va, vc, ja, jc, sa, sc, rfl⟩ := h.open
      simp only at he
      injection he with he1 he2 he3
      subst he1 he3
      clear he2
      have c7 : w.cell? ⟨b, off + k * 9 + 7, none⟩ = some (.int .u64 (p.ss.getD k hz).skills) := hcs 7 (by decide)
      rw [skl_ship HT.out]
      obtain ⟨ln, hln⟩ : ∃ q, p.ss.length = q := ⟨_, rfl⟩
      have hbd := SlV.bound h.s
      rw [hln] at hk HP hbd
      have i1 : (0 : Int) ≤ (k : Int) := by omega
      have i2 : (k : Int) < (ln : Int) := by omega
      unfold prbE
      rw [hln]
      clear hbb hcs h hln
      go_enter Try.func29, Try.ntmps29
      go_wp2_with (go_at_call 26; refine (there_any (HP.out.on (HB0.out _ _)) _ _).mono ?_; rintro e w1 ⟨rfl, k1⟩; rw [HT.out]; obtain ⟨hc1, hf1⟩ := bcell k1; have d7 := (bcell (below_on (HB0.out _ _) k1)).1 b (off + k * 9 + 7) hb; rw [c7] at d7; have K1 := hide k1; clear k1)
      go_ret
      exact ⟨rfl, below_on (HB0.out _ _) K1.out⟩
    | false =>
      obtain ⟨k, rfl, hk⟩ := there_job hbb
      obtain ⟨b, off, cc, x1, x2, xa, he, hb, hcs, _, _, _⟩ := job_cells h.j hk
      obtain ⟨ta, tc, da, dc, va, vc, ja, jc, sa, sc, rfl⟩ := h.open
      simp only at he
      injection he with he1 he2 he3
      subst he1 he3
      clear he2
      have c5 : w.cell? ⟨b, off + k * 7 + 5, none⟩ = some (.int .u64 (p.js.getD k jz).skills) := hcs 5 (by decide)
      rw [skl_job HT.out]
      obtain ⟨ln, hln⟩ : ∃ q, p.js.length = q := ⟨_, rfl⟩
      have hbd := SlV.bound h.j
      rw [hln] at hk HP hbd
      have i1 : (0 : Int) ≤ (k : Int) := by omega
      have i2 : (k : Int) < (ln : Int) := by omega
      unfold prbE
      rw [hln]
      clear hbb hcs h hln
      go_enter Try.func29, Try.ntmps29
      go_wp2_with (go_at_call 26; refine (there_any (HP.out.on (HB0.out _ _)) _ _).mono ?_; rintro e w1 ⟨rfl, k1⟩; rw [HT.out]; obtain ⟨hc1, hf1⟩ := bcell k1; have d5 := (bcell (below_on (HB0.out _ _) k1)).1 b (off + k * 7 + 5) hb; rw [c5] at d5; have K1 := hide k1; clear k1)
      go_ret
      exact ⟨rfl, below_on (HB0.out _ _) K1.out⟩
end Go.Proofs.Ytgjpkpmikbpcnaa
