/-
  Several texts in one: RTsk TskT.
-/
import Derived.Test.YtgjpkpmikbpcnaaQTskG
import Derived.Test.YtgjpkpmikbpcnaaQLdsG
namespace Go.Proofs.Ytgjpkpmikbpcnaa
open Go.RowKit
/-- A task more behind a row of tasks, nil or not. -/
theorem app_tsk {wr : World} {base k vc : Nat} {va : Option Addr} {L : List Tsk} {t : Tsk} {ops : Array Oper} {rest : List Oper} {o : Oper} {a : Act} {Q : Exit → Act → World → Prop} (s x : Operand)
    (hgd : o.guard = none) (ho : o.op = .call { callee := .builtin .append, args := #[s, x], argTypes := #[49, 49] })
    (hs : a.eval s = .slice va k vc) (hx : a.eval x = .slice (some ⟨wr.heap.size, 0, none⟩) 1 1) (hrow : TRow wr base (.slice va k vc) L) (hk : L.length = k) (hk2 : k ≤ 100) (hb : base ≤ wr.heap.size)
    (h : ∀ g' cap' w', TRow w' base (.slice (some ⟨g', 0, none⟩) (k + 1) cap') (L ++ [t]) → Below base wr w' → wpList Try.prog ops Q rest (a.put o.dst (.slice (some ⟨g', 0, none⟩) (k + 1) cap')) w') : wpList Try.prog ops Q (o :: rest) a (wr.alloc (.cells #[.bool t.1, .int .i64 t.2] 31)) := by
  obtain ⟨i0, hi0, hy0, hy1, hy2⟩ := info_parts info37
  have fA : Below wr.heap.size wr (wr.alloc (.cells #[.bool t.1, .int .i64 t.2] 31)) := (Below.refl _ _).alloc (Nat.le_refl _) _
  have hown := hrow.later (Nat.le_refl _) fA
  unfold TRow at hown
  rw [hk] at hown
  refine wpList_append_own _ hgd s x 49 ho base 31 i0 _ 2 16 Try.underlying49 hi0 hy0 hy1 hy2 rfl (by decide) _ k (flatT L) hs hown ⟨wr.heap.size, 0, none⟩ 1 1 (encT t) hx rfl (encT_news wr t) ?_ (by unfold maxLen; omega) (by omega) (by simp; omega) ?_
  · intro u hu
    simp [encT] at hu
    rcases hu with rfl | rfl <;> rfl
  · intro v' w' h1 h2 h3
    have e : flatT L ++ encT t = flatT (L ++ [t]) := by simp [flatT]
    rw [e] at h1
    have hrow : TRow w' base v' (L ++ [t]) := by unfold TRow; rw [List.length_append, hk]; exact h1
    have f : Below base wr w' := (fA.mono hb).grown h2 (by simp; omega) fun q hq => (hown.lt q hq).1
    rcases h1.2 with ⟨_, e2⟩ | ⟨g', cap', cur, rfl, _⟩
    · omega
    · exact h g' cap' w' hrow f
theorem own_mono2 {w : World} {base base' : Nat} {v : Value} {L : List Tsk} (h : TRow w base v L) (hb : base' ≤ base) : TRow w base' v L := by
  obtain ⟨h1, h2⟩ := h
  refine ⟨h1, ?_⟩
  rcases h2 with h2 | ⟨g, cap, cur, e, a, r⟩
  · exact .inl h2
  · exact .inr ⟨g, cap, cur, e, Nat.le_trans hb a, r⟩
end Go.Proofs.Ytgjpkpmikbpcnaa
namespace Go.Proofs.Ytgjpkpmikbpcnaa
open Go.RowKit
/-- The tasks of the jobs and the pickups. -/
def taskV (v : Vst) : Option Tsk := if v.1 = 1 then some (false, v.2) else if v.1 = 2 then some (true, v.2) else none
def tasksV (V : List Vst) : List Tsk := V.filterMap taskV
theorem tasksV_some {V : List Vst} {q : Nat} {v : Vst} {t : Tsk} (h : V[q]? = some v) (ht : taskV v = some t) : tasksV (V.take (q + 1)) = tasksV (V.take q) ++ [t] := by
  obtain ⟨hk, e⟩ := List.getElem?_eq_some_iff.1 h
  unfold tasksV
  rw [List.take_succ_eq_append_getElem hk, e, List.filterMap_append]
  simp [ht]
theorem tasksV_none {V : List Vst} {q : Nat} {v : Vst} (h : V[q]? = some v) (ht : taskV v = none) : tasksV (V.take (q + 1)) = tasksV (V.take q) := by
  obtain ⟨hk, e⟩ := List.getElem?_eq_some_iff.1 h
  unfold tasksV
  rw [List.take_succ_eq_append_getElem hk, e, List.filterMap_append]
  simp [ht]
theorem tasksV_le (V : List Vst) : (tasksV V).length ≤ V.length := List.length_filterMap_le _ _
set_option maxRecDepth 100000 in
set_option maxHeartbeats 6400000 in
theorem tasksT_any {w : World} {x : PrbS} {p : Prb} {k m vc : Nat} {va : Option Addr} {V : List Vst} (h : PrbV w x p) (hV : VsV w (.slice va m vc) V) (hm : V.length = m) (hm2 : m ≤ 100) : Calls Try.prog 123 #[.agg (tourE p x k (.slice va m vc))] w fun e w' => ∃ v, e = .returned v ∧ TRow w' w.heap.size v (tasksV V) ∧ Below w.heap.size w w' := by
  have HB0 : Hid (∀ A, Below w.heap.size w (w.alloc A)) := fun A => (Below.refl _ _).alloc (Nat.le_refl _) A
  have HV := hide hV
  have HM := hide hm
  clear hV hm
  obtain ⟨ta, tc, da, dc, va', vc', ja, jc, sa, sc, rfl⟩ := h.open
  clear h
  unfold tourE
  simp only
  obtain ⟨W, hW⟩ : ∃ W, W = w.alloc (.cells #[.int .i64 p.dims, .int .i64 p.time.n, .slice ta p.time.cells.length tc, .int .i64 p.dist.n, .slice da p.dist.cells.length dc, .slice va' p.vs.length vc', .slice ja p.js.length jc, .slice sa p.ss.length sc, .int .i64 k, .slice va m vc] 121) := ⟨_, rfl⟩
  have HBW : Hid (Below w.heap.size w W) := by rw [hW]; exact HB0.out _
  go_enter Try.func123, Try.ntmps123
  go_wp2
  rw [← hW]
  clear hW
  go_loopw [11, 3] (fun vi vr wr => ∃ (q n : Nat) (ra : Option Addr) (rc : Nat), vi = .int .i64 q ∧ vr = .slice ra n rc ∧ q ≤ m ∧ Hid ((tasksV (V.take q)).length = n) ∧ Hid (TRow wr W.heap.size (.slice ra n rc) (tasksV (V.take q))) ∧ Hid (Below W.heap.size W wr)) (fun vi _ _ => m - (intOf vi).toNat)
  case atStart => exact ⟨0, 0, none, 0, rfl, rfl, Nat.zero_le _, rfl, World.ownsRow_nil _ _ _ _, Below.refl _ _⟩
  case round =>
    obtain ⟨q, n, ra, rc, rfl, rfl, hq, HN, HR, HB⟩ := hrel
    by_cases hqm : q < m
    · have i1 : (q : Int) < (m : Int) := by omega
      have i2 : (0 : Int) ≤ (q : Int) := by omega
      have i3 : ¬ (m : Int) ≤ (q : Int) := by omega
      have hn100 : n ≤ 100 := by rw [← HN.out]; have := tasksV_le (V.take q); have := List.length_take_le q V; omega
      obtain ⟨⟨kd, it⟩, hu⟩ : ∃ u, V[q]? = some u := ⟨_, List.getElem?_eq_getElem (by rw [HM.out]; exact hqm)⟩
      obtain ⟨b, off, rfl, hb, c1, c2, _⟩ := vs_cells HV.out hu
      simp only at c1 c2
      have d1 : wr.cell? ⟨b, off + q * 2, none⟩ = some (.int .i64 kd) := ((bcell (below_on HBW.out HB.out)).1 _ _ hb).trans c1
      have d2 : wr.cell? ⟨b, off + q * 2 + 1, none⟩ = some (.int .i64 it) := ((bcell (below_on HBW.out HB.out)).1 _ _ hb).trans c2
      have HU := hide hu
      clear c1 c2 hu hb
      have HA : Hid (∀ o, Below W.heap.size W (wr.alloc o)) := fun o => HB.out.alloc HB.out.size o
      have HRA : Hid (∀ o, TRow (wr.alloc o) W.heap.size (.slice ra n rc) (tasksV (V.take q))) := fun o => HR.out.later (Nat.le_refl _) ((Below.refl _ _).alloc (Nat.le_refl _) o)
      by_cases hk1 : kd = 1
      · subst hk1
        have HS : Hid (tasksV (V.take (q + 1)) = tasksV (V.take q) ++ [(false, it)]) := tasksV_some HU.out rfl
        go_wp2_with (first | (at_builtin; refine app_tsk (wr := w1.alloc (.cells #[.bool false, .int .i64 it] 31)) (t := (false, it)) (.tmp 28) (.tmp 30) rfl rfl rfl (by simp [go_sem]) HR1.out HN.out hn100 HS1.out ?_; intro g2 cap2 w2 k2 k3; have K2 := hide k2; have K3 := hide (B1.out.trans k3); clear k2 k3) | (go_at_call 19; refine (of_any _ _ _).mono ?_; rintro e w1 ⟨rfl, k1⟩; simp only [taskE, ofM, if_true]; have B1 := hide ((below_on (HA.out _) k1).alloc (below_on (HA.out _) k1).size (.cells #[.bool false, .int .i64 it] 31)); have HR1 := hide (((HRA.out _).later (Nat.le_refl _) k1).later (Nat.le_refl _) ((Below.refl _ _).alloc (Nat.le_refl _) (.cells #[.bool false, .int .i64 it] 31))); have HS1 := hide B1.out.size; clear k1) | fail)
        go_roundw
        case rel => exact ⟨q + 1, n + 1, some ⟨g2, 0, none⟩, cap2, by go_num, rfl, by omega, by show _ = _; rw [HS.out, List.length_append, HN.out]; rfl, by rw [HS.out]; exact K2.out, K3.out⟩
        case measure => simp [intOf]; omega
      · have y1 : (kd == 1) = false := by simpa using hk1
        by_cases hk2 : kd = 2
        · subst hk2
          have HS : Hid (tasksV (V.take (q + 1)) = tasksV (V.take q) ++ [(true, it)]) := tasksV_some HU.out rfl
          go_wp2_with (first | (at_builtin; refine app_tsk (wr := w1.alloc (.cells #[.bool true, .int .i64 it] 31)) (t := (true, it)) (.tmp 28) (.tmp 30) rfl rfl rfl (by simp [go_sem]) HR1.out HN.out hn100 HS1.out ?_; intro g2 cap2 w2 k2 k3; have K2 := hide k2; have K3 := hide (B1.out.trans k3); clear k2 k3) | (go_at_call 19; refine (of_any _ _ _).mono ?_; rintro e w1 ⟨rfl, k1⟩; simp only [taskE, ofM, if_true, show ¬ (2 : Int) = 1 by decide, if_false]; have B1 := hide ((below_on (HA.out _) k1).alloc (below_on (HA.out _) k1).size (.cells #[.bool true, .int .i64 it] 31)); have HR1 := hide (((HRA.out _).later (Nat.le_refl _) k1).later (Nat.le_refl _) ((Below.refl _ _).alloc (Nat.le_refl _) (.cells #[.bool true, .int .i64 it] 31))); have HS1 := hide B1.out.size; clear k1) | fail)
          go_roundw
          case rel => exact ⟨q + 1, n + 1, some ⟨g2, 0, none⟩, cap2, by go_num, rfl, by omega, by show _ = _; rw [HS.out, List.length_append, HN.out]; rfl, by rw [HS.out]; exact K2.out, K3.out⟩
          case measure => simp [intOf]; omega
        · have y2 : (kd == 2) = false := by simpa using hk2
          have HS : Hid (tasksV (V.take (q + 1)) = tasksV (V.take q)) := tasksV_none HU.out (by unfold taskV; rw [if_neg hk1, if_neg hk2])
          go_wp2
          go_roundw
          case rel => exact ⟨q + 1, n, ra, rc, by go_num, rfl, by omega, by rw [HS.out]; exact HN.out, by rw [HS.out]; exact HRA.out _, HA.out _⟩
          case measure => simp [intOf]; omega
    · have i1 : ¬ (q : Int) < (m : Int) := by omega
      have HT : Hid (V.take q = V) := by show _ = _; rw [List.take_of_length_le (by rw [HM.out]; omega)]
      go_wp2
      go_ret
      refine ⟨_, rfl, ?_, below_on HBW.out HB.out⟩
      have h9 := HR.out
      rw [HT.out] at h9
      exact own_mono2 h9 HBW.out.size
end Go.Proofs.Ytgjpkpmikbpcnaa
