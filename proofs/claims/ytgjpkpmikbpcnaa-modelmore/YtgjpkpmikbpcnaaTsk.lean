/-
  What the call of Tasks of model does.
-/
import Derived.Test.YtgjpkpmikbpcnaaSort
namespace Go.Proofs.Ytgjpkpmikbpcnaa
open Go.RowKit

def jobsT (n : Nat) : List Tsk := (List.range n).map fun i : Nat => ((false, (i : Int)) : Tsk)
def shpsT (n : Nat) : List Tsk := (List.range n).map fun i : Nat => ((true, (i : Int)) : Tsk)
/-- All tasks, jobs first; and by falling priority. -/
def allT (p : Prb) : List Tsk := jobsT p.js.length ++ shpsT p.ss.length
def tasksM (p : Prb) : List Tsk := isort (prioM p) (allT p)
theorem jobsT_succ (k : Nat) : jobsT (k + 1) = jobsT k ++ [(false, (k : Int))] := by unfold jobsT; rw [List.range_succ, List.map_append]; rfl
theorem shpsT_succ (k : Nat) : shpsT (k + 1) = shpsT k ++ [(true, (k : Int))] := by unfold shpsT; rw [List.range_succ, List.map_append]; rfl
theorem jobsT_len (k : Nat) : (jobsT k).length = k := by simp [jobsT]
theorem shpsT_len (k : Nat) : (shpsT k).length = k := by simp [shpsT]
theorem allT_len (p : Prb) : (allT p).length = p.js.length + p.ss.length := by unfold allT; rw [List.length_append, jobsT_len, shpsT_len]
theorem tasksM_len (p : Prb) : (tasksM p).length = p.js.length + p.ss.length := by unfold tasksM; rw [isort_len, allT_len]
set_option maxRecDepth 100000 in
set_option maxHeartbeats 1600000 in
theorem stable_any {w0 w : World} {base bx g cap n : Nat} {p : Prb} {x : PrbS} {L : List Tsk} (hn : L.length = n) (hn2 : n ≤ 12) (hbx : bx < base) (h0 : w0.heap.size ≤ base) (hp0 : PrbV w0 x p) (hbl : Below base w0 w) (h : SortS w0 w base bx p x (.slice (some ⟨g, 0, none⟩) n cap) w L) :
    Calls Try.prog 86 #[.slice (some ⟨g, 0, none⟩) n cap, .int .i64 n, .func (.func 56) #[] #[.pointer (some ⟨bx, 0, none⟩)]] w fun e w' => e = .returned (.tuple #[]) ∧ SortS w0 w base bx p x (.slice (some ⟨g, 0, none⟩) n cap) w' (isort (prioM p) L) := by
  have HC := hide (insertion_any hn hn2 hbx h0 hp0 hbl h)
  clear h hn hbx hp0 h0 hbl
  have i1 : ¬ (20 : Int) ≤ (n : Int) := by omega
  have i2 : ¬ (20 : Int) < (n : Int) := by omega
  go_enter Try.func86, Try.ntmps86
  go_wp2
  go_loop [7, 8] (fun v7 v8 => v7 = .int .i64 0 ∧ v8 = .int .i64 20) (fun _ _ => 0)
  case atStart => exact ⟨rfl, rfl⟩
  case round =>
    obtain ⟨rfl, rfl⟩ := hrel
    go_wp2_with (go_at_call 119; refine HC.out.mono ?_; rintro e w1 ⟨rfl, k1⟩; have K1 := hide k1; clear k1)
    go_loop [6] (fun v6 => v6 = .int .i64 20) (fun _ => 0)
    case atStart => rfl
    case round =>
      obtain rfl := hrel
      go_wp2
      go_end0
      exact ⟨rfl, K1.out⟩
set_option maxRecDepth 100000 in
set_option maxHeartbeats 1600000 in
theorem sorts_any {w0 w : World} {base bx g cap n : Nat} {p : Prb} {x : PrbS} {L : List Tsk} (hn : L.length = n) (hn2 : n ≤ 12) (hbx : bx < base) (h0 : w0.heap.size ≤ base) (hp0 : PrbV w0 x p) (hbl : Below base w0 w) (h : SortS w0 w base bx p x (.slice (some ⟨g, 0, none⟩) n cap) w L) :
    Calls Try.prog 55 #[.slice (some ⟨g, 0, none⟩) n cap, .func (.func 56) #[] #[.pointer (some ⟨bx, 0, none⟩)]] w fun e w' => e = .returned (.tuple #[]) ∧ SortS w0 w base bx p x (.slice (some ⟨g, 0, none⟩) n cap) w' (isort (prioM p) L) := by
  have HC := hide (stable_any hn hn2 hbx h0 hp0 hbl h)
  clear h hn hbx hp0 h0 hbl
  go_enter Try.func55, Try.ntmps55
  go_wp2_with (go_at_call 86; refine HC.out.mono ?_; rintro e w1 ⟨rfl, k1⟩; have K1 := hide k1; clear k1)
  go_end0
  exact ⟨rfl, K1.out⟩
theorem encT_news (w : World) (t : Tsk) : ∀ j u, (encT t)[j]? = some u → (w.alloc (.cells #[.bool t.1, .int .i64 t.2] 31)).cell? ((⟨w.heap.size, 0, none⟩ : Addr).add j) = some u := by
  intro j u hu
  have hr := heap_alloc_new w (.cells #[.bool t.1, .int .i64 t.2] 31)
  have hj : j < 2 := (List.getElem?_eq_some_iff.1 hu).1
  rw [add0, cell_of_row _ _ _ _ _ _ hr]
  have : j = 0 ∨ j = 1 := by omega
  rcases this with rfl | rfl <;> exact hu
/-- A task more behind a row of tasks. -/
theorem app_task {w0 w wr : World} {base bx g cap k : Nat} {p : Prb} {xs : PrbS} {L : List Tsk} {t : Tsk} {ops : Array Oper} {rest : List Oper} {o : Oper} {a : Act} {Q : Exit → Act → World → Prop} (s x : Operand)
    (hgd : o.guard = none) (ho : o.op = .call { callee := .builtin .append, args := #[s, x], argTypes := #[49, 49] })
    (hs : a.eval s = .slice (some ⟨g, 0, none⟩) k cap) (hx : a.eval x = .slice (some ⟨wr.heap.size, 0, none⟩) 1 1) (hS : SortS w0 w base bx p xs (.slice (some ⟨g, 0, none⟩) k cap) wr L) (hk : L.length = k) (hk2 : k ≤ 100) (hbx : bx < base) (h0 : w0.heap.size ≤ base) (hp0 : PrbV w0 xs p) (hbl : Below base w0 w)
    (h : ∀ g' cap' w', SortS w0 w base bx p xs (.slice (some ⟨g', 0, none⟩) (k + 1) cap') w' (L ++ [t]) → wpList Try.prog ops Q rest (a.put o.dst (.slice (some ⟨g', 0, none⟩) (k + 1) cap')) w') : wpList Try.prog ops Q (o :: rest) a (wr.alloc (.cells #[.bool t.1, .int .i64 t.2] 31)) := by
  obtain ⟨i0, hi0, hy0, hy1, hy2⟩ := info_parts info37
  have fA : Below wr.heap.size wr (wr.alloc (.cells #[.bool t.1, .int .i64 t.2] 31)) := (Below.refl _ _).alloc (Nat.le_refl _) _
  have hS' := hS.on hbx fA
  have hown := hS'.row
  unfold TRow at hown
  rw [hk] at hown
  refine wpList_append_own _ hgd s x 49 ho base 31 i0 _ 2 16 Try.underlying49 hi0 hy0 hy1 hy2 rfl (by decide) _ k (flatT L) hs hown ⟨wr.heap.size, 0, none⟩ 1 1 (encT t) hx rfl (encT_news wr t) ?_ (by unfold maxLen; omega) (by omega) hS'.size ?_
  · intro u hu
    simp [encT] at hu
    rcases hu with rfl | rfl <;> rfl
  · intro v' w' h1 h2 h3
    have e : flatT L ++ encT t = flatT (L ++ [t]) := by simp [flatT]
    rw [e] at h1
    have hrow : TRow w' base v' (L ++ [t]) := by unfold TRow; rw [List.length_append, hk]; exact h1
    have f : Below base wr w' := by
      have := (fA.mono hS.size).grown h2 (by have := hS.size; simp; omega) fun q hq => (hown.lt q hq).1
      exact this
    rcases h1.2 with ⟨_, e2⟩ | ⟨g', cap', cur, rfl, _⟩
    · omega
    · exact h g' cap' w' ⟨hrow, hS.low.trans f, Nat.le_trans hS.size f.size, hS.box.on hbx f, hp0.on ((hbl.trans (hS.low.trans f)).mono h0)⟩
set_option maxRecDepth 100000 in
set_option maxHeartbeats 3200000 in
theorem tasks_any {w : World} {x : PrbS} {p : Prb} (h : PrbV w x p) (hf : p.js.length + p.ss.length ≤ 12) : Calls Try.prog 24 #[.agg (prbE p x)] w fun e w' => ∃ v, e = .returned v ∧ TRow w' w.heap.size v (tasksM p) ∧ Below w.heap.size w w' := by
  obtain ⟨ta, tc, da, dc, va, vc, ja, jc, sa, sc, rfl⟩ := h.open
  have HP := hide h
  clear h
  unfold prbE
  obtain ⟨d, ⟨n, tL⟩, ⟨dn, dL⟩, vL, jL, sL⟩ := p
  simp only at HP hf ⊢
  obtain ⟨lt, hlt⟩ : ∃ k, tL.length = k := ⟨_, rfl⟩
  obtain ⟨ld, hld⟩ : ∃ k, dL.length = k := ⟨_, rfl⟩
  obtain ⟨lv, hlv⟩ : ∃ k, vL.length = k := ⟨_, rfl⟩
  obtain ⟨lj, hlj⟩ : ∃ k, jL.length = k := ⟨_, rfl⟩
  obtain ⟨ls, hls⟩ : ∃ k, sL.length = k := ⟨_, rfl⟩
  have HLJ := hide hlj
  have HLS := hide hls
  rw [hlt, hld, hlv, hlj, hls] at HP
  rw [hlj, hls] at hf
  rw [hlt, hld, hlv, hlj, hls]
  clear hlt hld hlv hlj hls
  have HB0 : Hid (Below w.heap.size w (w.alloc (.cells #[.int .i64 d, .int .i64 n, .slice ta lt tc, .int .i64 dn, .slice da ld dc, .slice va lv vc, .slice ja lj jc, .slice sa ls sc] 29))) := (Below.refl _ _).alloc (Nat.le_refl _) _
  obtain ⟨B, hB⟩ : ∃ B, w.heap.size + 1 = B := ⟨_, rfl⟩
  have HBB : Hid ((w.alloc (.cells #[.int .i64 d, .int .i64 n, .slice ta lt tc, .int .i64 dn, .slice da ld dc, .slice va lv vc, .slice ja lj jc, .slice sa ls sc] 29)).heap.size = B) := by show _ = _; simp; exact hB
  have HB1 : Hid (w.heap.size < B) := by show _ < _; omega
  have HP0 : Hid (PrbV (w.alloc (.cells #[.int .i64 d, .int .i64 n, .slice ta lt tc, .int .i64 dn, .slice da ld dc, .slice va lv vc, .slice ja lj jc, .slice sa ls sc] 29)) ⟨.slice ta lt tc, .slice da ld dc, .slice va lv vc, .slice ja lj jc, .slice sa ls sc⟩ ⟨d, ⟨n, tL⟩, ⟨dn, dL⟩, vL, jL, sL⟩) := HP.out.on HB0.out
  clear hB
  obtain ⟨i0, hi0, hy0, hy1, hy2⟩ := info_parts info37
  obtain ⟨wm, hrun, hown, hgr⟩ := run_make_own (P := Try.prog) (w.alloc (.cells #[.int .i64 d, .int .i64 n, .slice ta lt tc, .int .i64 dn, .slice da ld dc, .slice va lv vc, .slice ja lj jc, .slice sa ls sc] 29)) B 49 31 i0 _ 2 Try.underlying49 hi0 hy0 hy1 .i64 .i64 (lj + ls) (by rw [hy2]; omega) (by unfold maxLen; omega) (by rw [HBB.out]; exact Nat.le_refl _)
  rw [HBB.out] at hrun hown
  rw [Int.natCast_add] at hrun
  have HS0 : Hid (SortS (w.alloc (.cells #[.int .i64 d, .int .i64 n, .slice ta lt tc, .int .i64 dn, .slice da ld dc, .slice va lv vc, .slice ja lj jc, .slice sa ls sc] 29)) (w.alloc (.cells #[.int .i64 d, .int .i64 n, .slice ta lt tc, .int .i64 dn, .slice da ld dc, .slice va lv vc, .slice ja lj jc, .slice sa ls sc] 29)) B w.heap.size ⟨d, ⟨n, tL⟩, ⟨dn, dL⟩, vL, jL, sL⟩ ⟨.slice ta lt tc, .slice da ld dc, .slice va lv vc, .slice ja lj jc, .slice sa ls sc⟩ (.slice (some ⟨B, 0, none⟩) 0 (lj + ls)) wm (jobsT 0)) := by
    have f : Below B (w.alloc (.cells #[.int .i64 d, .int .i64 n, .slice ta lt tc, .int .i64 dn, .slice da ld dc, .slice va lv vc, .slice ja lj jc, .slice sa ls sc] 29)) wm := by
      have := (Below.refl B (w.alloc (.cells #[.int .i64 d, .int .i64 n, .slice ta lt tc, .int .i64 dn, .slice da ld dc, .slice va lv vc, .slice ja lj jc, .slice sa ls sc] 29))).grown hgr (by rw [HBB.out]; exact Nat.le_refl _) fun q hq => by cases hq
      exact this
    refine ⟨hown, f, by rw [← HBB.out]; exact f.size, fun j hj => ?_, HP0.out.on (f.mono (Nat.le_of_eq HBB.out))⟩
    rw [f.cell (p := ⟨w.heap.size, j, none⟩) HB1.out]
    have hr := heap_alloc_new w (.cells #[.int .i64 d, .int .i64 n, .slice ta lt tc, .int .i64 dn, .slice da ld dc, .slice va lv vc, .slice ja lj jc, .slice sa ls sc] 29)
    rw [cell_of_row _ _ _ _ _ _ hr]
    unfold prbE
    simp
  clear hown hgr hi0 hy0 hy1 hy2
  have hm6 : wm.cell? ⟨w.heap.size, 6, none⟩ = some (.slice ja lj jc) := HS0.out.box 6 (by decide)
  go_enter Try.func24, Try.ntmps24
  go_wp2
  go_loopw [17, 3] (fun vi vs wr => ∃ k g cap : Nat, vi = .int .i64 k ∧ vs = .slice (some ⟨g, 0, none⟩) k cap ∧ k ≤ lj ∧ Hid (SortS (w.alloc (.cells #[.int .i64 d, .int .i64 n, .slice ta lt tc, .int .i64 dn, .slice da ld dc, .slice va lv vc, .slice ja lj jc, .slice sa ls sc] 29)) (w.alloc (.cells #[.int .i64 d, .int .i64 n, .slice ta lt tc, .int .i64 dn, .slice da ld dc, .slice va lv vc, .slice ja lj jc, .slice sa ls sc] 29)) B w.heap.size ⟨d, ⟨n, tL⟩, ⟨dn, dL⟩, vL, jL, sL⟩ ⟨.slice ta lt tc, .slice da ld dc, .slice va lv vc, .slice ja lj jc, .slice sa ls sc⟩ (.slice (some ⟨g, 0, none⟩) k cap) wr (jobsT k))) (fun vi _ _ => lj - (intOf vi).toNat)
  case atStart => exact ⟨0, B, lj + ls, rfl, rfl, Nat.zero_le _, HS0.out⟩
  case round =>
    clear hrun HS0 hm6
    obtain ⟨k, g, cap, rfl, rfl, hk, HR⟩ := hrel
    have hb6 : wr.cell? ⟨w.heap.size, 6, none⟩ = some (.slice ja lj jc) := HR.out.box 6 (by decide)
    have hb7 : wr.cell? ⟨w.heap.size, 7, none⟩ = some (.slice sa ls sc) := HR.out.box 7 (by decide)
    by_cases hlt : k < lj
    · have i3 : (k : Int) < (lj : Int) := by omega
      go_wp2_with (at_builtin; refine app_task (t := (false, (k : Int))) (.tmp 20) (.tmp 23) rfl rfl rfl rfl HR.out (jobsT_len k) (by omega) HB1.out (Nat.le_of_eq HBB.out) HP0.out (Below.refl _ _) ?_; intro g1 cap1 w1 k1; have K1 := hide k1; clear k1)
      go_roundw
      case rel => exact ⟨k + 1, g1, cap1, by go_num, rfl, by omega, by rw [jobsT_succ]; exact K1.out⟩
      case measure => simp [intOf]; omega
    · have i3 : ¬ (k : Int) < (lj : Int) := by omega
      have hkk : lj = k := by omega
      subst hkk
      go_wp2
      go_loopw [29, 3] (fun vi vs wr => ∃ q g cap : Nat, vi = .int .i64 q ∧ vs = .slice (some ⟨g, 0, none⟩) (lj + q) cap ∧ q ≤ ls ∧ Hid (SortS (w.alloc (.cells #[.int .i64 d, .int .i64 n, .slice ta lt tc, .int .i64 dn, .slice da ld dc, .slice va lv vc, .slice ja lj jc, .slice sa ls sc] 29)) (w.alloc (.cells #[.int .i64 d, .int .i64 n, .slice ta lt tc, .int .i64 dn, .slice da ld dc, .slice va lv vc, .slice ja lj jc, .slice sa ls sc] 29)) B w.heap.size ⟨d, ⟨n, tL⟩, ⟨dn, dL⟩, vL, jL, sL⟩ ⟨.slice ta lt tc, .slice da ld dc, .slice va lv vc, .slice ja lj jc, .slice sa ls sc⟩ (.slice (some ⟨g, 0, none⟩) (lj + q) cap) wr (jobsT lj ++ shpsT q))) (fun vi _ _ => ls - (intOf vi).toNat)
      case atStart => exact ⟨0, g, cap, rfl, rfl, Nat.zero_le _, by rw [show jobsT lj ++ shpsT 0 = jobsT lj by simp [shpsT]]; exact HR.out⟩
      case round =>
        clear HR hb6 hb7
        obtain ⟨q, g, cap, rfl, rfl, hq, HR⟩ := hrel
        by_cases hlt2 : q < ls
        · have i4 : (q : Int) < (ls : Int) := by omega
          go_wp2_with (at_builtin; refine app_task (t := (true, (q : Int))) (.tmp 32) (.tmp 35) rfl rfl rfl rfl HR.out (by rw [List.length_append, jobsT_len, shpsT_len]) (by omega) HB1.out (Nat.le_of_eq HBB.out) HP0.out (Below.refl _ _) ?_; intro g1 cap1 w1 k1; have K1 := hide k1; clear k1)
          go_roundw
          case rel => exact ⟨q + 1, g1, cap1, by go_num, rfl, by omega, by rw [shpsT_succ, ← List.append_assoc]; exact K1.out⟩
          case measure => simp [intOf]; omega
        · have i4 : ¬ (q : Int) < (ls : Int) := by omega
          have hqq : ls = q := by omega
          subst hqq
          go_wp2_with (go_at_call 55; refine (sorts_any (by rw [List.length_append, jobsT_len, shpsT_len]) (by omega) HB1.out (Nat.le_of_eq HBB.out) HP0.out HR.out.low (SortS.mk HR.out.row (Below.refl _ _) HR.out.size HR.out.box HR.out.prb)).mono ?_; rintro e w1 ⟨rfl, k1⟩; have K1 := hide k1; clear k1)
          go_ret
          refine ⟨_, rfl, ?_, ?_⟩
          · have hr := K1.out.row
            unfold tasksM allT
            simp only
            rw [HLJ.out, HLS.out]
            obtain ⟨r1, r2⟩ := hr
            refine ⟨r1, ?_⟩
            rcases r2 with r2 | ⟨g2, c2, cur, e, a, r⟩
            · exact .inl r2
            · exact .inr ⟨g2, c2, cur, e, by have := HB1.out; omega, r⟩
          · exact (HB0.out.trans ((HR.out.low.trans K1.out.low).mono (Nat.le_of_lt HB1.out)))
end Go.Proofs.Ytgjpkpmikbpcnaa
