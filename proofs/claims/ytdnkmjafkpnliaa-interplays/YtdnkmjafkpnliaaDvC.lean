/-
  Tasks and their visits: what the document's and the program's Of and Visits do; what the document's without does.
-/
import Derived.Test.YtdnkmjafkpnliaaDcB
import Derived.Test.YtdnkmjafkpnliaaTwA
namespace Go.Proofs.Ytdnkmjafkpnliaa
open Go.RowKit

/-- The visits of a task. -/
def visL (s : Bool) (i : Int) : List Vst := if s = true then [(2, i), (3, i)] else [(1, i)]
theorem visL_len (s : Bool) (i : Int) : (visL s i).length = visN s := by cases s <;> rfl
theorem visN_le (s : Bool) : 1 ≤ visN s ∧ visN s ≤ 2 := by cases s <;> exact ⟨by decide, by decide⟩
theorem visL_get (s : Bool) (i : Int) (k : Nat) (h : k < visN s) : (visL s i)[k]? = some (visK s k, i) := by
  cases s with
  | true =>
    have h2 : k < 2 := h
    have h3 : k = 0 ∨ k = 1 := by omega
    rcases h3 with rfl | rfl <;> rfl
  | false =>
    have h2 : k < 1 := h
    have h3 : k = 0 := by omega
    subst h3
    rfl
set_option maxRecDepth 100000 in
set_option maxHeartbeats 6400000 in
theorem rvis_any (w : World) (s : Bool) (i : Int) : Calls Try.prog 47 #[.agg #[.bool s, .int .i64 i]] w fun e w' => ∃ a c, e = .returned (.slice a (visN s) c) ∧ SlI w' a (visN s) c (visL s i) ∧ Below w.heap.size w w' := by
  have HB0 : Hid (∀ A B, Below w.heap.size w ((w.alloc A).alloc B)) := fun A B => ((Below.refl _ _).alloc (Nat.le_refl _) A).alloc (by simp) B
  cases s with
  | true =>
    go_enter Try.func47, Try.ntmps47
    go_wp2
    go_ret
    have hr := heap_alloc2_new w (.cells #[.bool true, .int .i64 i] 67) (.cells #[.int .i64 2, .int .i64 i, .int .i64 3, .int .i64 i] 58)
    exact ⟨_, _, rfl, ⟨vs_lit (visL true i) (by show 2 ≤ 1000; omega) hr, rfl, (fun h => by cases h), Nat.le_refl _, fun _ => ⟨_, _, rfl⟩⟩, HB0.out _ _⟩
  | false =>
    go_enter Try.func47, Try.ntmps47
    go_wp2
    go_ret
    have hr := heap_alloc2_new w (.cells #[.bool false, .int .i64 i] 67) (.cells #[.int .i64 1, .int .i64 i] 58)
    exact ⟨_, _, rfl, ⟨vs_lit (visL false i) (by show 1 ≤ 1000; omega) hr, rfl, (fun h => by cases h), Nat.le_refl _, fun _ => ⟨_, _, rfl⟩⟩, HB0.out _ _⟩
set_option maxRecDepth 100000 in
set_option maxHeartbeats 6400000 in
theorem mvis_any (w : World) (s : Bool) (i : Int) : Calls Try.prog 68 #[.agg #[.bool s, .int .i64 i]] w fun e w' => ∃ a c, e = .returned (.slice a (visN s) c) ∧ SlI w' a (visN s) c (visL s i) ∧ Below w.heap.size w w' := by
  have HB0 : Hid (∀ A B, Below w.heap.size w ((w.alloc A).alloc B)) := fun A B => ((Below.refl _ _).alloc (Nat.le_refl _) A).alloc (by simp) B
  cases s with
  | true =>
    go_enter Try.func68, Try.ntmps68
    go_wp2
    go_ret
    have hr := heap_alloc2_new w (.cells #[.bool true, .int .i64 i] 67) (.cells #[.int .i64 2, .int .i64 i, .int .i64 3, .int .i64 i] 58)
    exact ⟨_, _, rfl, ⟨vs_lit (visL true i) (by show 2 ≤ 1000; omega) hr, rfl, (fun h => by cases h), Nat.le_refl _, fun _ => ⟨_, _, rfl⟩⟩, HB0.out _ _⟩
  | false =>
    go_enter Try.func68, Try.ntmps68
    go_wp2
    go_ret
    have hr := heap_alloc2_new w (.cells #[.bool false, .int .i64 i] 67) (.cells #[.int .i64 1, .int .i64 i] 58)
    exact ⟨_, _, rfl, ⟨vs_lit (visL false i) (by show 1 ≤ 1000; omega) hr, rfl, (fun h => by cases h), Nat.le_refl _, fun _ => ⟨_, _, rfl⟩⟩, HB0.out _ _⟩
set_option maxRecDepth 100000 in
set_option maxHeartbeats 6400000 in
theorem mof_any (w : World) (k i : Int) : Calls Try.prog 67 #[.agg #[.int .i64 k, .int .i64 i]] w fun e w' => e = .returned (.tuple #[taskE (ofM k i).1, .bool (ofM k i).2]) ∧ Below w.heap.size w w' := by
  have HB0 : Hid (∀ A B, Below w.heap.size w ((w.alloc A).alloc B)) := fun A B => ((Below.refl _ _).alloc (Nat.le_refl _) A).alloc (by simp) B
  unfold taskE ofM
  by_cases h1 : k = 1
  · subst h1
    rw [if_pos rfl]
    go_enter Try.func67, Try.ntmps67
    go_wp2
    refine bodyPost_ret (v := (.tuple #[.agg #[.bool false, .int .i64 i], .bool true])) ?_ rfl ⟨rfl, (by repeat (first | exact HB0.out _ _ | (refine Below.setCell ?_ (by simp) _) | refine Below.drew ?_))⟩
    simp [results, Try.results67, go_sem]
  · rw [if_neg h1]
    have e1 : (k == 1) = false := by simpa using h1
    by_cases h2 : k = 2
    · subst h2
      rw [if_pos rfl]
      clear h1 e1
      go_enter Try.func67, Try.ntmps67
      go_wp2
      refine bodyPost_ret (v := (.tuple #[.agg #[.bool true, .int .i64 i], .bool true])) ?_ rfl ⟨rfl, (by repeat (first | exact HB0.out _ _ | (refine Below.setCell ?_ (by simp) _) | refine Below.drew ?_))⟩
      simp [results, Try.results67, go_sem]
    · rw [if_neg h2]
      have e2 : (k == 2) = false := by simpa using h2
      by_cases h3 : k = 3
      · subst h3
        rw [if_pos rfl]
        clear h1 e1 h2 e2
        go_enter Try.func67, Try.ntmps67
        go_wp2
        refine bodyPost_ret (v := (.tuple #[.agg #[.bool true, .int .i64 i], .bool true])) ?_ rfl ⟨rfl, (by repeat (first | exact HB0.out _ _ | (refine Below.setCell ?_ (by simp) _) | refine Below.drew ?_))⟩
        simp [results, Try.results67, go_sem]
      · rw [if_neg h3]
        have e3 : (k == 3) = false := by simpa using h3
        go_enter Try.func67, Try.ntmps67
        go_wp2
        refine bodyPost_ret (v := (.tuple #[.agg #[.bool false, .int .i64 0], .bool false])) ?_ rfl ⟨rfl, (by repeat (first | exact HB0.out _ _ | (refine Below.setCell ?_ (by simp) _) | refine Below.drew ?_))⟩
        simp [results, Try.results67, go_sem]
/-- A list without the visits of a task. -/
def outM (s : Bool) (i : Int) (V : List Vst) : List Vst := V.filter fun x => !(visL s i).contains x
theorem out_step {s : Bool} {i : Int} {V : List Vst} {q : Nat} {u : Vst} (h : V[q]? = some u) : outM s i (V.take (q + 1)) = outM s i (V.take q) ++ (if (!(visL s i).contains u) = true then [u] else []) := by
  obtain ⟨hk, e⟩ := List.getElem?_eq_some_iff.1 h
  unfold outM
  rw [List.take_succ_eq_append_getElem hk, e, List.filter_append, List.filter_cons, List.filter_nil]
theorem out_le (s : Bool) (i : Int) (V : List Vst) : (outM s i V).length ≤ V.length := List.length_filter_le _ _
theorem con_yes {s : Bool} {i : Int} {u : Vst} (h : u ∈ visL s i) : (!(visL s i).contains u) = false := by
  rw [List.contains_iff_mem.2 h]; rfl
theorem con_no {s : Bool} {i : Int} {u : Vst} (h : u ∉ visL s i) : (!(visL s i).contains u) = true := by
  cases hc : (visL s i).contains u with
  | true => exact absurd (List.contains_iff_mem.1 hc) h
  | false => rfl
set_option maxRecDepth 100000 in
set_option maxHeartbeats 12800000 in
theorem rwithout_true {w : World} {va : Option Addr} {m vc : Nat} {V : List Vst} (h : VsV w (.slice va m vc) V) (hm : V.length = m) (hm2 : m ≤ 900) (it : Int) : Calls Try.prog 58 #[.slice va m vc, .agg #[.bool true, .int .i64 it]] w fun e w' => ∃ a q c, e = .returned (.tuple #[.slice a q c, .int .i64 ((m : Int) - (q : Int))]) ∧ (outM true it V).length = q ∧ VRow w' w.heap.size (.slice a q c) (outM true it V) ∧ Below w.heap.size w w' := by
  have HV := hide h
  have HM := hide hm
  have HBW : Hid (Below w.heap.size w (w.alloc (.cells #[.bool true, .int .i64 it] 67))) := (Below.refl _ _).alloc (Nat.le_refl _) _
  clear h hm
  go_enter Try.func58, Try.ntmps58
  go_wp2_with (first | (go_at_call 47; refine (rvis_any _ _ _).mono ?_; rintro e w1 ⟨a1, c1, rfl, q1, k1⟩; have Q1 := hide q1; have K1 : Hid (Below w.heap.size w w1) := (below_on HBW.out k1); clear q1 k1) | fail)
  have hv0 : visN true = 2 := rfl
  rw [hv0] at Q1
  obtain ⟨gv, ov, hgv, hgl, v0, v0', -⟩ := vs_cells Q1.out.vs (visL_get true it 0 (by decide))
  subst hgv
  obtain ⟨gv2, ov2, hgv2, -, v1, v1', -⟩ := vs_cells Q1.out.vs (visL_get true it 1 (by decide))
  injection hgv2 with hgv2
  injection hgv2 with e1 e2 _
  subst e1 e2
  have HVC : Hid (∀ W, Below w1.heap.size w1 W → W.cell? ⟨gv, ov, none⟩ = some (.int .i64 2) ∧ W.cell? ⟨gv, ov + 1, none⟩ = some (.int .i64 it) ∧ W.cell? ⟨gv, ov + 2, none⟩ = some (.int .i64 3) ∧ W.cell? ⟨gv, ov + 2 + 1, none⟩ = some (.int .i64 it)) := fun W hf => ⟨((bcell hf).1 _ _ hgl).trans v0, ((bcell hf).1 _ _ hgl).trans v0', ((bcell hf).1 _ _ hgl).trans v1, ((bcell hf).1 _ _ hgl).trans v1'⟩
  clear v0 v0' v1 v1'
  have hvn : visN true = 2 := rfl
  try (rw [hvn])
  clear hvn hv0
  go_wp2_with fail
  go_loopw [8, 6] (fun vi vo wr => ∃ (q r : Nat) (a : Option Addr) (c : Nat), vi = .int .i64 q ∧ vo = .slice a r c ∧ q ≤ m ∧ r ≤ q ∧ Hid ((outM true it (V.take q)).length = r) ∧ Hid (VRow wr w1.heap.size (.slice a r c) (outM true it (V.take q))) ∧ Hid (Below w1.heap.size w1 wr)) (fun vi _ _ => m - (intOf vi).toNat)
  case atStart => exact ⟨0, 0, none, 0, rfl, rfl, Nat.zero_le _, Nat.le_refl _, rfl, World.ownsRow_nil _ _ 58 2, Below.refl _ _⟩
  case round =>
    obtain ⟨q, r, a, c, rfl, rfl, hq, hrq, HLR, HR, HB⟩ := hrel
    by_cases hqm : q < m
    · have j1 : (q : Int) < (m : Int) := by omega
      have j2 : (0 : Int) ≤ (q : Int) := by omega
      have j4 : ¬ (m : Int) ≤ (q : Int) := by omega
      obtain ⟨⟨xk, xi⟩, hu⟩ : ∃ u, V[q]? = some u := ⟨_, List.getElem?_eq_getElem (by rw [HM.out]; exact hqm)⟩
      have HST := hide (out_step (s := true) (i := it) hu)
      obtain ⟨b, off, rfl, hb, c1, c2, -⟩ := vs_cells HV.out hu
      simp only at c1 c2
      have z1 : wr.cell? ⟨b, off + q * 2, none⟩ = some (.int .i64 xk) := ((bcell (below_on K1.out HB.out)).1 _ _ hb).trans c1
      have z2 : wr.cell? ⟨b, off + q * 2 + 1, none⟩ = some (.int .i64 xi) := ((bcell (below_on K1.out HB.out)).1 _ _ hb).trans c2
      obtain ⟨z3, z4, z5, z6⟩ := HVC.out _ HB.out
      have HDR : Hid (∀ k, Below w1.heap.size w1 (wr.drewN k)) := fun k => below_drewN HB.out k
      clear hu c1 c2 hb
      by_cases hi : xi = it
      · have y2 : (xi == it) = true := by simpa using hi
        by_cases h0 : xk = 2
        · have y1 : (xk == 2) = true := by simpa using h0
          have hc : xk = 2 ∧ xi = it := ⟨h0, hi⟩
          have HK : Hid (¬ (!(visL true it).contains (xk, xi)) = true) := by show ¬ _; rw [con_yes (by simp [visL]; omega)]; simp
          clear hc hi h0
          go_wp2_with fail
          first | (go_quiet (fail)) | fail
          go_wp2_with fail
          go_roundw
          case rel => exact ⟨q + 1, r, a, c, by go_num, rfl, by omega, by omega, by show _ = _; rw [HST.out, if_neg HK.out, List.append_nil]; exact HLR.out, by show VRow _ _ _ _; rw [HST.out, if_neg HK.out, List.append_nil]; exact HR.out, HDR.out _⟩
          case measure => simp [intOf]; omega
        · have y1 : (xk == 2) = false := by simpa using h0
          by_cases h3 : xk = 3
          · have y3 : (xk == 3) = true := by simpa using h3
            have hc : xk = 3 ∧ xi = it := ⟨h3, hi⟩
            have HK : Hid (¬ (!(visL true it).contains (xk, xi)) = true) := by show ¬ _; rw [con_yes (by simp [visL]; omega)]; simp
            clear hc hi h0 h3
            go_wp2_with fail
            first | (go_quiet (fail)) | fail
            go_wp2_with fail
            go_roundw
            case rel => exact ⟨q + 1, r, a, c, by go_num, rfl, by omega, by omega, by show _ = _; rw [HST.out, if_neg HK.out, List.append_nil]; exact HLR.out, by show VRow _ _ _ _; rw [HST.out, if_neg HK.out, List.append_nil]; exact HR.out, HDR.out _⟩
            case measure => simp [intOf]; omega
          · have y3 : (xk == 3) = false := by simpa using h3
            have hc : ¬ xk = 2 ∧ ¬ xk = 3 := ⟨h0, h3⟩
            have HK : Hid ((!(visL true it).contains (xk, xi)) = true) := con_no (by simp [visL]; omega)
            clear hc hi h0 h3
            go_wp2_with fail
            first | (go_quiet (fail)) | fail
            go_wp2_with (first | (at_builtin; refine app_one (w := (wr.drewN _).alloc (.cells #[.int .i64 xk, .int .i64 xi] 58)) (u := (xk, xi)) (.tmp 38) (.tmp 43) rfl rfl rfl rfl (heap_alloc_new _ _) (VRow.later HR.out (Nat.le_refl _) (low_alloc (below_drewN (Below.refl _ _) _) _)) HLR.out (by omega) (Nat.le_trans HB.out.size (by simp)) ?_; intro g1 c1 w7 s1 s2 s3; have RA := hide s1; have E7 : Hid (Below w1.heap.size w1 w7) := below_own (low_alloc (HDR.out _) _) HR.out s2 (Nat.le_trans HB.out.size (by simp)); clear s1 s2 s3) | fail)
            go_roundw
            case rel => exact ⟨q + 1, r + 1, some ⟨g1, 0, none⟩, c1, by go_num, rfl, by omega, by omega, by show _ = _; rw [HST.out, if_pos HK.out, List.length_append, HLR.out]; rfl, by show VRow _ _ _ _; rw [HST.out, if_pos HK.out]; exact RA.out, E7.out⟩
            case measure => simp [intOf]; omega
      · have y2 : (xi == it) = false := by simpa using hi
        have hc : ¬ xi = it := hi
        by_cases h0 : xk = 2
        · have y1 : (xk == 2) = true := by simpa using h0
          have y3 : (xk == 3) = false := by simp; omega
          have HK : Hid ((!(visL true it).contains (xk, xi)) = true) := con_no (by simp [visL]; omega)
          clear hc hi h0
          go_wp2_with fail
          first | (go_quiet (fail)) | fail
          go_wp2_with (first | (at_builtin; refine app_one (w := (wr.drewN _).alloc (.cells #[.int .i64 xk, .int .i64 xi] 58)) (u := (xk, xi)) (.tmp 38) (.tmp 43) rfl rfl rfl rfl (heap_alloc_new _ _) (VRow.later HR.out (Nat.le_refl _) (low_alloc (below_drewN (Below.refl _ _) _) _)) HLR.out (by omega) (Nat.le_trans HB.out.size (by simp)) ?_; intro g1 c1 w7 s1 s2 s3; have RA := hide s1; have E7 : Hid (Below w1.heap.size w1 w7) := below_own (low_alloc (HDR.out _) _) HR.out s2 (Nat.le_trans HB.out.size (by simp)); clear s1 s2 s3) | fail)
          go_roundw
          case rel => exact ⟨q + 1, r + 1, some ⟨g1, 0, none⟩, c1, by go_num, rfl, by omega, by omega, by show _ = _; rw [HST.out, if_pos HK.out, List.length_append, HLR.out]; rfl, by show VRow _ _ _ _; rw [HST.out, if_pos HK.out]; exact RA.out, E7.out⟩
          case measure => simp [intOf]; omega
        · have y1 : (xk == 2) = false := by simpa using h0
          by_cases h3 : xk = 3
          · have y3 : (xk == 3) = true := by simpa using h3
            have HK : Hid ((!(visL true it).contains (xk, xi)) = true) := con_no (by simp [visL]; omega)
            clear hc hi h0 h3
            go_wp2_with fail
            first | (go_quiet (fail)) | fail
            go_wp2_with (first | (at_builtin; refine app_one (w := (wr.drewN _).alloc (.cells #[.int .i64 xk, .int .i64 xi] 58)) (u := (xk, xi)) (.tmp 38) (.tmp 43) rfl rfl rfl rfl (heap_alloc_new _ _) (VRow.later HR.out (Nat.le_refl _) (low_alloc (below_drewN (Below.refl _ _) _) _)) HLR.out (by omega) (Nat.le_trans HB.out.size (by simp)) ?_; intro g1 c1 w7 s1 s2 s3; have RA := hide s1; have E7 : Hid (Below w1.heap.size w1 w7) := below_own (low_alloc (HDR.out _) _) HR.out s2 (Nat.le_trans HB.out.size (by simp)); clear s1 s2 s3) | fail)
            go_roundw
            case rel => exact ⟨q + 1, r + 1, some ⟨g1, 0, none⟩, c1, by go_num, rfl, by omega, by omega, by show _ = _; rw [HST.out, if_pos HK.out, List.length_append, HLR.out]; rfl, by show VRow _ _ _ _; rw [HST.out, if_pos HK.out]; exact RA.out, E7.out⟩
            case measure => simp [intOf]; omega
          · have y3 : (xk == 3) = false := by simpa using h3
            have HK : Hid ((!(visL true it).contains (xk, xi)) = true) := con_no (by simp [visL]; omega)
            clear hc hi h0 h3
            go_wp2_with fail
            first | (go_quiet (fail)) | fail
            go_wp2_with (first | (at_builtin; refine app_one (w := (wr.drewN _).alloc (.cells #[.int .i64 xk, .int .i64 xi] 58)) (u := (xk, xi)) (.tmp 38) (.tmp 43) rfl rfl rfl rfl (heap_alloc_new _ _) (VRow.later HR.out (Nat.le_refl _) (low_alloc (below_drewN (Below.refl _ _) _) _)) HLR.out (by omega) (Nat.le_trans HB.out.size (by simp)) ?_; intro g1 c1 w7 s1 s2 s3; have RA := hide s1; have E7 : Hid (Below w1.heap.size w1 w7) := below_own (low_alloc (HDR.out _) _) HR.out s2 (Nat.le_trans HB.out.size (by simp)); clear s1 s2 s3) | fail)
            go_roundw
            case rel => exact ⟨q + 1, r + 1, some ⟨g1, 0, none⟩, c1, by go_num, rfl, by omega, by omega, by show _ = _; rw [HST.out, if_pos HK.out, List.length_append, HLR.out]; rfl, by show VRow _ _ _ _; rw [HST.out, if_pos HK.out]; exact RA.out, E7.out⟩
            case measure => simp [intOf]; omega
    · have j1 : ¬ (q : Int) < (m : Int) := by omega
      have hqe : q = m := by omega
      have HT : Hid (outM true it (V.take q) = outM true it V) := by show _ = _; rw [List.take_of_length_le (by rw [HM.out]; omega)]
      have w9 : IntKind.i64.wrap ((m : Int) - (r : Int)) = (m : Int) - (r : Int) := by rw [IntKind.wrap_i64]; omega
      go_wp2_with fail
      go_ret2
      exact ⟨_, r, _, rfl, by have h9 := HLR.out; rw [HT.out] at h9; exact h9, own_mono (by have h9 := HR.out; rw [HT.out] at h9; exact h9) K1.out.size, below_on K1.out HB.out⟩
set_option maxRecDepth 100000 in
set_option maxHeartbeats 12800000 in
theorem rwithout_false {w : World} {va : Option Addr} {m vc : Nat} {V : List Vst} (h : VsV w (.slice va m vc) V) (hm : V.length = m) (hm2 : m ≤ 900) (it : Int) : Calls Try.prog 58 #[.slice va m vc, .agg #[.bool false, .int .i64 it]] w fun e w' => ∃ a q c, e = .returned (.tuple #[.slice a q c, .int .i64 ((m : Int) - (q : Int))]) ∧ (outM false it V).length = q ∧ VRow w' w.heap.size (.slice a q c) (outM false it V) ∧ Below w.heap.size w w' := by
  have HV := hide h
  have HM := hide hm
  have HBW : Hid (Below w.heap.size w (w.alloc (.cells #[.bool false, .int .i64 it] 67))) := (Below.refl _ _).alloc (Nat.le_refl _) _
  clear h hm
  go_enter Try.func58, Try.ntmps58
  go_wp2_with (first | (go_at_call 47; refine (rvis_any _ _ _).mono ?_; rintro e w1 ⟨a1, c1, rfl, q1, k1⟩; have Q1 := hide q1; have K1 : Hid (Below w.heap.size w w1) := (below_on HBW.out k1); clear q1 k1) | fail)
  have hv0 : visN false = 1 := rfl
  rw [hv0] at Q1
  obtain ⟨gv, ov, hgv, hgl, v0, v0', -⟩ := vs_cells Q1.out.vs (visL_get false it 0 (by decide))
  subst hgv
  have HVC : Hid (∀ W, Below w1.heap.size w1 W → W.cell? ⟨gv, ov, none⟩ = some (.int .i64 1) ∧ W.cell? ⟨gv, ov + 1, none⟩ = some (.int .i64 it)) := fun W hf => ⟨((bcell hf).1 _ _ hgl).trans v0, ((bcell hf).1 _ _ hgl).trans v0'⟩
  clear v0 v0'
  have hvn : visN false = 1 := rfl
  try (rw [hvn])
  clear hvn hv0
  go_wp2_with fail
  go_loopw [8, 6] (fun vi vo wr => ∃ (q r : Nat) (a : Option Addr) (c : Nat), vi = .int .i64 q ∧ vo = .slice a r c ∧ q ≤ m ∧ r ≤ q ∧ Hid ((outM false it (V.take q)).length = r) ∧ Hid (VRow wr w1.heap.size (.slice a r c) (outM false it (V.take q))) ∧ Hid (Below w1.heap.size w1 wr)) (fun vi _ _ => m - (intOf vi).toNat)
  case atStart => exact ⟨0, 0, none, 0, rfl, rfl, Nat.zero_le _, Nat.le_refl _, rfl, World.ownsRow_nil _ _ 58 2, Below.refl _ _⟩
  case round =>
    obtain ⟨q, r, a, c, rfl, rfl, hq, hrq, HLR, HR, HB⟩ := hrel
    by_cases hqm : q < m
    · have j1 : (q : Int) < (m : Int) := by omega
      have j2 : (0 : Int) ≤ (q : Int) := by omega
      have j4 : ¬ (m : Int) ≤ (q : Int) := by omega
      obtain ⟨⟨xk, xi⟩, hu⟩ : ∃ u, V[q]? = some u := ⟨_, List.getElem?_eq_getElem (by rw [HM.out]; exact hqm)⟩
      have HST := hide (out_step (s := false) (i := it) hu)
      obtain ⟨b, off, rfl, hb, c1, c2, -⟩ := vs_cells HV.out hu
      simp only at c1 c2
      have z1 : wr.cell? ⟨b, off + q * 2, none⟩ = some (.int .i64 xk) := ((bcell (below_on K1.out HB.out)).1 _ _ hb).trans c1
      have z2 : wr.cell? ⟨b, off + q * 2 + 1, none⟩ = some (.int .i64 xi) := ((bcell (below_on K1.out HB.out)).1 _ _ hb).trans c2
      obtain ⟨z3, z4⟩ := HVC.out _ HB.out
      have HDR : Hid (∀ k, Below w1.heap.size w1 (wr.drewN k)) := fun k => below_drewN HB.out k
      clear hu c1 c2 hb
      by_cases hi : xi = it
      · have y2 : (xi == it) = true := by simpa using hi
        by_cases h0 : xk = 1
        · have y1 : (xk == 1) = true := by simpa using h0
          have hc : xk = 1 ∧ xi = it := ⟨h0, hi⟩
          have HK : Hid (¬ (!(visL false it).contains (xk, xi)) = true) := by show ¬ _; rw [con_yes (by simp [visL]; omega)]; simp
          clear hc hi h0
          go_wp2_with fail
          first | (go_quiet (fail)) | fail
          go_wp2_with fail
          go_roundw
          case rel => exact ⟨q + 1, r, a, c, by go_num, rfl, by omega, by omega, by show _ = _; rw [HST.out, if_neg HK.out, List.append_nil]; exact HLR.out, by show VRow _ _ _ _; rw [HST.out, if_neg HK.out, List.append_nil]; exact HR.out, HDR.out _⟩
          case measure => simp [intOf]; omega
        · have y1 : (xk == 1) = false := by simpa using h0
          have hc : ¬ xk = 1 := h0
          have HK : Hid ((!(visL false it).contains (xk, xi)) = true) := con_no (by simp [visL]; omega)
          clear hc hi h0
          go_wp2_with fail
          first | (go_quiet (fail)) | fail
          go_wp2_with (first | (at_builtin; refine app_one (w := (wr.drewN _).alloc (.cells #[.int .i64 xk, .int .i64 xi] 58)) (u := (xk, xi)) (.tmp 38) (.tmp 43) rfl rfl rfl rfl (heap_alloc_new _ _) (VRow.later HR.out (Nat.le_refl _) (low_alloc (below_drewN (Below.refl _ _) _) _)) HLR.out (by omega) (Nat.le_trans HB.out.size (by simp)) ?_; intro g1 c1 w7 s1 s2 s3; have RA := hide s1; have E7 : Hid (Below w1.heap.size w1 w7) := below_own (low_alloc (HDR.out _) _) HR.out s2 (Nat.le_trans HB.out.size (by simp)); clear s1 s2 s3) | fail)
          go_roundw
          case rel => exact ⟨q + 1, r + 1, some ⟨g1, 0, none⟩, c1, by go_num, rfl, by omega, by omega, by show _ = _; rw [HST.out, if_pos HK.out, List.length_append, HLR.out]; rfl, by show VRow _ _ _ _; rw [HST.out, if_pos HK.out]; exact RA.out, E7.out⟩
          case measure => simp [intOf]; omega
      · have y2 : (xi == it) = false := by simpa using hi
        have hc : ¬ xi = it := hi
        by_cases h0 : xk = 1
        · have y1 : (xk == 1) = true := by simpa using h0
          have HK : Hid ((!(visL false it).contains (xk, xi)) = true) := con_no (by simp [visL]; omega)
          clear hc hi h0
          go_wp2_with fail
          first | (go_quiet (fail)) | fail
          go_wp2_with (first | (at_builtin; refine app_one (w := (wr.drewN _).alloc (.cells #[.int .i64 xk, .int .i64 xi] 58)) (u := (xk, xi)) (.tmp 38) (.tmp 43) rfl rfl rfl rfl (heap_alloc_new _ _) (VRow.later HR.out (Nat.le_refl _) (low_alloc (below_drewN (Below.refl _ _) _) _)) HLR.out (by omega) (Nat.le_trans HB.out.size (by simp)) ?_; intro g1 c1 w7 s1 s2 s3; have RA := hide s1; have E7 : Hid (Below w1.heap.size w1 w7) := below_own (low_alloc (HDR.out _) _) HR.out s2 (Nat.le_trans HB.out.size (by simp)); clear s1 s2 s3) | fail)
          go_roundw
          case rel => exact ⟨q + 1, r + 1, some ⟨g1, 0, none⟩, c1, by go_num, rfl, by omega, by omega, by show _ = _; rw [HST.out, if_pos HK.out, List.length_append, HLR.out]; rfl, by show VRow _ _ _ _; rw [HST.out, if_pos HK.out]; exact RA.out, E7.out⟩
          case measure => simp [intOf]; omega
        · have y1 : (xk == 1) = false := by simpa using h0
          have HK : Hid ((!(visL false it).contains (xk, xi)) = true) := con_no (by simp [visL]; omega)
          clear hc hi h0
          go_wp2_with fail
          first | (go_quiet (fail)) | fail
          go_wp2_with (first | (at_builtin; refine app_one (w := (wr.drewN _).alloc (.cells #[.int .i64 xk, .int .i64 xi] 58)) (u := (xk, xi)) (.tmp 38) (.tmp 43) rfl rfl rfl rfl (heap_alloc_new _ _) (VRow.later HR.out (Nat.le_refl _) (low_alloc (below_drewN (Below.refl _ _) _) _)) HLR.out (by omega) (Nat.le_trans HB.out.size (by simp)) ?_; intro g1 c1 w7 s1 s2 s3; have RA := hide s1; have E7 : Hid (Below w1.heap.size w1 w7) := below_own (low_alloc (HDR.out _) _) HR.out s2 (Nat.le_trans HB.out.size (by simp)); clear s1 s2 s3) | fail)
          go_roundw
          case rel => exact ⟨q + 1, r + 1, some ⟨g1, 0, none⟩, c1, by go_num, rfl, by omega, by omega, by show _ = _; rw [HST.out, if_pos HK.out, List.length_append, HLR.out]; rfl, by show VRow _ _ _ _; rw [HST.out, if_pos HK.out]; exact RA.out, E7.out⟩
          case measure => simp [intOf]; omega
    · have j1 : ¬ (q : Int) < (m : Int) := by omega
      have hqe : q = m := by omega
      have HT : Hid (outM false it (V.take q) = outM false it V) := by show _ = _; rw [List.take_of_length_le (by rw [HM.out]; omega)]
      have w9 : IntKind.i64.wrap ((m : Int) - (r : Int)) = (m : Int) - (r : Int) := by rw [IntKind.wrap_i64]; omega
      go_wp2_with fail
      go_ret2
      exact ⟨_, r, _, rfl, by have h9 := HLR.out; rw [HT.out] at h9; exact h9, own_mono (by have h9 := HR.out; rw [HT.out] at h9; exact h9) K1.out.size, below_on K1.out HB.out⟩
theorem rwithout_any {w : World} {va : Option Addr} {m vc : Nat} {V : List Vst} (h : VsV w (.slice va m vc) V) (hm : V.length = m) (hm2 : m ≤ 900) (s : Bool) (it : Int) : Calls Try.prog 58 #[.slice va m vc, .agg #[.bool s, .int .i64 it]] w fun e w' => ∃ a q c, e = .returned (.tuple #[.slice a q c, .int .i64 ((m : Int) - (q : Int))]) ∧ (outM s it V).length = q ∧ VRow w' w.heap.size (.slice a q c) (outM s it V) ∧ Below w.heap.size w w' := by
  cases s
  · exact rwithout_false h hm hm2 it
  · exact rwithout_true h hm hm2 it
end Go.Proofs.Ytdnkmjafkpnliaa
