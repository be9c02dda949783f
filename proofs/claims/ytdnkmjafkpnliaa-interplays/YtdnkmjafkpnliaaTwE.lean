/-
  What inter's count, Contains, without, wholeAt, fits and with do.
-/
import Derived.Test.YtdnkmjafkpnliaaDvC
import Derived.Test.YtdnkmjafkpnliaaPrA
namespace Go.Proofs.Ytdnkmjafkpnliaa
open Go.RowKit

set_option maxRecDepth 100000 in
set_option maxHeartbeats 12800000 in
theorem tcount_any {w : World} {n c : Nat} {a : Option Addr} {V : List Vst} (hV : VsV w (.slice a n c) V) (hm : V.length = n) (hm2 : n ≤ 900) (kd it : Int) : Calls Try.prog 69 #[.slice a n c, .agg #[.int .i64 kd, .int .i64 it]] w fun e w' => e = .returned (.int .i64 (V.count (kd, it) : Nat)) ∧ Below w.heap.size w w' := by
  have HV := hide hV
  have HM := hide hm
  clear hV hm
  obtain ⟨W, hW⟩ : ∃ W, W = w.alloc (.cells #[.int .i64 kd, .int .i64 it] 58) := ⟨_, rfl⟩
  have HBW : Hid (Below w.heap.size w W) := by rw [hW]; exact (Below.refl _ _).alloc (Nat.le_refl _) _
  have HBL : Hid (W.heap[w.heap.size]? = some (.cells #[.int .i64 kd, .int .i64 it] 58)) := by show _ = _; rw [hW]; exact heap_alloc_new _ _
  go_enter Try.func69, Try.ntmps69
  go_wp2_with fail
  rw [← hW]
  clear hW
  go_loopw [10, 5] (fun vi v5 wr => ∃ q s : Nat, vi = .int .i64 q ∧ v5 = .int .i64 s ∧ q ≤ n ∧ s ≤ q ∧ Hid ((V.take q).count (kd, it) = s) ∧ Hid (Below W.heap.size W wr)) (fun vi _ _ => n - (intOf vi).toNat)
  case atStart => exact ⟨0, 0, rfl, rfl, Nat.zero_le _, Nat.zero_le _, rfl, Below.refl _ _⟩
  case round =>
    obtain ⟨q, s, rfl, rfl, hq, hsq, HS, HB⟩ := hrel
    by_cases hqn : q < n
    · have i1 : (q : Int) < (n : Int) := by omega
      have i2 : (0 : Int) ≤ (q : Int) := by omega
      have i3 : ¬ (n : Int) ≤ (q : Int) := by omega
      obtain ⟨⟨xk, xi⟩, hu⟩ : ∃ u, V[q]? = some u := ⟨_, List.getElem?_eq_getElem (by rw [HM.out]; exact hqn)⟩
      obtain ⟨b, off, rfl, hb, c1, c2, _⟩ := vs_cells HV.out hu
      simp only at c1 c2
      have d1 : wr.cell? ⟨b, off + q * 2, none⟩ = some (.int .i64 xk) := ((bcell (below_on HBW.out HB.out)).1 _ _ hb).trans c1
      have d2 : wr.cell? ⟨b, off + q * 2 + 1, none⟩ = some (.int .i64 xi) := ((bcell (below_on HBW.out HB.out)).1 _ _ hb).trans c2
      have HBl2 := hide ((HB.out.block _ (lt_of_block HBL.out)).trans HBL.out)
      have e1 : wr.cell? ⟨w.heap.size, 0, none⟩ = some (.int .i64 kd) := cell_of_row _ _ _ _ _ _ HBl2.out
      have e2 : wr.cell? ⟨w.heap.size, 1, none⟩ = some (.int .i64 it) := cell_of_row _ _ _ _ _ _ HBl2.out
      have l0 : w.heap.size < wr.heap.size := lt_of_block HBl2.out
      have ne : ¬ w.heap.size = wr.heap.size := by omega
      have HCT := hide (count_step (v := (kd, it)) hu)
      have HBA := hide (below_on HB.out ((Below.refl _ _).alloc (Nat.le_refl _) (.cells #[.int .i64 xk, .int .i64 xi] 58)))
      clear c1 c2 hu hb
      by_cases hc : xk = kd ∧ xi = it
      · have HF : Hid ((V.take (q + 1)).count (kd, it) = s + 1) := by show _ = _; rw [HCT.out, HS.out, if_pos (by rw [hc.1, hc.2])]
        have y1 : (xk == kd) = true := by simpa using hc.1
        have y2 : (xi == it) = true := by simpa using hc.2
        clear hc
        go_wp2_with fail
        go_roundw
        case rel => exact ⟨q + 1, s + 1, by go_num, by go_num, by omega, by omega, HF.out, HBA.out⟩
        case measure => simp [intOf]; omega
      · have HF : Hid ((V.take (q + 1)).count (kd, it) = s) := by show _ = _; rw [HCT.out, HS.out, if_neg (fun e => hc (by injection e with e1 e2; exact ⟨e1, e2⟩))]; rfl
        by_cases ek : xk = kd
        · have y1 : (xk == kd) = true := by simpa using ek
          have y2 : (xi == it) = false := by simpa using fun e => hc ⟨ek, e⟩
          clear hc ek
          go_wp2_with fail
          go_roundw
          case rel => exact ⟨q + 1, s, by go_num, rfl, by omega, by omega, HF.out, HBA.out⟩
          case measure => simp [intOf]; omega
        · have y1 : (xk == kd) = false := by simpa using ek
          clear hc ek
          go_wp2_with fail
          go_roundw
          case rel => exact ⟨q + 1, s, by go_num, rfl, by omega, by omega, HF.out, HBA.out⟩
          case measure => simp [intOf]; omega
    · have i1 : ¬ (q : Int) < (n : Int) := by omega
      have hqe : q = n := by omega
      have HF : Hid (V.count (kd, it) = s) := by have h9 := HS.out; rw [List.take_of_length_le (by rw [HM.out]; omega)] at h9; exact h9
      clear hqe
      go_wp2_with fail
      go_ret
      exact ⟨by rw [HF.out]; rfl, below_on HBW.out HB.out⟩
theorem at_new9 {W : World} {o : Obj} : (W.alloc o).heap[W.heap.size]? = some o := heap_alloc_new W o
theorem mem_step {T : List Vst} {q : Nat} {u v : Vst} (h : T[q]? = some u) (h1 : v ∉ T.take q) (h2 : ¬ u = v) : v ∉ T.take (q + 1) := by
  obtain ⟨hk, e⟩ := List.getElem?_eq_some_iff.1 h
  rw [List.take_succ_eq_append_getElem hk, e]
  intro h9
  rcases List.mem_append.1 h9 with h9 | h9
  · exact h1 h9
  · exact h2 (List.mem_singleton.1 h9).symm
set_option maxRecDepth 100000 in
set_option maxHeartbeats 12800000 in
theorem index_any {w : World} {n c : Nat} {a : Option Addr} {T : List Vst} (hT : VsV w (.slice a n c) T) (hm : T.length = n) (hm2 : n ≤ 900) (kd it : Int) : Calls Try.prog 72 #[.slice a n c, .agg #[.int .i64 kd, .int .i64 it]] w fun e w' => ∃ x : Int, e = .returned (.int .i64 x) ∧ (((kd, it) ∈ T ∧ 0 ≤ x) ∨ ((kd, it) ∉ T ∧ x = -1)) ∧ Below w.heap.size w w' := by
  have HV := hide hT
  have HM := hide hm
  clear hT hm
  obtain ⟨W, hW⟩ : ∃ W, W = w.alloc (.cells #[.int .i64 kd, .int .i64 it] 58) := ⟨_, rfl⟩
  have HBW : Hid (Below w.heap.size w W) := by rw [hW]; exact (Below.refl _ _).alloc (Nat.le_refl _) _
  have HBL : Hid (W.heap[w.heap.size]? = some (.cells #[.int .i64 kd, .int .i64 it] 58)) := by show _ = _; rw [hW]; exact heap_alloc_new _ _
  go_enter Try.func72, Try.ntmps72
  go_wp2_with fail
  rw [← hW]
  clear hW
  go_loopw [8] (fun vi wr => ∃ q : Nat, vi = .int .i64 q ∧ q ≤ n ∧ Hid ((kd, it) ∉ T.take q) ∧ Hid (Below W.heap.size W wr)) (fun vi _ => n - (intOf vi).toNat)
  case atStart => exact ⟨0, rfl, Nat.zero_le _, by show _ ∉ _; simp, Below.refl _ _⟩
  case round =>
    obtain ⟨q, rfl, hq, HS, HB⟩ := hrel
    by_cases hqn : q < n
    · have i1 : (q : Int) < (n : Int) := by omega
      have i2 : (0 : Int) ≤ (q : Int) := by omega
      have i3 : ¬ (n : Int) ≤ (q : Int) := by omega
      obtain ⟨⟨xk, xi⟩, hu⟩ : ∃ u, T[q]? = some u := ⟨_, List.getElem?_eq_getElem (by rw [HM.out]; exact hqn)⟩
      have HU := hide hu
      obtain ⟨b, off, rfl, hb, c1, c2, _⟩ := vs_cells HV.out hu
      simp only at c1 c2
      have d1 : wr.cell? ⟨b, off + q * 2, none⟩ = some (.int .i64 xk) := ((bcell (below_on HBW.out HB.out)).1 _ _ hb).trans c1
      have d2 : wr.cell? ⟨b, off + q * 2 + 1, none⟩ = some (.int .i64 xi) := ((bcell (below_on HBW.out HB.out)).1 _ _ hb).trans c2
      have HBl2 := hide ((HB.out.block _ (lt_of_block HBL.out)).trans HBL.out)
      have e1 : wr.cell? ⟨w.heap.size, 0, none⟩ = some (.int .i64 kd) := cell_of_row _ _ _ _ _ _ HBl2.out
      have e2 : wr.cell? ⟨w.heap.size, 1, none⟩ = some (.int .i64 it) := cell_of_row _ _ _ _ _ _ HBl2.out
      have HDR : Hid (∀ k, Below W.heap.size W (wr.drewN k)) := fun k => below_drewN HB.out k
      clear c1 c2 hu hb
      by_cases hc : kd = xk ∧ it = xi
      · have HF : Hid ((kd, it) ∈ T) := by show _ ∈ _; rw [hc.1, hc.2]; exact List.mem_of_getElem? HU.out
        have y1 : (kd == xk) = true := by simpa using hc.1
        have y2 : (it == xi) = true := by simpa using hc.2
        clear hc
        go_wp2_with fail
        first | (go_quiet (fail)) | fail
        go_wp2_with fail
        go_ret
        exact ⟨_, rfl, .inl ⟨HF.out, i2⟩, below_on HBW.out (HDR.out _)⟩
      · have HF : Hid ((kd, it) ∉ T.take (q + 1)) := mem_step HU.out HS.out (fun e => hc (by injection e with e1 e2; exact ⟨e1.symm, e2.symm⟩))
        by_cases ek : kd = xk
        · have y1 : (kd == xk) = true := by simpa using ek
          have y2 : (it == xi) = false := by simpa using fun e => hc ⟨ek, e⟩
          clear hc ek
          go_wp2_with fail
          first | (go_quiet (fail)) | fail
          go_wp2_with fail
          go_roundw
          case rel => exact ⟨q + 1, by go_num, by omega, HF.out, HDR.out _⟩
          case measure => simp [intOf]; omega
        · have y1 : (kd == xk) = false := by simpa using ek
          clear hc ek
          go_wp2_with fail
          first | (go_quiet (fail)) | fail
          go_wp2_with fail
          go_roundw
          case rel => exact ⟨q + 1, by go_num, by omega, HF.out, HDR.out _⟩
          case measure => simp [intOf]; omega
    · have i1 : ¬ (q : Int) < (n : Int) := by omega
      have HF : Hid ((kd, it) ∉ T) := by have h9 := HS.out; rw [List.take_of_length_le (by rw [HM.out]; omega)] at h9; exact h9
      go_wp2_with fail
      go_ret
      exact ⟨_, rfl, .inr ⟨HF.out, rfl⟩, below_on HBW.out HB.out⟩
set_option maxRecDepth 100000 in
set_option maxHeartbeats 6400000 in
theorem contains_any {w : World} {n c : Nat} {a : Option Addr} {T : List Vst} (hT : VsV w (.slice a n c) T) (hm : T.length = n) (hm2 : n ≤ 900) (kd it : Int) : Calls Try.prog 70 #[.slice a n c, .agg #[.int .i64 kd, .int .i64 it]] w fun e w' => e = .returned (.bool (T.contains (kd, it))) ∧ Below w.heap.size w w' := by
  have HBW : Hid (Below w.heap.size w (w.alloc (.cells #[.int .i64 kd, .int .i64 it] 58))) := (Below.refl _ _).alloc (Nat.le_refl _) _
  have H72 := hide (index_any (PrV.on hT HBW.out) hm hm2 kd it)
  clear hT hm
  by_cases hc : (kd, it) ∈ T
  · have HC : Hid (T.contains (kd, it) = true) := List.contains_iff_mem.2 hc
    go_enter Try.func70, Try.ntmps70
    go_wp2_with (first | (go_at_call 72; refine H72.out.mono ?_; rintro e w1 ⟨x, rfl, hx, k1⟩; have K1 := hide (below_on HBW.out k1); have x0 : 0 ≤ x := (by rcases hx with hx | hx; exact hx.2; exact absurd hc hx.1); clear hx k1) | fail)
    go_ret
    exact ⟨by rw [HC.out]; rfl, K1.out⟩
  · have HC : Hid (T.contains (kd, it) = false) := by
      cases h9 : T.contains (kd, it) with
      | true => exact absurd (List.contains_iff_mem.1 h9) hc
      | false => exact (rfl : false = false)
    go_enter Try.func70, Try.ntmps70
    go_wp2_with (first | (go_at_call 72; refine H72.out.mono ?_; rintro e w1 ⟨x, rfl, hx, k1⟩; have K1 := hide (below_on HBW.out k1); have x0 : x = -1 := (by rcases hx with hx | hx; exact absurd hx.1 hc; exact hx.2); subst x0; clear hx k1) | fail)
    go_ret
    exact ⟨by rw [HC.out]; rfl, K1.out⟩
set_option maxRecDepth 100000 in
set_option maxHeartbeats 12800000 in
theorem twithout_any {w : World} {va ta : Option Addr} {m vc tc : Nat} {s : Bool} {it : Int} {V : List Vst} (h : SlI w va m vc V) (hm2 : m ≤ 900) (hT : SlI w ta (visN s) tc (visL s it)) : Calls Try.prog 61 #[.slice va m vc, .slice ta (visN s) tc] w fun e w' => ∃ a q c, e = .returned (.slice a q c) ∧ (outM s it V).length = q ∧ VRow w' w.heap.size (.slice a q c) (outM s it V) ∧ Below w.heap.size w w' := by
  have HV := hide h.vs
  have HM := hide h.len
  have HT := hide hT
  obtain ⟨tn, htn⟩ : ∃ tn, visN s = tn := ⟨_, rfl⟩
  have htn2 : tn ≤ 2 := by rw [← htn]; exact (visN_le s).2
  rw [htn] at HT
  rw [htn]
  clear h hT htn
  have H70 : Hid (∀ W, Below w.heap.size w W → ∀ xk xi, Calls Try.prog 70 #[.slice ta tn tc, .agg #[.int .i64 xk, .int .i64 xi]] W fun e w' => e = .returned (.bool ((visL s it).contains (xk, xi))) ∧ Below W.heap.size W w') := fun W hf xk xi => contains_any (PrV.on HT.out.vs hf) HT.out.len (by omega) xk xi
  go_enter Try.func61, Try.ntmps61
  go_wp2_with fail
  go_loopw [10, 5] (fun vi vo wr => ∃ (q r : Nat) (a : Option Addr) (c : Nat), vi = .int .i64 q ∧ vo = .slice a r c ∧ q ≤ m ∧ r ≤ q ∧ Hid ((outM s it (V.take q)).length = r) ∧ Hid (VRow wr w.heap.size (.slice a r c) (outM s it (V.take q))) ∧ Hid (Below w.heap.size w wr)) (fun vi _ _ => m - (intOf vi).toNat)
  case atStart => exact ⟨0, 0, none, 0, rfl, rfl, Nat.zero_le _, Nat.le_refl _, rfl, World.ownsRow_nil _ _ 58 2, Below.refl _ _⟩
  case round =>
    obtain ⟨q, r, a, c, rfl, rfl, hq, hrq, HLR, HR, HB⟩ := hrel
    by_cases hqm : q < m
    · have j1 : (q : Int) < (m : Int) := by omega
      have j2 : (0 : Int) ≤ (q : Int) := by omega
      have j4 : ¬ (m : Int) ≤ (q : Int) := by omega
      obtain ⟨⟨xk, xi⟩, hu⟩ : ∃ u, V[q]? = some u := ⟨_, List.getElem?_eq_getElem (by rw [HM.out]; exact hqm)⟩
      have HST := hide (out_step (s := s) (i := it) hu)
      obtain ⟨b, off, rfl, hb, c1, c2, -⟩ := vs_cells HV.out hu
      simp only at c1 c2
      have z1 : wr.cell? ⟨b, off + q * 2, none⟩ = some (.int .i64 xk) := ((bcell HB.out).1 _ _ hb).trans c1
      have z2 : wr.cell? ⟨b, off + q * 2 + 1, none⟩ = some (.int .i64 xi) := ((bcell HB.out).1 _ _ hb).trans c2
      clear hu c1 c2 hb
      obtain ⟨bo, hbo⟩ : ∃ z, (visL s it).contains (xk, xi) = z := ⟨_, rfl⟩
      have HBO := hide hbo
      cases bo with
      | true =>
        have HK : Hid (¬ (!(visL s it).contains (xk, xi)) = true) := by show ¬ _; rw [hbo]; simp
        clear hbo
        go_wp2_with (first | (go_at_call 70; refine (H70.out _ (low_alloc HB.out _) xk xi).mono ?_; rintro e w2 ⟨rfl, k2⟩; rw [HBO.out]; have K2 : Hid (Below wr.heap.size wr w2) := (below_on ((Below.refl _ _).alloc (Nat.le_refl _) _) k2); have E2 := hide (below_on HB.out K2.out); clear k2) | fail)
        go_roundw
        case rel => exact ⟨q + 1, r, a, c, by go_num, rfl, by omega, by omega, by show _ = _; rw [HST.out, if_neg HK.out, List.append_nil]; exact HLR.out, by show VRow _ _ _ _; rw [HST.out, if_neg HK.out, List.append_nil]; exact VRow.later HR.out (Nat.le_refl _) K2.out, E2.out⟩
        case measure => simp [intOf]; omega
      | false =>
        have HK : Hid ((!(visL s it).contains (xk, xi)) = true) := by show _ = _; rw [hbo]; rfl
        clear hbo
        go_wp2_with (first | (at_builtin; refine app_one (w := w2.alloc (.cells #[.int .i64 xk, .int .i64 xi] 58)) (u := (xk, xi)) (.tmp 18) (.tmp 20) rfl rfl rfl rfl (heap_alloc_new _ _) (VRow.later (VRow.later HR.out (Nat.le_refl _) K2.out) (Nat.le_refl _) ((Below.refl _ _).alloc (Nat.le_refl _) _)) HLR.out (by omega) (Nat.le_trans (low_alloc E2.out (.cells #[.int .i64 xk, .int .i64 xi] 58)).size (Nat.le_refl _)) ?_; intro g1 c1 w7 s1 s2 s3; have RA := hide s1; have E7 : Hid (Below w.heap.size w w7) := below_own (low_alloc E2.out _) HR.out s2 (low_alloc E2.out (.cells #[.int .i64 xk, .int .i64 xi] 58)).size; clear s1 s2 s3) | (go_at_call 70; refine (H70.out _ (low_alloc HB.out _) xk xi).mono ?_; rintro e w2 ⟨rfl, k2⟩; rw [HBO.out]; have K2 : Hid (Below wr.heap.size wr w2) := (below_on ((Below.refl _ _).alloc (Nat.le_refl _) _) k2); have E2 := hide (below_on HB.out K2.out); have b1 : w2.cell? ⟨wr.heap.size, 0, none⟩ = some (.int .i64 xk) := (cell_of_row _ _ _ _ _ _ ((k2.block _ (by simp)).trans at_new9)); have b2 : w2.cell? ⟨wr.heap.size, 1, none⟩ = some (.int .i64 xi) := (cell_of_row _ _ _ _ _ _ ((k2.block _ (by simp)).trans at_new9)); clear k2) | fail)
        go_roundw
        case rel => exact ⟨q + 1, r + 1, some ⟨g1, 0, none⟩, c1, by go_num, rfl, by omega, by omega, by show _ = _; rw [HST.out, if_pos HK.out, List.length_append, HLR.out]; rfl, by show VRow _ _ _ _; rw [HST.out, if_pos HK.out]; exact RA.out, E7.out⟩
        case measure => simp [intOf]; omega
    · have j1 : ¬ (q : Int) < (m : Int) := by omega
      have HTT : Hid (outM s it (V.take q) = outM s it V) := by show _ = _; rw [List.take_of_length_le (by rw [HM.out]; omega)]
      go_wp2_with fail
      go_ret
      exact ⟨_, r, _, rfl, by have h9 := HLR.out; rw [HTT.out] at h9; exact h9, by have h9 := HR.out; rw [HTT.out] at h9; exact h9, HB.out⟩
/-- Is a task whole in a list? -/
def whlB (s : Bool) (i : Int) (V : List Vst) : Bool := (visL s i).all fun v => V.count v == 1
/-- The task of a list's i-th visit, if it is whole there. -/
def whF (V : List Vst) (i : Int) : Option (Bool × Int) := if witB i ((V.length : Int) - 1) = true then (let u := V.getD i.toNat (0, 0); if (ofM u.1 u.2).2 = true ∧ whlB (ofM u.1 u.2).1.1 (ofM u.1 u.2).1.2 V = true then some (ofM u.1 u.2).1 else none) else none
/-- What wholeAt answers. -/
def WhQ (w : World) (V : List Vst) (i : Int) (e : Ending) (w' : World) : Prop := ((whF V i = none ∧ e = .returned (.tuple #[.slice none 0 0, .bool false])) ∨ ∃ s it a c, whF V i = some (s, it) ∧ e = .returned (.tuple #[.slice a (visN s) c, .bool true]) ∧ SlI w' a (visN s) c (visL s it)) ∧ Below w.heap.size w w'
/-- Of the first k visits each stands there once. -/
def alB (s : Bool) (i : Int) (V : List Vst) (k : Nat) : Bool := ((visL s i).take k).all fun v => V.count v == 1
theorem al_step {s : Bool} {i : Int} {V : List Vst} {k : Nat} (h : k < visN s) : alB s i V (k + 1) = (alB s i V k && (V.count (visK s k, i) == 1)) := by
  obtain ⟨hk, e⟩ := List.getElem?_eq_some_iff.1 (visL_get s i k h)
  unfold alB
  rw [List.take_succ_eq_append_getElem hk, e, List.all_append]
  simp
theorem al_end (s : Bool) (i : Int) (V : List Vst) : alB s i V (visN s) = whlB s i V := by
  unfold alB whlB
  rw [List.take_of_length_le (by rw [visL_len]; exact Nat.le_refl _)]
theorem al_false {s : Bool} {i : Int} {V : List Vst} {k : Nat} (h : alB s i V k = false) : whlB s i V = false := by
  cases h9 : whlB s i V with
  | false => rfl
  | true =>
    unfold whlB at h9
    unfold alB at h
    have : ((visL s i).take k).all (fun v => V.count v == 1) = true := List.all_eq_true.2 fun v hv => List.all_eq_true.1 h9 v (List.mem_of_mem_take hv)
    rw [this] at h
    cases h
set_option maxRecDepth 100000 in
set_option maxHeartbeats 12800000 in
theorem wholeAt_any {w : World} {va : Option Addr} {m vc : Nat} {V : List Vst} (h : SlI w va m vc V) (hm2 : m ≤ 900) (i : Int) : Calls Try.prog 59 #[.slice va m vc, .int .i64 i] w (WhQ w V i) := by
  have HV := hide h.vs
  have HM := hide h.len
  clear h
  have w0 : IntKind.i64.wrap ((m : Int) - 1) = (m : Int) - 1 := by rw [IntKind.wrap_i64]; omega
  obtain ⟨b1, hb1⟩ : ∃ b, witB i ((m : Int) - 1) = b := ⟨_, rfl⟩
  have HB1 := hide hb1
  cases b1 with
  | false =>
    have HR : Hid (whF V i = none) := by show _ = _; unfold whF; rw [HM.out, hb1]; rfl
    clear hb1
    go_enter Try.func59, Try.ntmps59
    go_wp2_with (first | (go_at_call 49; refine (twithin_any _ _ _).mono ?_; rintro e w1 ⟨rfl, k1⟩; rw [HB1.out]; have K1 := hide k1; have KK := K1; clear k1) | fail)
    go_ret2
    exact ⟨.inl ⟨HR.out, rfl⟩, KK.out⟩
  | true =>
    have q1 := wit_ok hb1
    obtain ⟨ii, rfl⟩ : ∃ a : Nat, i = a := ⟨i.toNat, by omega⟩
    have j1 : (ii : Int) < (m : Int) := by omega
    have j2 : (0 : Int) ≤ (ii : Int) := by omega
    have j4 : ¬ (m : Int) ≤ (ii : Int) := by omega
    obtain ⟨⟨kd, ti⟩, hu⟩ : ∃ u, V[ii]? = some u := ⟨_, List.getElem?_eq_getElem (by rw [HM.out]; omega)⟩
    have hgd : V.getD ii (0, 0) = (kd, ti) := by rw [List.getD_eq_getElem?_getD, hu]; rfl
    obtain ⟨⟨⟨s, it⟩, isb⟩, hof⟩ : ∃ q, ofM kd ti = q := ⟨_, rfl⟩
    have HWF : Hid (whF V (ii : Int) = if isb = true ∧ whlB s it V = true then some (s, it) else none) := by
      show _ = _
      unfold whF
      rw [HM.out, hb1, if_pos rfl, Int.toNat_natCast, hgd]
      simp only [hof]
    have H67 : Hid (∀ W, Calls Try.prog 67 #[.agg #[.int .i64 kd, .int .i64 ti]] W fun e w' => e = .returned (.tuple #[.agg #[.bool s, .int .i64 it], .bool isb]) ∧ Below W.heap.size W w') := fun W => by
      have h9 := mof_any W kd ti
      rw [hof] at h9
      exact h9
    obtain ⟨b, off, rfl, hb, c1, c2, -⟩ := vs_cells HV.out hu
    simp only at c1 c2
    have HC : Hid (∀ W, Below w.heap.size w W → W.cell? ⟨b, off + ii * 2, none⟩ = some (.int .i64 kd) ∧ W.cell? ⟨b, off + ii * 2 + 1, none⟩ = some (.int .i64 ti)) := fun W hf => ⟨((bcell hf).1 _ _ hb).trans c1, ((bcell hf).1 _ _ hb).trans c2⟩
    clear hb1 hu hgd hof c1 c2 hb q1
    cases isb with
    | false =>
      have HR : Hid (whF V (ii : Int) = none) := by show _ = _; rw [HWF.out, if_neg (by simp)]
      go_enter Try.func59, Try.ntmps59
      go_wp2_with (first | (go_at_call 67; refine (H67.out _).mono ?_; rintro e w2 ⟨rfl, k2⟩; have K2 := hide (below_on K1.out k2); clear k2 KK; have KK := K2) | (go_at_call 49; refine (twithin_any _ _ _).mono ?_; rintro e w1 ⟨rfl, k1⟩; rw [HB1.out]; have K1 := hide k1; have KK := K1; obtain ⟨z1, z2⟩ := HC.out _ k1; clear k1) | fail)
      go_ret2
      exact ⟨.inl ⟨HR.out, rfl⟩, low_alloc KK.out _⟩
    | true =>
      go_enter Try.func59, Try.ntmps59
      go_wp2_with (first | (go_at_call 68; refine (mvis_any _ _ _).mono ?_; rintro e w3 ⟨a3, c3, rfl, q3, k3⟩; have Q3 := hide q3; have K3 : Hid (Below w.heap.size w w3) := (below_on (low_alloc K2.out _) k3); clear q3 k3 KK; have KK := K3) | (go_at_call 67; refine (H67.out _).mono ?_; rintro e w2 ⟨rfl, k2⟩; have K2 := hide (below_on K1.out k2); clear k2 KK; have KK := K2) | (go_at_call 49; refine (twithin_any _ _ _).mono ?_; rintro e w1 ⟨rfl, k1⟩; rw [HB1.out]; have K1 := hide k1; have KK := K1; obtain ⟨z1, z2⟩ := HC.out _ k1; clear k1) | fail)
      obtain ⟨tn, htn⟩ : ∃ tn, visN s = tn := ⟨_, rfl⟩
      have HTN := hide htn
      have htn2 : tn ≤ 2 := by rw [← htn]; exact (visN_le s).2
      rw [htn] at Q3
      rw [htn]
      clear htn
      go_loopw [31] (fun vi wr => ∃ q : Nat, vi = .int .i64 q ∧ q ≤ tn ∧ Hid (alB s it V q = true) ∧ Hid (Below w3.heap.size w3 wr)) (fun vi _ => tn - (intOf vi).toNat)
      case atStart => exact ⟨0, rfl, Nat.zero_le _, rfl, Below.refl _ _⟩
      case round =>
        obtain ⟨q, rfl, hq, HS, HB⟩ := hrel
        by_cases hqn : q < tn
        · have i1 : (q : Int) < (tn : Int) := by omega
          have i2 : (0 : Int) ≤ (q : Int) := by omega
          have i3 : ¬ (tn : Int) ≤ (q : Int) := by omega
          have hq9 : q < visN s := by rw [HTN.out]; exact hqn
          obtain ⟨vk, hvk⟩ : ∃ z, visK s q = z := ⟨_, rfl⟩
          have HST := hide (al_step (i := it) (V := V) hq9)
          obtain ⟨gv, ov, hgv, hgl, v0, v1, -⟩ := vs_cells Q3.out.vs (visL_get s it q hq9)
          simp only at v0 v1
          rw [hvk] at v0 HST
          subst hgv
          have d1 : wr.cell? ⟨gv, ov + q * 2, none⟩ = some (.int .i64 vk) := ((bcell HB.out).1 _ _ hgl).trans v0
          have d2 : wr.cell? ⟨gv, ov + q * 2 + 1, none⟩ = some (.int .i64 it) := ((bcell HB.out).1 _ _ hgl).trans v1
          have H69 : Hid (∀ W, Below w.heap.size w W → Calls Try.prog 69 #[.slice (some ⟨b, off, none⟩) m vc, .agg #[.int .i64 vk, .int .i64 it]] W fun e w' => e = .returned (.int .i64 (V.count (vk, it) : Nat)) ∧ Below W.heap.size W w') := fun W hf => tcount_any (PrV.on HV.out hf) HM.out hm2 vk it
          have EB := hide (below_on K3.out HB.out)
          obtain ⟨ct, hct⟩ : ∃ z, V.count (vk, it) = z := ⟨_, rfl⟩
          rw [hct] at HST H69
          clear hvk v0 v1 hgl hct hq9
          have ARMX : True := trivial
          by_cases h1 : ct = 1
          · have y1 : ((ct : Int) != 1) = false := by simp; omega
            have HF : Hid (alB s it V (q + 1) = true) := by show _ = _; rw [HST.out, HS.out, h1]; rfl
            clear h1 ARMX
            go_wp2_with (first | (go_at_call 69; refine (H69.out _ (low_alloc EB.out _)).mono ?_; rintro e w5 ⟨rfl, k5⟩; have K5 : Hid (Below w3.heap.size w3 w5) := (below_on (low_alloc HB.out _) k5); clear k5) | fail)
            go_roundw
            case rel => exact ⟨q + 1, by go_num, by omega, HF.out, K5.out⟩
            case measure => simp [intOf]; omega
          · have y1 : ((ct : Int) != 1) = true := by simp; omega
            have HF : Hid (whF V (ii : Int) = none) := by
              show _ = _
              have h9 : alB s it V (q + 1) = false := by rw [HST.out, HS.out]; simp; exact h1
              rw [HWF.out, al_false h9, if_neg (by simp)]
            clear h1 ARMX
            go_wp2_with (first | (go_at_call 69; refine (H69.out _ (low_alloc EB.out _)).mono ?_; rintro e w5 ⟨rfl, k5⟩; have K5 : Hid (Below w3.heap.size w3 w5) := (below_on (low_alloc HB.out _) k5); clear k5) | fail)
            go_ret2
            exact ⟨.inl ⟨HF.out, rfl⟩, below_on K3.out K5.out⟩
        · have i1 : ¬ (q : Int) < (tn : Int) := by omega
          have hqe : q = tn := by omega
          have HF : Hid (whF V (ii : Int) = some (s, it)) := by
            show _ = _
            have h9 := HS.out
            rw [hqe, ← HTN.out, al_end] at h9
            rw [HWF.out, h9, if_pos (by simp)]
          have HE : Hid (tn = visN s) := HTN.out.symm
          clear hqe
          go_wp2_with fail
          go_ret2
          exact ⟨.inr ⟨s, it, _, _, HF.out, by rw [HTN.out]; rfl, by rw [HTN.out]; exact Q3.out.on HB.out⟩, below_on K3.out HB.out⟩
def fitB (s : Bool) (n : Nat) (j k : Int) : Bool := witB j (n : Int) && (!s || (decide (j < k) && decide (k ≤ (n : Int) + 1)))
set_option maxRecDepth 100000 in
set_option maxHeartbeats 6400000 in
theorem fits_any (w : World) (va ta : Option Addr) (n vc tc : Nat) (s : Bool) (hn : n ≤ 900) (j k : Int) : Calls Try.prog 60 #[.slice va n vc, .slice ta (visN s) tc, .int .i64 j, .int .i64 k] w fun e w' => e = .returned (.bool (fitB s n j k)) ∧ Below w.heap.size w w' := by
  have w0 : IntKind.i64.wrap ((n : Int) + 1) = (n : Int) + 1 := by rw [IntKind.wrap_i64]; omega
  obtain ⟨b1, hb1⟩ : ∃ b, witB j (n : Int) = b := ⟨_, rfl⟩
  have HB1 := hide hb1
  cases b1 with
  | false =>
    have HR : Hid (fitB s n j k = false) := by show _ = _; unfold fitB; rw [hb1]; rfl
    clear hb1
    go_enter Try.func60, Try.ntmps60
    go_wp2_with (first | (go_at_call 49; refine (twithin_any _ _ _).mono ?_; rintro e w1 ⟨rfl, k1⟩; rw [HB1.out]; have K1 := hide k1; clear k1) | fail)
    go_ret
    exact ⟨by rw [HR.out]; first | rfl | (congr 2; simp; omega), K1.out⟩
  | true =>
    cases s with
    | false =>
      have HR : Hid (fitB false n j k = true) := by show _ = _; unfold fitB; rw [hb1]; rfl
      have hv : visN false = 1 := rfl
      rw [hv]
      clear hv
      clear hb1
      go_enter Try.func60, Try.ntmps60
      go_wp2_with (first | (go_at_call 49; refine (twithin_any _ _ _).mono ?_; rintro e w1 ⟨rfl, k1⟩; rw [HB1.out]; have K1 := hide k1; clear k1) | fail)
      go_ret
      exact ⟨by rw [HR.out]; first | rfl | (congr 2; simp; omega), K1.out⟩
    | true =>
      have hv : visN true = 2 := rfl
      rw [hv]
      clear hv
      by_cases h1 : j < k
      · by_cases h2 : k ≤ (n : Int) + 1
        · have HR : Hid (fitB true n j k = true) := by show _ = _; unfold fitB; rw [hb1, decide_eq_true h1, decide_eq_true h2]; rfl
          clear hb1
          go_enter Try.func60, Try.ntmps60
          go_wp2_with (first | (go_at_call 49; refine (twithin_any _ _ _).mono ?_; rintro e w1 ⟨rfl, k1⟩; rw [HB1.out]; have K1 := hide k1; clear k1) | fail)
          go_ret
          exact ⟨by rw [HR.out]; first | rfl | (congr 2; simp; omega), K1.out⟩
        · have HR : Hid (fitB true n j k = false) := by show _ = _; unfold fitB; rw [hb1, decide_eq_true h1, decide_eq_false h2]; rfl
          clear hb1
          go_enter Try.func60, Try.ntmps60
          go_wp2_with (first | (go_at_call 49; refine (twithin_any _ _ _).mono ?_; rintro e w1 ⟨rfl, k1⟩; rw [HB1.out]; have K1 := hide k1; clear k1) | fail)
          go_ret
          exact ⟨by rw [HR.out]; first | rfl | (congr 2; simp; omega), K1.out⟩
      · have HR : Hid (fitB true n j k = false) := by show _ = _; unfold fitB; rw [hb1, decide_eq_false h1]; rfl
        clear hb1
        go_enter Try.func60, Try.ntmps60
        go_wp2_with (first | (go_at_call 49; refine (twithin_any _ _ _).mono ?_; rintro e w1 ⟨rfl, k1⟩; rw [HB1.out]; have K1 := hide k1; clear k1) | fail)
        go_ret
        exact ⟨by rw [HR.out]; first | rfl | (congr 2; simp; omega), K1.out⟩
end Go.Proofs.Ytdnkmjafkpnliaa
