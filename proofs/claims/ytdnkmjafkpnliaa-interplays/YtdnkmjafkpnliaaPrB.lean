/-
  What the call of a line's Pair does.
-/
import Derived.Test.YtdnkmjafkpnliaaPrA
import Derived.Deep.RegionHeld3
namespace Go.Proofs.Ytdnkmjafkpnliaa
open Go.RowKit

/-- A list without a shipment's two visits. -/
def oth (it : Int) (V : List Vst) : List Vst := V.filter fun x => !(x == (2, it)) && !(x == (3, it))
def pairM (V : List Vst) (i j k : Int) : List Vst × Bool :=
  if (witB i ((V.length : Int) - 1) && riseB V.length j k) = true then
    (if ((V.getD i.toNat (0, 0)).1 = 2 ∨ (V.getD i.toNat (0, 0)).1 = 3) ∧ V.count (2, (V.getD i.toNat (0, 0)).2) = 1 ∧ V.count (3, (V.getD i.toNat (0, 0)).2) = 1 then (insM (insM (oth (V.getD i.toNat (0, 0)).2 V) j.toNat (2, (V.getD i.toNat (0, 0)).2)) k.toNat (3, (V.getD i.toNat (0, 0)).2), true) else (V, false)) else (V, false)
theorem oth_len (it : Int) : ∀ V : List Vst, (oth it V).length + V.count (2, it) + V.count (3, it) = V.length
  | [] => rfl
  | u :: V => by
    have ih := oth_len it V
    unfold oth at ih ⊢
    rw [List.filter_cons, List.count_cons, List.count_cons, List.length_cons]
    by_cases h2 : u = (2, it)
    · subst h2
      have e : (((2, it) : Vst) == (3, it)) = false := by simp
      simp only [beq_self_eq_true, Bool.not_true, Bool.false_and, e, if_true, Bool.false_eq_true, if_false]
      omega
    · by_cases h3 : u = (3, it)
      · subst h3
        have e : (((3, it) : Vst) == (2, it)) = false := by simp
        simp only [beq_self_eq_true, Bool.not_true, Bool.and_false, e, if_true, Bool.false_eq_true, if_false]
        omega
      · have e2 : (u == (2, it)) = false := by simpa using h2
        have e3 : (u == (3, it)) = false := by simpa using h3
        simp only [e2, e3, Bool.not_false, Bool.and_self, if_true, Bool.false_eq_true, if_false, List.length_cons]
        omega
theorem oth_step {it : Int} {V : List Vst} {q : Nat} {u : Vst} (h : V[q]? = some u) : oth it (V.take (q + 1)) = oth it (V.take q) ++ (if (!(u == (2, it)) && !(u == (3, it))) = true then [u] else []) := by
  obtain ⟨hk, e⟩ := List.getElem?_eq_some_iff.1 h
  unfold oth
  rw [List.take_succ_eq_append_getElem hk, e, List.filter_append]
  congr 1
  simp only [List.filter_cons, List.filter_nil]
/-- A row of visits is no block of just one other visit. -/
theorem vrow_not {w : World} {base g n c : Nat} {L : List Vst} {x y : Int} (h : VRow w base (.slice (some ⟨g, 0, none⟩) n c) L) (hn : L.length = n) (hp : 0 < n) (hb : w.heap[g]? = some (.cells #[.int .i64 x, .int .i64 y] 58)) : L = [(x, y)] := by
  obtain ⟨R, hg, hR, hnc, _, _⟩ := h.blk hn
  rw [hg] at hb
  injection hb with hb
  injection hb with hb _ _
  have hl : (flatV L ++ R).length = 2 := by have := congrArg Array.size hb; simpa using this
  rw [List.length_append, flatV_len, hn] at hl
  have h1 : n = 1 := by omega
  subst h1
  match L, hn with
  | [u], _ =>
    have h2 : R = [] := List.eq_nil_of_length_eq_zero (by omega)
    subst h2
    have := congrArg Array.toList hb
    simp [flatV, encV] at this
    obtain ⟨u1, u2⟩ := u
    simp only at this
    rw [this.1, this.2]
set_option maxRecDepth 100000 in
set_option maxHeartbeats 12800000 in
theorem below_own {w w2 w3 : World} {B : Nat} {v : Value} {L : List Vst} {u : World} (f : Below B w w2) (h : VRow u B v L) (g : w2.grownBy w3 v.ownBlock) (hB : B ≤ w2.heap.size) : Below B w w3 := f.trans ⟨g.os, g.tape, g.output, g.size, fun k hk => g.block k (Nat.lt_of_lt_of_le hk hB) fun e => by have := (World.ownsRow.lt h k e.symm).1; omega⟩
theorem own_ne {w : World} {B k : Nat} {v : Value} {L : List Vst} (h : VRow w B v L) (hk : w.heap.size ≤ k) : v.ownBlock ≠ some k := fun e => by have := (World.ownsRow.lt h k e).2; omega
theorem hent36 (args : Array Value) (w : World) : (callFunc 56 args).run Try.prog w = .ok (.enter 56 args) w := Go.Proofs.enters_of Try.func56 (by kernel_rfl) rfl args w
theorem box_three {w WB W2 : World} {x0 x1 y0 y1 z0 z1 : Value} (h : WB = ((w.alloc (.cells #[x0, x1] 58)).alloc (.cells #[y0, y1] 58)).alloc (.cells #[z0, z1] 58)) (hf : Below WB.heap.size WB W2) : (∀ j, W2.cell? ⟨w.heap.size, j, none⟩ = (#[x0, x1] : Array Value)[j]?) ∧ (∀ j, W2.cell? ⟨w.heap.size + 1, j, none⟩ = (#[y0, y1] : Array Value)[j]?) ∧ ∀ j, W2.cell? ⟨w.heap.size + 1 + 1, j, none⟩ = (#[z0, z1] : Array Value)[j]? := by
  have hs : WB.heap.size = w.heap.size + 3 := by rw [h]; simp
  have e0 : WB.heap[w.heap.size]? = some (.cells #[x0, x1] 58) := by rw [h, heap_alloc_old _ _ (by simp <;> omega), heap_alloc_old _ _ (by simp), heap_alloc_new]
  have e1 : WB.heap[w.heap.size + 1]? = some (.cells #[y0, y1] 58) := by
    rw [h, heap_alloc_old _ _ (by simp)]
    have h9 := heap_alloc_new (w.alloc (.cells #[x0, x1] 58)) (.cells #[y0, y1] 58)
    simp only [World.size_alloc] at h9
    exact h9
  have e2 : WB.heap[w.heap.size + 1 + 1]? = some (.cells #[z0, z1] 58) := by
    rw [h]
    have h9 := heap_alloc_new ((w.alloc (.cells #[x0, x1] 58)).alloc (.cells #[y0, y1] 58)) (.cells #[z0, z1] 58)
    simp only [World.size_alloc] at h9
    exact h9
  exact ⟨fun j => cell_of_row _ _ _ _ _ _ ((hf.block _ (by omega)).trans e0), fun j => cell_of_row _ _ _ _ _ _ ((hf.block _ (by omega)).trans e1), fun j => cell_of_row _ _ _ _ _ _ ((hf.block _ (by omega)).trans e2)⟩
set_option maxRecDepth 100000 in
set_option maxHeartbeats 12800000 in
theorem pair_any {w : World} {lb : Nat} {V : List Vst} (h : LineV w lb V) (hm : V.length ≤ 900) (i j k : Int) : Calls Try.prog 35 #[.pointer (some ⟨lb, 0, none⟩), .int .i64 i, .int .i64 j, .int .i64 k] w (ChQ w lb (pairM V i j k)) := by
  obtain ⟨ad, c, h1, h2, h3, h4, h5, h6, h7⟩ := h.open (by omega)
  have HL := hide h
  have HX := hide h1
  obtain ⟨n, hn⟩ : ∃ n, V.length = n := ⟨_, rfl⟩
  have HN := hide hn
  have HV := hide h3
  rw [hn] at HX HV hm
  clear h h1 h2 h3 h4 h5 h6 h7
  have w0 : IntKind.i64.wrap ((n : Int) - 1) = (n : Int) - 1 := by rw [IntKind.wrap_i64]; omega
  obtain ⟨b1, hb1⟩ : ∃ b, witB i ((n : Int) - 1) = b := ⟨_, rfl⟩
  have HB1 := hide hb1
  obtain ⟨b2, hb2⟩ : ∃ b, riseB n j k = b := ⟨_, rfl⟩
  have HB2 := hide hb2
  cases b1 with
  | false =>
    have HR : Hid (pairM V i j k = (V, false)) := by show _ = _; unfold pairM; rw [hn, hb1]; rfl
    clear hb1 hb2 hn
    go_enter Try.func35, Try.ntmps35
    go_wp2_with (first | (go_at_call 51; refine (within_any _ _ _).mono ?_; rintro e w2 ⟨rfl, k2⟩; rw [HB1.out]; have K2 := hide (below_on K1.out k2); clear k2 KK; have KK := K2) | (go_at_call 42; refine (kept_any HX.out).mono ?_; rintro e w1 ⟨rfl, k1⟩; have K1 := hide k1; have KK := K1; clear k1) | fail)
    go_ret
    exact chq_no HR.out HL.out KK.out
  | true =>
  cases b2 with
  | false =>
    have HR : Hid (pairM V i j k = (V, false)) := by show _ = _; unfold pairM; rw [hn, hb1, hb2]; rfl
    clear hb1 hb2 hn
    go_enter Try.func35, Try.ntmps35
    go_wp2_with (first | (go_at_call 53; refine (rise_any _ _ ((K2.out.block lb (lt_of_block HX.out)).trans HX.out)).mono ?_; rintro e w3 ⟨rfl, k3⟩; rw [HB2.out]; have K3 := hide (below_on K2.out k3); have XX := hide ((K3.out.block lb (lt_of_block HX.out)).trans HX.out); have x3 : w3.cell? ⟨lb, 0, none⟩ = some (.slice ad n c) := cell_of_row _ _ _ _ _ _ XX.out; have l3 : lb < w3.heap.size := (lt_of_block XX.out); clear k3 KK; have KK := K3) | (go_at_call 51; refine (within_any _ _ _).mono ?_; rintro e w2 ⟨rfl, k2⟩; rw [HB1.out]; have K2 := hide (below_on K1.out k2); clear k2 KK; have KK := K2) | (go_at_call 42; refine (kept_any HX.out).mono ?_; rintro e w1 ⟨rfl, k1⟩; have K1 := hide k1; have KK := K1; clear k1) | fail)
    go_ret
    exact chq_no HR.out HL.out KK.out
  | true =>
    have q1 := wit_ok hb1
    obtain ⟨jj, kk, rfl, rfl, hjk, hkn⟩ := rise_ok hb2
    obtain ⟨ii, hii⟩ : ∃ a : Nat, i = a := ⟨i.toNat, by omega⟩
    subst hii
    have hin : ii < n := by omega
    obtain ⟨⟨kd, it⟩, hu⟩ : ∃ u, V[ii]? = some u := ⟨_, List.getElem?_eq_getElem (by rw [hn]; exact hin)⟩
    have hgd : V.getD ii (0, 0) = (kd, it) := by rw [List.getD_eq_getElem?_getD, hu]; rfl
    have HPM : Hid (pairM V ii jj kk = if (kd = 2 ∨ kd = 3) ∧ V.count (2, it) = 1 ∧ V.count (3, it) = 1 then (insM (insM (oth it V) jj (2, it)) kk (3, it), true) else (V, false)) := by
      show _ = _
      unfold pairM
      rw [hn, hb1, hb2, Int.toNat_natCast, hgd]
      rfl
    obtain ⟨b, off, rfl, hb, c1, c2, _⟩ := vs_cells HV.out hu
    simp only at c1 c2
    have i1 : (ii : Int) < (n : Int) := by omega
    have i2 : (0 : Int) ≤ (ii : Int) := by omega
    have i3 : ¬ (n : Int) ≤ (ii : Int) := by omega
    have HCV : Hid (∀ W2, Below w.heap.size w W2 → W2.cell? ⟨b, off + ii * 2, none⟩ = some (.int .i64 kd) ∧ W2.cell? ⟨b, off + ii * 2 + 1, none⟩ = some (.int .i64 it)) := fun W2 hf => ⟨((bcell hf).1 _ _ hb).trans c1, ((bcell hf).1 _ _ hb).trans c2⟩
    have H35 : Hid (∀ W2 (x : Int), Below w.heap.size w W2 → Calls Try.prog 55 #[.pointer (some ⟨lb, 0, none⟩), .agg #[.int .i64 x, .int .i64 it]] W2 fun e w' => e = .returned (.int .i64 (V.count (x, it) : Nat)) ∧ Below W2.heap.size W2 w') := fun W2 x hf => count_any ((hf.block lb (lt_of_block HX.out)).trans HX.out) (PrV.on HV.out hf) HN.out hm x it
    obtain ⟨n2, hn2⟩ : ∃ q, V.count (2, it) = q := ⟨_, rfl⟩
    have HN2 := hide hn2
    obtain ⟨n3, hn3⟩ : ∃ q, V.count (3, it) = q := ⟨_, rfl⟩
    have HN3 := hide hn3
    rw [hn2, hn3] at HPM
    have HOL := hide (oth_len it V)
    rw [hn, hn2, hn3] at HOL
    clear hb1 hb2 hn hgd hu c1 c2 q1 hn2 hn3
    by_cases hkd : kd = 2 ∨ kd = 3
    · have hy : ((kd == 2) = true) ∨ ((kd == 2) = false ∧ (kd == 3) = true) := by rcases hkd with rfl | rfl; exact .inl rfl; exact .inr ⟨rfl, rfl⟩
      by_cases h21 : n2 = 1
      · by_cases h31 : n3 = 1
        · subst h21 h31
          have HRES : Hid (pairM V ii jj kk = (insM (insM (oth it V) jj (2, it)) kk (3, it), true)) := by show _ = _; rw [HPM.out, if_pos ⟨hkd, rfl, rfl⟩]
          clear hkd
          rcases hy with y2 | ⟨y2, y3⟩
          all_goals
            have z1 : (((1 : Nat) : Int) != 1) = false := by decide
            go_enter Try.func35, Try.ntmps35
            go_wp2_with (first | (go_at_call 55; refine (H35.out _ _ (below_on (below_on K3.out KB.out) K4.out)).mono ?_; rintro e w5 ⟨rfl, k5⟩; rw [HN3.out]; have K5 := hide (below_on K4.out k5); have q0 : w5.cell? ⟨w3.heap.size, 0, none⟩ = some (.int .i64 kd) := (HBX.out _ K5.out).1 0; have q1 : w5.cell? ⟨w3.heap.size, 1, none⟩ = some (.int .i64 it) := (HBX.out _ K5.out).1 1; have q2 : w5.cell? ⟨w3.heap.size + 1, 0, none⟩ = some (.int .i64 2) := (HBX.out _ K5.out).2.1 0; have q3 : w5.cell? ⟨w3.heap.size + 1, 1, none⟩ = some (.int .i64 it) := (HBX.out _ K5.out).2.1 1; have q4 : w5.cell? ⟨w3.heap.size + 1 + 1, 0, none⟩ = some (.int .i64 3) := (HBX.out _ K5.out).2.2 0; have q5 : w5.cell? ⟨w3.heap.size + 1 + 1, 1, none⟩ = some (.int .i64 it) := (HBX.out _ K5.out).2.2 1; have x5 : w5.cell? ⟨lb, 0, none⟩ = some (.slice (some ⟨b, off, none⟩) n c) := cell_of_row _ _ _ _ _ _ (((below_on (below_on K3.out KB.out) K5.out).block lb (lt_of_block HX.out)).trans HX.out); clear k5) | (go_at_call 55; obtain ⟨WB, hWB⟩ : ∃ WB, WB = ((w3.alloc (.cells #[.int .i64 kd, .int .i64 it] 58)).alloc (.cells #[.int .i64 2, .int .i64 it] 58)).alloc (.cells #[.int .i64 3, .int .i64 it] 58) := ⟨_, rfl⟩; rw [← hWB]; have HWS0 : Hid (WB.heap.size = w3.heap.size + 3) := (by show _ = _; rw [hWB]; simp); have KB : Hid (Below w3.heap.size w3 WB) := (by rw [hWB]; exact (((Below.refl _ _).alloc (Nat.le_refl _) _).alloc (by simp) _).alloc (by simp <;> omega) _); have HBX : Hid (∀ W2, Below WB.heap.size WB W2 → (∀ j, W2.cell? ⟨w3.heap.size, j, none⟩ = (#[.int .i64 kd, .int .i64 it] : Array Value)[j]?) ∧ (∀ j, W2.cell? ⟨w3.heap.size + 1, j, none⟩ = (#[.int .i64 2, .int .i64 it] : Array Value)[j]?) ∧ ∀ j, W2.cell? ⟨w3.heap.size + 1 + 1, j, none⟩ = (#[.int .i64 3, .int .i64 it] : Array Value)[j]?) := (fun W2 hf => box_three hWB hf); refine (H35.out _ _ (below_on K3.out KB.out)).mono ?_; rintro e w4 ⟨rfl, k4⟩; rw [HN2.out]; have K4 := hide k4; have p0 : w4.cell? ⟨w3.heap.size, 0, none⟩ = some (.int .i64 kd) := (HBX.out _ K4.out).1 0; have p1 : w4.cell? ⟨w3.heap.size, 1, none⟩ = some (.int .i64 it) := (HBX.out _ K4.out).1 1; have p2 : w4.cell? ⟨w3.heap.size + 1, 0, none⟩ = some (.int .i64 2) := (HBX.out _ K4.out).2.1 0; have p3 : w4.cell? ⟨w3.heap.size + 1, 1, none⟩ = some (.int .i64 it) := (HBX.out _ K4.out).2.1 1; have p4 : w4.cell? ⟨w3.heap.size + 1 + 1, 0, none⟩ = some (.int .i64 3) := (HBX.out _ K4.out).2.2 0; have p5 : w4.cell? ⟨w3.heap.size + 1 + 1, 1, none⟩ = some (.int .i64 it) := (HBX.out _ K4.out).2.2 1; clear hWB k4) | (go_at_call 53; refine (rise_any _ _ ((K2.out.block lb (lt_of_block HX.out)).trans HX.out)).mono ?_; rintro e w3 ⟨rfl, k3⟩; rw [HB2.out]; have K3 := hide (below_on K2.out k3); have XX := hide ((K3.out.block lb (lt_of_block HX.out)).trans HX.out); have x3 : w3.cell? ⟨lb, 0, none⟩ = some (.slice (some ⟨b, off, none⟩) n c) := cell_of_row _ _ _ _ _ _ XX.out; have l3 : lb < w3.heap.size := (lt_of_block XX.out); obtain ⟨v30, v31⟩ := HCV.out _ K3.out; clear k3 KK; have KK := K3) | (go_at_call 51; refine (within_any _ _ _).mono ?_; rintro e w2 ⟨rfl, k2⟩; rw [HB1.out]; have K2 := hide (below_on K1.out k2); clear k2 KK; have KK := K2) | (go_at_call 42; refine (kept_any HX.out).mono ?_; rintro e w1 ⟨rfl, k1⟩; have K1 := hide k1; have KK := K1; clear k1) | fail)
            clear p0 p1 p2 p3 p4 p5 x5
            have HWS : Hid (WB.heap.size = w3.heap.size + 3) := HWS0.out
            go_loopw [69, 13] (fun vi v13 wr => ∃ (q r : Nat) (a13 : Option Addr) (c13 : Nat), vi = .int .i64 q ∧ v13 = .slice a13 r c13 ∧ q ≤ n ∧ r ≤ q ∧ Hid ((oth it (V.take q)).length = r) ∧ Hid (VRow wr w5.heap.size (.slice a13 r c13) (oth it (V.take q))) ∧ Hid (Below w5.heap.size w5 wr)) (fun vi _ _ => n - (intOf vi).toNat)
            case atStart => exact ⟨0, 0, none, 0, rfl, rfl, Nat.zero_le _, Nat.le_refl _, rfl, World.ownsRow_nil w5 _ 58 2, Below.refl _ _⟩
            case round =>
              obtain ⟨q, r, a13, c13, rfl, rfl, hq, hrq, HLN, HR, HBr⟩ := hrel
              have E5 := hide (below_on K5.out HBr.out)
              have EW := hide (below_on (below_on K3.out KB.out) E5.out)
              have q0 : wr.cell? ⟨w3.heap.size, 0, none⟩ = some (.int .i64 kd) := (HBX.out _ E5.out).1 0
              have q1 : wr.cell? ⟨w3.heap.size, 1, none⟩ = some (.int .i64 it) := (HBX.out _ E5.out).1 1
              have q2 : wr.cell? ⟨w3.heap.size + 1, 0, none⟩ = some (.int .i64 2) := (HBX.out _ E5.out).2.1 0
              have q3 : wr.cell? ⟨w3.heap.size + 1, 1, none⟩ = some (.int .i64 it) := (HBX.out _ E5.out).2.1 1
              have q4 : wr.cell? ⟨w3.heap.size + 1 + 1, 0, none⟩ = some (.int .i64 3) := (HBX.out _ E5.out).2.2 0
              have q5 : wr.cell? ⟨w3.heap.size + 1 + 1, 1, none⟩ = some (.int .i64 it) := (HBX.out _ E5.out).2.2 1
              have l5 : w3.heap.size + 3 ≤ wr.heap.size := by have := E5.out.size; have := HWS.out; omega
              have la : w3.heap.size + 1 < wr.heap.size := by omega
              have lb2 : w3.heap.size + 1 + 1 < wr.heap.size := by omega
              have na : ¬ w3.heap.size + 1 = wr.heap.size := by omega
              have nb : ¬ w3.heap.size + 1 + 1 = wr.heap.size := by omega
              by_cases hqn : q < n
              · have j1 : (q : Int) < (n : Int) := by omega
                have j2 : (0 : Int) ≤ (q : Int) := by omega
                have j3 : ¬ (n : Int) ≤ (q : Int) := by omega
                obtain ⟨⟨xk, xi⟩, hu⟩ : ∃ u, V[q]? = some u := ⟨_, List.getElem?_eq_getElem (by rw [HN.out]; exact hqn)⟩
                have HST := hide (oth_step (it := it) hu)
                obtain ⟨b', off', e9, hb', c1, c2, _⟩ := vs_cells HV.out hu
                injection e9 with e9
                injection e9 with e8 e9 _
                subst e8 e9
                simp only at c1 c2
                have d1 : wr.cell? ⟨b, off + q * 2, none⟩ = some (.int .i64 xk) := ((bcell EW.out).1 _ _ hb').trans c1
                have d2 : wr.cell? ⟨b, off + q * 2 + 1, none⟩ = some (.int .i64 xi) := ((bcell EW.out).1 _ _ hb').trans c2
                have HAA : Hid (Below wr.heap.size wr ((wr.alloc (.cells #[.int .i64 xk, .int .i64 xi] 58)).alloc (.cells #[.int .i64 xk, .int .i64 xi] 58))) := ((Below.refl _ _).alloc (Nat.le_refl _) _).alloc (by simp) _
                have HLIT : Hid (VsV ((wr.alloc (.cells #[.int .i64 xk, .int .i64 xi] 58)).alloc (.cells #[.int .i64 xk, .int .i64 xi] 58)) (.slice (some ⟨wr.heap.size + 1, 0, none⟩) 1 1) [(xk, xi)]) := by
                  have h9 := heap_alloc_new (wr.alloc (.cells #[.int .i64 xk, .int .i64 xi] 58)) (.cells #[.int .i64 xk, .int .i64 xi] 58)
                  simp only [World.size_alloc] at h9
                  exact vs_lit [(xk, xi)] (by simp) h9
                clear c1 c2 hu hb'
                by_cases hei : xi = it
                · have yi : (xi == it) = true := by simpa using hei
                  by_cases h2 : xk = 2
                  · have HKP : Hid ((!(((xk, xi) : Vst) == (2, it)) && !(((xk, xi) : Vst) == (3, it))) = false) := by show _ = _; rw [hei, h2]; simp
                    have ya : (xk == 2) = true := by simpa using h2
                    clear hei h2
                    have HK2 : Hid (oth it (V.take (q + 1)) = oth it (V.take q)) := by show _ = _; rw [HST.out, HKP.out]; simp
                    go_wp2_with fail
                    go_roundw
                    case rel => exact ⟨q + 1, r, a13, c13, by go_num, rfl, by omega, by omega, by rw [HK2.out]; exact HLN.out, by rw [HK2.out]; exact VRow.later HR.out (Nat.le_refl _) ((Below.refl _ _).alloc (Nat.le_refl _) _), below_on HBr.out ((Below.refl _ _).alloc (Nat.le_refl _) _)⟩
                    case measure => simp [intOf]; omega
                  · by_cases h3 : xk = 3
                    · have HKP : Hid ((!(((xk, xi) : Vst) == (2, it)) && !(((xk, xi) : Vst) == (3, it))) = false) := by show _ = _; rw [hei, h3]; simp
                      have ya : (xk == 2) = false := by simpa using h2
                      have yb : (xk == 3) = true := by simpa using h3
                      clear hei h2 h3
                      have HK2 : Hid (oth it (V.take (q + 1)) = oth it (V.take q)) := by show _ = _; rw [HST.out, HKP.out]; simp
                      go_wp2_with fail
                      go_roundw
                      case rel => exact ⟨q + 1, r, a13, c13, by go_num, rfl, by omega, by omega, by rw [HK2.out]; exact HLN.out, by rw [HK2.out]; exact VRow.later HR.out (Nat.le_refl _) ((Below.refl _ _).alloc (Nat.le_refl _) _), below_on HBr.out ((Below.refl _ _).alloc (Nat.le_refl _) _)⟩
                      case measure => simp [intOf]; omega
                    · have HKP : Hid ((!(((xk, xi) : Vst) == (2, it)) && !(((xk, xi) : Vst) == (3, it))) = true) := by
                        show _ = _
                        have g2 : (((xk, xi) : Vst) == (2, it)) = false := by simpa using fun e => absurd e h2
                        have g3 : (((xk, xi) : Vst) == (3, it)) = false := by simpa using fun e => absurd e h3
                        rw [g2, g3]; rfl
                      have ya : (xk == 2) = false := by simpa using h2
                      have yb : (xk == 3) = false := by simpa using h3
                      clear hei h2 h3
                      have HK2 : Hid (oth it (V.take (q + 1)) = oth it (V.take q) ++ [(xk, xi)]) := by show _ = _; rw [HST.out, HKP.out]; rfl
                      go_wp2_with (first | (at_builtin; refine app_vis (w := (wr.alloc (.cells #[.int .i64 xk, .int .i64 xi] 58)).alloc (.cells #[.int .i64 xk, .int .i64 xi] 58)) (V := [(xk, xi)]) (.tmp 81) (.tmp 83) rfl rfl rfl rfl (VRow.later HR.out (Nat.le_refl _) HAA.out) HLN.out HLIT.out rfl (fun e => by cases e) (by omega) (Nat.le_trans HBr.out.size HAA.out.size) ?_; intro a2 c2 w7 r1 r2 _; have R7 := hide r1; have B7 := hide ((below_on HBr.out HAA.out).trans r2); clear r1 r2) | fail)
                      go_roundw
                      case rel => exact ⟨q + 1, r + 1, a2, c2, by go_num, rfl, by omega, by omega, by rw [HK2.out, List.length_append, HLN.out]; rfl, by rw [HK2.out]; exact R7.out, B7.out⟩
                      case measure => simp [intOf]; omega
                · have yi : (xi == it) = false := by simpa using hei
                  have HKP : Hid ((!(((xk, xi) : Vst) == (2, it)) && !(((xk, xi) : Vst) == (3, it))) = true) := by
                    show _ = _
                    have g2 : (((xk, xi) : Vst) == (2, it)) = false := by simpa using fun _ => hei
                    have g3 : (((xk, xi) : Vst) == (3, it)) = false := by simpa using fun _ => hei
                    rw [g2, g3]; rfl
                  clear hei
                  have HK2 : Hid (oth it (V.take (q + 1)) = oth it (V.take q) ++ [(xk, xi)]) := by show _ = _; rw [HST.out, HKP.out]; rfl
                  go_wp2_with (first | (at_builtin; refine app_vis (w := (wr.alloc (.cells #[.int .i64 xk, .int .i64 xi] 58)).alloc (.cells #[.int .i64 xk, .int .i64 xi] 58)) (V := [(xk, xi)]) (.tmp 81) (.tmp 83) rfl rfl rfl rfl (VRow.later HR.out (Nat.le_refl _) HAA.out) HLN.out HLIT.out rfl (fun e => by cases e) (by omega) (Nat.le_trans HBr.out.size HAA.out.size) ?_; intro a2 c2 w7 r1 r2 _; have R7 := hide r1; have B7 := hide ((below_on HBr.out HAA.out).trans r2); clear r1 r2) | fail)
                  go_roundw
                  case rel => exact ⟨q + 1, r + 1, a2, c2, by go_num, rfl, by omega, by omega, by rw [HK2.out, List.length_append, HLN.out]; rfl, by rw [HK2.out]; exact R7.out, B7.out⟩
                  case measure => simp [intOf]; omega
              · have j1 : ¬ (q : Int) < (n : Int) := by omega
                have hqe : V.take q = V := List.take_of_length_le (by rw [HN.out]; omega)
                rw [hqe] at HLN HR
                have hr2 : r + 2 = n := by have h9 := HOL.out; rw [HLN.out] at h9; omega
                have lwr : lb < wr.heap.size := by have := EW.out.size; have := lt_of_block HX.out; omega
                have H1 : Hid (∀ W2 vb, Below wr.heap.size wr W2 → W2.heap[vb]? = some (.cells #[.int .i64 2, .int .i64 it] 58) → wr.heap.size ≤ vb → Calls Try.prog 56 #[.slice a13 r c13, .int .i64 jj, .slice (some ⟨vb, 0, none⟩) 1 1] W2 fun e w' => ∃ a' c', e = .returned (.slice a' (r + 1) c') ∧ VRow w' w5.heap.size (.slice a' (r + 1) c') (insM (oth it V) jj (2, it)) ∧ W2.grownBy w' (Value.ownBlock (.slice a13 r c13))) := fun W2 vb hf hv hge => insert_any (v := (2, it)) (VRow.later HR.out (Nat.le_refl _) hf) HLN.out (by omega) (by omega) (Nat.le_trans HBr.out.size hf.size) hv fun g hg => by have := (World.ownsRow.lt HR.out g hg).2; omega
                have H2 : Hid (∀ W2 vb a' c', VRow W2 w5.heap.size (.slice a' (r + 1) c') (insM (oth it V) jj (2, it)) → W2.heap[vb]? = some (.cells #[.int .i64 3, .int .i64 it] 58) → w5.heap.size ≤ W2.heap.size → Calls Try.prog 56 #[.slice a' (r + 1) c', .int .i64 kk, .slice (some ⟨vb, 0, none⟩) 1 1] W2 fun e w' => ∃ a2 c2, e = .returned (.slice a2 (r + 1 + 1) c2) ∧ VRow w' w5.heap.size (.slice a2 (r + 1 + 1) c2) (insM (insM (oth it V) jj (2, it)) kk (3, it)) ∧ W2.grownBy w' (Value.ownBlock (.slice a' (r + 1) c'))) := fun W2 vb a' c' hr hv hs => by
                  have hl : (insM (oth it V) jj (2, it)).length = r + 1 := by rw [insM_len (by rw [HLN.out]; omega), HLN.out]
                  refine insert_any (v := (3, it)) hr hl (by omega) (by omega) hs hv fun g hg => ?_
                  intro e9
                  subst e9
                  obtain ⟨g2, rfl, _⟩ := vrow_pos hr (by omega)
                  injection hg with hg
                  subst hg
                  have h9 := vrow_not hr hl (by omega) hv
                  have h8 : ((2, it) : Vst) ∈ insM (oth it V) jj (2, it) := by unfold insM; simp
                  rw [h9] at h8
                  simp at h8
                have HL2 : Hid ((insM (insM (oth it V) jj (2, it)) kk (3, it)).length = r + 1 + 1) := by show _ = _; rw [insM_len (by rw [insM_len (by rw [HLN.out]; omega), HLN.out]; omega), insM_len (by rw [HLN.out]; omega), HLN.out]
                have HR2 := hide hr2
                clear hr2
                go_wp2_with fail
                refine wp_region_held_drew (S := (fun w' => w'.cell? ⟨w3.heap.size + 1, 0, none⟩ = some (.int .i64 2) ∧ w'.cell? ⟨w3.heap.size + 1, 1, none⟩ = some (.int .i64 it) ∧ w'.cell? ⟨w3.heap.size + 1 + 1, 0, none⟩ = some (.int .i64 3) ∧ w'.cell? ⟨w3.heap.size + 1 + 1, 1, none⟩ = some (.int .i64 it))) (by kernel_rfl) ?_ (fun hHeld0 => ?_)
                · (try dsimp only); go_keep
                refine wpAnyH_take (i := 0) (oi := { dst := some 86, op := Op.move (Operand.tmp 0), type := 26, pos := "inner.go:100", after := #[], guard := none }) (v := ?_) rfl (by kernel_rfl) (by kernel_rfl) (by kernel_rfl) (fun _ _ _ h => h) (Or.inl ⟨by rfl, ?_⟩) (by assumption) ?_
                rotate_left
                · intro w hSw; (try dsimp only at hSw); first | (go_simp; done) | (go_simp; with_reducible rfl) | with_reducible rfl | rfl
                try simp only [Act.put, List.setIfInBounds_toArray]
                refine wpAnyH_take (i := 1) (oi := { dst := some 87, op := Op.move (Operand.tmp 13), type := 22, pos := "inner.go:100", after := #[], guard := none }) (v := ?_) rfl (by kernel_rfl) (by kernel_rfl) (by kernel_rfl) (fun _ _ _ h => h) (Or.inl ⟨by rfl, ?_⟩) (by assumption) ?_
                rotate_left
                · intro w hSw; (try dsimp only at hSw); first | (go_simp; done) | (go_simp; with_reducible rfl) | with_reducible rfl | rfl
                try simp only [Act.put, List.setIfInBounds_toArray]
                refine wpAnyH_take (i := 2) (oi := { dst := some 88, op := Op.move (Operand.tmp 2), type := 3, pos := "inner.go:100", after := #[], guard := none }) (v := ?_) rfl (by kernel_rfl) (by kernel_rfl) (by kernel_rfl) (fun _ _ _ h => h) (Or.inl ⟨by rfl, ?_⟩) (by assumption) ?_
                rotate_left
                · intro w hSw; (try dsimp only at hSw); first | (go_simp; done) | (go_simp; with_reducible rfl) | with_reducible rfl | rfl
                try simp only [Act.put, List.setIfInBounds_toArray]
                refine wpAnyH_take (i := 3) (oi := { dst := some 89, op := Op.load 58 (Operand.tmp 11), type := 58, pos := "inner.go:100", after := #[], guard := none }) (v := ?_) rfl (by kernel_rfl) (by kernel_rfl) (by kernel_rfl) (fun _ _ _ h => h) (Or.inl ⟨by rfl, ?_⟩) (by assumption) ?_
                rotate_left
                · intro w hSw; (try dsimp only at hSw); first | (go_simp; done) | (go_simp; with_reducible rfl) | with_reducible rfl | rfl
                try simp only [Act.put, List.setIfInBounds_toArray]
                refine wpAnyH_take (i := 6) (oi := { dst := some 92, op := Op.move (Operand.tmp 3), type := 3, pos := "inner.go:100", after := #[], guard := none }) (v := ?_) rfl (by kernel_rfl) (by kernel_rfl) (by kernel_rfl) (fun _ _ _ h => h) (Or.inl ⟨by rfl, ?_⟩) (by assumption) ?_
                rotate_left
                · intro w hSw; (try dsimp only at hSw); first | (go_simp; done) | (go_simp; with_reducible rfl) | with_reducible rfl | rfl
                try simp only [Act.put, List.setIfInBounds_toArray]
                refine wpAnyH_take (i := 7) (oi := { dst := some 93, op := Op.load 58 (Operand.tmp 12), type := 58, pos := "inner.go:100", after := #[], guard := none }) (v := ?_) rfl (by kernel_rfl) (by kernel_rfl) (by kernel_rfl) (fun _ _ _ h => h) (Or.inl ⟨by rfl, ?_⟩) (by assumption) ?_
                rotate_left
                · intro w hSw; (try dsimp only at hSw); first | (go_simp; done) | (go_simp; with_reducible rfl) | with_reducible rfl | rfl
                try simp only [Act.put, List.setIfInBounds_toArray]
                refine wpAnyH_ready (rs := [4, 8]) (by kernel_rfl) (by simp) ?_
                refine AllReadyH.cons (o := { dst := some 90, op := Op.buildSlice 22 1 #[(0, Operand.tmp 89)], type := 22, pos := "inner.go:100", after := #[{ on := 3, ground := Ground.data }], guard := none }) rfl (fun K hK => ?_) ?_
                ·go_simp
                 refine hK.out _ _ ?_ (fun hHeld1 => ?_)
                 · (try dsimp only); go_keep
                 clear hK K
                 try simp only [Act.put, List.setIfInBounds_toArray]
                 clear hHeld0
                 refine wpAnyH_ready (rs := [5, 8]) (by kernel_rfl) (by simp) ?_
                 refine AllReadyH.cons (o := { dst := some 91, op := Op.call { callee := Callee.value (Operand.func 56), args := #[Operand.tmp 87, Operand.tmp 88, Operand.tmp 90], argTypes := #[22, 3, 22] }, type := 22, pos := "inner.go:100", after := #[{ on := 1, ground := Ground.data }, { on := 2, ground := Ground.data }, { on := 4, ground := Ground.data }], guard := none }) rfl (fun K hK => ?_) ?_
                 ·(have hbw : Below wr.heap.size wr (wr.drew.alloc (.cells #[.int .i64 2, .int .i64 it] 58)) := (below_on ((Below.refl _ _).drew) ((Below.refl _ _).alloc (Nat.le_refl _) _)); have hvb : ((wr.drew.alloc (.cells #[.int .i64 2, .int .i64 it] 58)) : World).heap[wr.heap.size]? = some (.cells #[.int .i64 2, .int .i64 it] 58) := heap_alloc_new wr.drew _; refine held_call (by rfl) 56 _ _ (by rfl) hent36 [.slice a13 r c13, .int .i64 jj, .slice (some ⟨wr.heap.size, 0, none⟩) 1 1] (by rfl) ?_; refine (H1.out _ _ hbw hvb (by omega)).mono ?_; rintro e w6 ⟨a6, c6, rfl, r6, g6⟩; refine ⟨_, rfl, ?_⟩; have R6 := hide r6; have F6 := hide g6; have E6 : Hid (Below w5.heap.size w5 w6) := below_own (below_on HBr.out hbw) HR.out g6 (below_on HBr.out hbw).size; have E7 := hide (below_on K5.out E6.out); have hsz : (wr.drew.alloc (.cells #[.int .i64 2, .int .i64 it] 58)).heap.size ≤ w6.heap.size := g6.size; simp only [World.size_alloc, World.size_drew] at hsz; have s0 : w6.cell? ⟨w3.heap.size, 0, none⟩ = some (.int .i64 kd) := (HBX.out _ E7.out).1 0; have s1 : w6.cell? ⟨w3.heap.size, 1, none⟩ = some (.int .i64 it) := (HBX.out _ E7.out).1 1; have s2 : w6.cell? ⟨w3.heap.size + 1, 0, none⟩ = some (.int .i64 2) := (HBX.out _ E7.out).2.1 0; have s3 : w6.cell? ⟨w3.heap.size + 1, 1, none⟩ = some (.int .i64 it) := (HBX.out _ E7.out).2.1 1; have s4 : w6.cell? ⟨w3.heap.size + 1 + 1, 0, none⟩ = some (.int .i64 3) := (HBX.out _ E7.out).2.2 0; have s5 : w6.cell? ⟨w3.heap.size + 1 + 1, 1, none⟩ = some (.int .i64 it) := (HBX.out _ E7.out).2.2 1; have o1 : ¬ w3.heap.size + 1 = w6.heap.size := (by have := E7.out.size; have := HWS.out; omega); have o2 : ¬ w3.heap.size + 1 + 1 = w6.heap.size := (by have := E7.out.size; have := HWS.out; omega); have o3 : w3.heap.size + 1 < w6.heap.size := (by have := E7.out.size; have := HWS.out; omega); have o4 : w3.heap.size + 1 + 1 < w6.heap.size := (by have := E7.out.size; have := HWS.out; omega); clear r6 g6)
                  refine hK.out _ _ ?_ (fun hHeld2 => ?_)
                  · (try dsimp only); go_keep
                  clear hK K
                  try simp only [Act.put, List.setIfInBounds_toArray]
                  clear hHeld1
                  refine wpAnyH_ready (rs := [8]) (by kernel_rfl) (by simp) ?_
                  refine AllReadyH.cons (o := { dst := some 94, op := Op.buildSlice 22 1 #[(0, Operand.tmp 93)], type := 22, pos := "inner.go:100", after := #[{ on := 7, ground := Ground.data }], guard := none }) rfl (fun K hK => ?_) ?_
                  ·go_simp
                   refine hK.out _ _ ?_ (fun hHeld3 => ?_)
                   · (try dsimp only); go_keep
                   clear hK K
                   try simp only [Act.put, List.setIfInBounds_toArray]
                   clear hHeld2
                   refine wpAnyH_ready (rs := [9]) (by kernel_rfl) (by simp) ?_
                   refine AllReadyH.cons (o := { dst := some 95, op := Op.call { callee := Callee.value (Operand.func 56), args := #[Operand.tmp 91, Operand.tmp 92, Operand.tmp 94], argTypes := #[22, 3, 22] }, type := 22, pos := "inner.go:100", after := #[{ on := 5, ground := Ground.data }, { on := 6, ground := Ground.data }, { on := 8, ground := Ground.data }, { on := 5, ground := Ground.chain }], guard := none }) rfl (fun K hK => ?_) ?_
                   ·(have hvb2 : ((w6.alloc (.cells #[.int .i64 3, .int .i64 it] 58)) : World).heap[w6.heap.size]? = some (.cells #[.int .i64 3, .int .i64 it] 58) := heap_alloc_new w6 _; refine held_call (by rfl) 56 _ _ (by rfl) hent36 [.slice a6 (r + 1) c6, .int .i64 kk, .slice (some ⟨w6.heap.size, 0, none⟩) 1 1] (by rfl) ?_; refine (H2.out _ _ _ _ (VRow.later R6.out (Nat.le_refl _) ((Below.refl _ _).alloc (Nat.le_refl _) _)) hvb2 (below_on E6.out ((Below.refl _ _).alloc (Nat.le_refl _) _)).size).mono ?_; rintro e w8 ⟨a8, c8, rfl, r8, g8⟩; refine ⟨_, rfl, ?_⟩; have R8 := hide r8; have E8 : Hid (Below w5.heap.size w5 w8) := below_own (below_on E6.out ((Below.refl _ _).alloc (Nat.le_refl _) _)) R6.out g8 (below_on E6.out ((Below.refl _ _).alloc (Nat.le_refl _) _)).size; have E9 := hide (below_on K5.out E8.out); have u0 : w8.cell? ⟨w3.heap.size, 0, none⟩ = some (.int .i64 kd) := (HBX.out _ E9.out).1 0; have u1 : w8.cell? ⟨w3.heap.size, 1, none⟩ = some (.int .i64 it) := (HBX.out _ E9.out).1 1; have u2 : w8.cell? ⟨w3.heap.size + 1, 0, none⟩ = some (.int .i64 2) := (HBX.out _ E9.out).2.1 0; have u3 : w8.cell? ⟨w3.heap.size + 1, 1, none⟩ = some (.int .i64 it) := (HBX.out _ E9.out).2.1 1; have u4 : w8.cell? ⟨w3.heap.size + 1 + 1, 0, none⟩ = some (.int .i64 3) := (HBX.out _ E9.out).2.2 0; have u5 : w8.cell? ⟨w3.heap.size + 1 + 1, 1, none⟩ = some (.int .i64 it) := (HBX.out _ E9.out).2.2 1; have HX8 := hide (((below_on (below_on K3.out KB.out) E9.out).block lb (lt_of_block HX.out)).trans HX.out); have x8 : w8.cell? ⟨lb, 0, none⟩ = some (.slice (some ⟨b, off, none⟩) n c) := cell_of_row _ _ _ _ _ _ HX8.out; have xf : w8.frozen? ⟨lb, 0, none⟩ = false := frz_row HX8.out; have ob1 : ¬ w3.heap.size + 1 = lb := (by omega); have ob2 : ¬ w3.heap.size + 1 + 1 = lb := (by omega); clear r8 g8)
                    refine hK.out _ _ ?_ (fun hHeld4 => ?_)
                    · (try dsimp only); go_keep
                    clear hK K
                    try simp only [Act.put, List.setIfInBounds_toArray]
                    clear hHeld3
                    refine wpAnyH_take (i := 10) (oi := { dst := some 96, op := Op.nilCheck (Operand.tmp 86), type := 0, pos := "inner.go:100", after := #[{ on := 0, ground := Ground.data }, { on := 0, ground := Ground.phase }, { on := 1, ground := Ground.phase }, { on := 2, ground := Ground.phase }, { on := 3, ground := Ground.phase }, { on := 4, ground := Ground.phase }, { on := 5, ground := Ground.phase }, { on := 6, ground := Ground.phase }, { on := 7, ground := Ground.phase }, { on := 8, ground := Ground.phase }, { on := 9, ground := Ground.phase }], guard := none }) (v := ?_) rfl (by kernel_rfl) (by kernel_rfl) (by kernel_rfl) (fun _ _ _ h => h) (Or.inl ⟨by rfl, ?_⟩) (by assumption) ?_
                    rotate_left
                    · intro w hSw; (try dsimp only at hSw); first | (go_simp; done) | (go_simp; with_reducible rfl) | with_reducible rfl | rfl
                    try simp only [Act.put, List.setIfInBounds_toArray]
                    refine wpAnyH_take (i := 11) (oi := { dst := some 97, op := Op.fieldAddr 63 (Operand.tmp 96) 0, type := 0, pos := "inner.go:100", after := #[{ on := 10, ground := Ground.data }, { on := 0, ground := Ground.phase }, { on := 1, ground := Ground.phase }, { on := 2, ground := Ground.phase }, { on := 3, ground := Ground.phase }, { on := 4, ground := Ground.phase }, { on := 5, ground := Ground.phase }, { on := 6, ground := Ground.phase }, { on := 7, ground := Ground.phase }, { on := 8, ground := Ground.phase }, { on := 9, ground := Ground.phase }], guard := none }) (v := ?_) rfl (by kernel_rfl) (by kernel_rfl) (by kernel_rfl) (fun _ _ _ h => h) (Or.inl ⟨by rfl, ?_⟩) (by assumption) ?_
                    rotate_left
                    · intro w hSw; (try dsimp only at hSw); first | (go_simp; done) | (go_simp; with_reducible rfl) | with_reducible rfl | rfl
                    try simp only [Act.put, List.setIfInBounds_toArray]
                    refine wpAnyH_ready (rs := [12]) (by kernel_rfl) (by simp) ?_
                    refine AllReadyH.cons (o := { dst := none, op := Op.store 22 (Operand.tmp 97) (Operand.tmp 95), type := 0, pos := "inner.go:100", after := #[{ on := 11, ground := Ground.data }, { on := 9, ground := Ground.data }, { on := 9, ground := Ground.chain }, { on := 0, ground := Ground.phase }, { on := 1, ground := Ground.phase }, { on := 2, ground := Ground.phase }, { on := 3, ground := Ground.phase }, { on := 4, ground := Ground.phase }, { on := 5, ground := Ground.phase }, { on := 6, ground := Ground.phase }, { on := 7, ground := Ground.phase }, { on := 8, ground := Ground.phase }, { on := 9, ground := Ground.phase }], guard := none }) rfl (fun K hK => ?_) ?_
                    ·go_simp
                     refine hK.out _ _ ?_ (fun hHeld5 => ?_)
                     · (try dsimp only); (first | (go_keep; done) | (refine ⟨?_, ?_, ?_, ?_⟩ <;> (refine cell_same (w := w8) ?_ (by assumption); (repeat rw [heap_setCell_other _ _ _ _ (by simp; omega)]))))
                     clear hK K
                     try simp only [Act.put, List.setIfInBounds_toArray]
                     clear hHeld4
                     refine wpAnyH_done (by kernel_rfl) ?_ _
                     clear hHeld5
                     go_wp2_with fail
                     go_ret
                     have hne : ∀ g, Value.ownBlock (.slice a8 (r + 1 + 1) c8) = some g → g ≠ lb := fun g h9 => by
                       have h1 := (World.ownsRow.lt R8.out g (by rw [← h9])).1
                       have h2 := (below_on (below_on K3.out KB.out) K5.out).size
                       have h3 := lt_of_block HX.out
                       omega
                     refine ⟨by rw [HRES.out]; rfl, ?_, ?_⟩
                     · rw [HRES.out]
                       refine ⟨a8, c8, ?_, ?_, ?_⟩
                       · show _ = _
                         rw [HL2.out]
                         exact heap_setCell_same w8 lb 0 _ _ _ HX8.out
                       · show VRow _ _ _ _
                         rw [HL2.out]
                         exact own_of_block (own_mono R8.out (Nat.zero_le _)) fun g h9 => heap_setCell_other _ _ _ _ (hne g h9)
                       · intro g hg
                         have hg' : Value.ownBlock (.slice a8 (insM (insM (oth it V) jj (2, it)) kk (3, it)).length c8) = some g := hg
                         rw [HL2.out] at hg'
                         exact hne g hg'
                     · exact grw_set (below_grw (below_on (below_on K3.out KB.out) E9.out)) _ _
                    exact AllReadyH.nil
                   exact AllReadyH.nil
                  exact AllReadyH.nil
                 refine AllReadyH.cons (o := { dst := some 94, op := Op.buildSlice 22 1 #[(0, Operand.tmp 93)], type := 22, pos := "inner.go:100", after := #[{ on := 7, ground := Ground.data }], guard := none }) rfl (fun K hK => ?_) ?_
                 ·go_simp
                  refine hK.out _ _ ?_ (fun hHeld6 => ?_)
                  · (try dsimp only); go_keep
                  clear hK K
                  try simp only [Act.put, List.setIfInBounds_toArray]
                  clear hHeld1
                  refine wpAnyH_ready (rs := [5]) (by kernel_rfl) (by simp) ?_
                  refine AllReadyH.cons (o := { dst := some 91, op := Op.call { callee := Callee.value (Operand.func 56), args := #[Operand.tmp 87, Operand.tmp 88, Operand.tmp 90], argTypes := #[22, 3, 22] }, type := 22, pos := "inner.go:100", after := #[{ on := 1, ground := Ground.data }, { on := 2, ground := Ground.data }, { on := 4, ground := Ground.data }], guard := none }) rfl (fun K hK => ?_) ?_
                  ·(have hbw : Below wr.heap.size wr ((wr.drew.alloc (.cells #[.int .i64 2, .int .i64 it] 58)).alloc (.cells #[.int .i64 3, .int .i64 it] 58)) := (below_on (below_on ((Below.refl _ _).drew) ((Below.refl _ _).alloc (Nat.le_refl _) _)) ((Below.refl _ _).alloc (Nat.le_refl _) _)); have hvb : (((wr.drew.alloc (.cells #[.int .i64 2, .int .i64 it] 58)).alloc (.cells #[.int .i64 3, .int .i64 it] 58)) : World).heap[wr.heap.size]? = some (.cells #[.int .i64 2, .int .i64 it] 58) := (heap_alloc_old (wr.drew.alloc (.cells #[.int .i64 2, .int .i64 it] 58)) _ (by simp)).trans (heap_alloc_new wr.drew _); refine held_call (by rfl) 56 _ _ (by rfl) hent36 [.slice a13 r c13, .int .i64 jj, .slice (some ⟨wr.heap.size, 0, none⟩) 1 1] (by rfl) ?_; refine (H1.out _ _ hbw hvb (by omega)).mono ?_; rintro e w6 ⟨a6, c6, rfl, r6, g6⟩; refine ⟨_, rfl, ?_⟩; have R6 := hide r6; have F6 := hide g6; have E6 : Hid (Below w5.heap.size w5 w6) := below_own (below_on HBr.out hbw) HR.out g6 (below_on HBr.out hbw).size; have E7 := hide (below_on K5.out E6.out); have hsz : ((wr.drew.alloc (.cells #[.int .i64 2, .int .i64 it] 58)).alloc (.cells #[.int .i64 3, .int .i64 it] 58)).heap.size ≤ w6.heap.size := g6.size; simp only [World.size_alloc, World.size_drew] at hsz; have s0 : w6.cell? ⟨w3.heap.size, 0, none⟩ = some (.int .i64 kd) := (HBX.out _ E7.out).1 0; have s1 : w6.cell? ⟨w3.heap.size, 1, none⟩ = some (.int .i64 it) := (HBX.out _ E7.out).1 1; have s2 : w6.cell? ⟨w3.heap.size + 1, 0, none⟩ = some (.int .i64 2) := (HBX.out _ E7.out).2.1 0; have s3 : w6.cell? ⟨w3.heap.size + 1, 1, none⟩ = some (.int .i64 it) := (HBX.out _ E7.out).2.1 1; have s4 : w6.cell? ⟨w3.heap.size + 1 + 1, 0, none⟩ = some (.int .i64 3) := (HBX.out _ E7.out).2.2 0; have s5 : w6.cell? ⟨w3.heap.size + 1 + 1, 1, none⟩ = some (.int .i64 it) := (HBX.out _ E7.out).2.2 1; have o1 : ¬ w3.heap.size + 1 = w6.heap.size := (by have := E7.out.size; have := HWS.out; omega); have o2 : ¬ w3.heap.size + 1 + 1 = w6.heap.size := (by have := E7.out.size; have := HWS.out; omega); have o3 : w3.heap.size + 1 < w6.heap.size := (by have := E7.out.size; have := HWS.out; omega); have o4 : w3.heap.size + 1 + 1 < w6.heap.size := (by have := E7.out.size; have := HWS.out; omega); clear r6 g6)
                   refine hK.out _ _ ?_ (fun hHeld7 => ?_)
                   · (try dsimp only); go_keep
                   clear hK K
                   try simp only [Act.put, List.setIfInBounds_toArray]
                   clear hHeld6
                   refine wpAnyH_ready (rs := [9]) (by kernel_rfl) (by simp) ?_
                   refine AllReadyH.cons (o := { dst := some 95, op := Op.call { callee := Callee.value (Operand.func 56), args := #[Operand.tmp 91, Operand.tmp 92, Operand.tmp 94], argTypes := #[22, 3, 22] }, type := 22, pos := "inner.go:100", after := #[{ on := 5, ground := Ground.data }, { on := 6, ground := Ground.data }, { on := 8, ground := Ground.data }, { on := 5, ground := Ground.chain }], guard := none }) rfl (fun K hK => ?_) ?_
                   ·(have hvb2 : (w6 : World).heap[wr.heap.size + 1]? = some (.cells #[.int .i64 3, .int .i64 it] 58) := (F6.out.block (wr.heap.size + 1) (by simp) (fun e => own_ne HR.out (by omega) e.symm)).trans (by have h9 := heap_alloc_new (wr.drew.alloc (.cells #[.int .i64 2, .int .i64 it] 58)) (.cells #[.int .i64 3, .int .i64 it] 58); simpa using h9); refine held_call (by rfl) 56 _ _ (by rfl) hent36 [.slice a6 (r + 1) c6, .int .i64 kk, .slice (some ⟨wr.heap.size + 1, 0, none⟩) 1 1] (by rfl) ?_; refine (H2.out _ _ _ _ R6.out hvb2 E6.out.size).mono ?_; rintro e w8 ⟨a8, c8, rfl, r8, g8⟩; refine ⟨_, rfl, ?_⟩; have R8 := hide r8; have E8 : Hid (Below w5.heap.size w5 w8) := below_own E6.out R6.out g8 E6.out.size; have E9 := hide (below_on K5.out E8.out); have u0 : w8.cell? ⟨w3.heap.size, 0, none⟩ = some (.int .i64 kd) := (HBX.out _ E9.out).1 0; have u1 : w8.cell? ⟨w3.heap.size, 1, none⟩ = some (.int .i64 it) := (HBX.out _ E9.out).1 1; have u2 : w8.cell? ⟨w3.heap.size + 1, 0, none⟩ = some (.int .i64 2) := (HBX.out _ E9.out).2.1 0; have u3 : w8.cell? ⟨w3.heap.size + 1, 1, none⟩ = some (.int .i64 it) := (HBX.out _ E9.out).2.1 1; have u4 : w8.cell? ⟨w3.heap.size + 1 + 1, 0, none⟩ = some (.int .i64 3) := (HBX.out _ E9.out).2.2 0; have u5 : w8.cell? ⟨w3.heap.size + 1 + 1, 1, none⟩ = some (.int .i64 it) := (HBX.out _ E9.out).2.2 1; have HX8 := hide (((below_on (below_on K3.out KB.out) E9.out).block lb (lt_of_block HX.out)).trans HX.out); have x8 : w8.cell? ⟨lb, 0, none⟩ = some (.slice (some ⟨b, off, none⟩) n c) := cell_of_row _ _ _ _ _ _ HX8.out; have xf : w8.frozen? ⟨lb, 0, none⟩ = false := frz_row HX8.out; have ob1 : ¬ w3.heap.size + 1 = lb := (by omega); have ob2 : ¬ w3.heap.size + 1 + 1 = lb := (by omega); clear r8 g8)
                    refine hK.out _ _ ?_ (fun hHeld8 => ?_)
                    · (try dsimp only); go_keep
                    clear hK K
                    try simp only [Act.put, List.setIfInBounds_toArray]
                    clear hHeld7
                    refine wpAnyH_take (i := 10) (oi := { dst := some 96, op := Op.nilCheck (Operand.tmp 86), type := 0, pos := "inner.go:100", after := #[{ on := 0, ground := Ground.data }, { on := 0, ground := Ground.phase }, { on := 1, ground := Ground.phase }, { on := 2, ground := Ground.phase }, { on := 3, ground := Ground.phase }, { on := 4, ground := Ground.phase }, { on := 5, ground := Ground.phase }, { on := 6, ground := Ground.phase }, { on := 7, ground := Ground.phase }, { on := 8, ground := Ground.phase }, { on := 9, ground := Ground.phase }], guard := none }) (v := ?_) rfl (by kernel_rfl) (by kernel_rfl) (by kernel_rfl) (fun _ _ _ h => h) (Or.inl ⟨by rfl, ?_⟩) (by assumption) ?_
                    rotate_left
                    · intro w hSw; (try dsimp only at hSw); first | (go_simp; done) | (go_simp; with_reducible rfl) | with_reducible rfl | rfl
                    try simp only [Act.put, List.setIfInBounds_toArray]
                    refine wpAnyH_take (i := 11) (oi := { dst := some 97, op := Op.fieldAddr 63 (Operand.tmp 96) 0, type := 0, pos := "inner.go:100", after := #[{ on := 10, ground := Ground.data }, { on := 0, ground := Ground.phase }, { on := 1, ground := Ground.phase }, { on := 2, ground := Ground.phase }, { on := 3, ground := Ground.phase }, { on := 4, ground := Ground.phase }, { on := 5, ground := Ground.phase }, { on := 6, ground := Ground.phase }, { on := 7, ground := Ground.phase }, { on := 8, ground := Ground.phase }, { on := 9, ground := Ground.phase }], guard := none }) (v := ?_) rfl (by kernel_rfl) (by kernel_rfl) (by kernel_rfl) (fun _ _ _ h => h) (Or.inl ⟨by rfl, ?_⟩) (by assumption) ?_
                    rotate_left
                    · intro w hSw; (try dsimp only at hSw); first | (go_simp; done) | (go_simp; with_reducible rfl) | with_reducible rfl | rfl
                    try simp only [Act.put, List.setIfInBounds_toArray]
                    refine wpAnyH_ready (rs := [12]) (by kernel_rfl) (by simp) ?_
                    refine AllReadyH.cons (o := { dst := none, op := Op.store 22 (Operand.tmp 97) (Operand.tmp 95), type := 0, pos := "inner.go:100", after := #[{ on := 11, ground := Ground.data }, { on := 9, ground := Ground.data }, { on := 9, ground := Ground.chain }, { on := 0, ground := Ground.phase }, { on := 1, ground := Ground.phase }, { on := 2, ground := Ground.phase }, { on := 3, ground := Ground.phase }, { on := 4, ground := Ground.phase }, { on := 5, ground := Ground.phase }, { on := 6, ground := Ground.phase }, { on := 7, ground := Ground.phase }, { on := 8, ground := Ground.phase }, { on := 9, ground := Ground.phase }], guard := none }) rfl (fun K hK => ?_) ?_
                    ·go_simp
                     refine hK.out _ _ ?_ (fun hHeld9 => ?_)
                     · (try dsimp only); (first | (go_keep; done) | (refine ⟨?_, ?_, ?_, ?_⟩ <;> (refine cell_same (w := w8) ?_ (by assumption); (repeat rw [heap_setCell_other _ _ _ _ (by simp; omega)]))))
                     clear hK K
                     try simp only [Act.put, List.setIfInBounds_toArray]
                     clear hHeld8
                     refine wpAnyH_done (by kernel_rfl) ?_ _
                     clear hHeld9
                     go_wp2_with fail
                     go_ret
                     have hne : ∀ g, Value.ownBlock (.slice a8 (r + 1 + 1) c8) = some g → g ≠ lb := fun g h9 => by
                       have h1 := (World.ownsRow.lt R8.out g (by rw [← h9])).1
                       have h2 := (below_on (below_on K3.out KB.out) K5.out).size
                       have h3 := lt_of_block HX.out
                       omega
                     refine ⟨by rw [HRES.out]; rfl, ?_, ?_⟩
                     · rw [HRES.out]
                       refine ⟨a8, c8, ?_, ?_, ?_⟩
                       · show _ = _
                         rw [HL2.out]
                         exact heap_setCell_same w8 lb 0 _ _ _ HX8.out
                       · show VRow _ _ _ _
                         rw [HL2.out]
                         exact own_of_block (own_mono R8.out (Nat.zero_le _)) fun g h9 => heap_setCell_other _ _ _ _ (hne g h9)
                       · intro g hg
                         have hg' : Value.ownBlock (.slice a8 (insM (insM (oth it V) jj (2, it)) kk (3, it)).length c8) = some g := hg
                         rw [HL2.out] at hg'
                         exact hne g hg'
                     · exact grw_set (below_grw (below_on (below_on K3.out KB.out) E9.out)) _ _
                    exact AllReadyH.nil
                   exact AllReadyH.nil
                  exact AllReadyH.nil
                 exact AllReadyH.nil
                refine AllReadyH.cons (o := { dst := some 94, op := Op.buildSlice 22 1 #[(0, Operand.tmp 93)], type := 22, pos := "inner.go:100", after := #[{ on := 7, ground := Ground.data }], guard := none }) rfl (fun K hK => ?_) ?_
                ·go_simp
                 refine hK.out _ _ ?_ (fun hHeld10 => ?_)
                 · (try dsimp only); go_keep
                 clear hK K
                 try simp only [Act.put, List.setIfInBounds_toArray]
                 clear hHeld0
                 refine wpAnyH_ready (rs := [4]) (by kernel_rfl) (by simp) ?_
                 refine AllReadyH.cons (o := { dst := some 90, op := Op.buildSlice 22 1 #[(0, Operand.tmp 89)], type := 22, pos := "inner.go:100", after := #[{ on := 3, ground := Ground.data }], guard := none }) rfl (fun K hK => ?_) ?_
                 ·go_simp
                  refine hK.out _ _ ?_ (fun hHeld11 => ?_)
                  · (try dsimp only); go_keep
                  clear hK K
                  try simp only [Act.put, List.setIfInBounds_toArray]
                  clear hHeld10
                  refine wpAnyH_ready (rs := [5]) (by kernel_rfl) (by simp) ?_
                  refine AllReadyH.cons (o := { dst := some 91, op := Op.call { callee := Callee.value (Operand.func 56), args := #[Operand.tmp 87, Operand.tmp 88, Operand.tmp 90], argTypes := #[22, 3, 22] }, type := 22, pos := "inner.go:100", after := #[{ on := 1, ground := Ground.data }, { on := 2, ground := Ground.data }, { on := 4, ground := Ground.data }], guard := none }) rfl (fun K hK => ?_) ?_
                  ·(have hbw : Below wr.heap.size wr ((wr.drew.alloc (.cells #[.int .i64 3, .int .i64 it] 58)).alloc (.cells #[.int .i64 2, .int .i64 it] 58)) := (below_on (below_on ((Below.refl _ _).drew) ((Below.refl _ _).alloc (Nat.le_refl _) _)) ((Below.refl _ _).alloc (Nat.le_refl _) _)); have hvb : (((wr.drew.alloc (.cells #[.int .i64 3, .int .i64 it] 58)).alloc (.cells #[.int .i64 2, .int .i64 it] 58)) : World).heap[wr.heap.size + 1]? = some (.cells #[.int .i64 2, .int .i64 it] 58) := (by have h9 := heap_alloc_new (wr.drew.alloc (.cells #[.int .i64 3, .int .i64 it] 58)) (.cells #[.int .i64 2, .int .i64 it] 58); simpa using h9); refine held_call (by rfl) 56 _ _ (by rfl) hent36 [.slice a13 r c13, .int .i64 jj, .slice (some ⟨wr.heap.size + 1, 0, none⟩) 1 1] (by rfl) ?_; refine (H1.out _ _ hbw hvb (by omega)).mono ?_; rintro e w6 ⟨a6, c6, rfl, r6, g6⟩; refine ⟨_, rfl, ?_⟩; have R6 := hide r6; have F6 := hide g6; have E6 : Hid (Below w5.heap.size w5 w6) := below_own (below_on HBr.out hbw) HR.out g6 (below_on HBr.out hbw).size; have E7 := hide (below_on K5.out E6.out); have hsz : ((wr.drew.alloc (.cells #[.int .i64 3, .int .i64 it] 58)).alloc (.cells #[.int .i64 2, .int .i64 it] 58)).heap.size ≤ w6.heap.size := g6.size; simp only [World.size_alloc, World.size_drew] at hsz; have s0 : w6.cell? ⟨w3.heap.size, 0, none⟩ = some (.int .i64 kd) := (HBX.out _ E7.out).1 0; have s1 : w6.cell? ⟨w3.heap.size, 1, none⟩ = some (.int .i64 it) := (HBX.out _ E7.out).1 1; have s2 : w6.cell? ⟨w3.heap.size + 1, 0, none⟩ = some (.int .i64 2) := (HBX.out _ E7.out).2.1 0; have s3 : w6.cell? ⟨w3.heap.size + 1, 1, none⟩ = some (.int .i64 it) := (HBX.out _ E7.out).2.1 1; have s4 : w6.cell? ⟨w3.heap.size + 1 + 1, 0, none⟩ = some (.int .i64 3) := (HBX.out _ E7.out).2.2 0; have s5 : w6.cell? ⟨w3.heap.size + 1 + 1, 1, none⟩ = some (.int .i64 it) := (HBX.out _ E7.out).2.2 1; have o1 : ¬ w3.heap.size + 1 = w6.heap.size := (by have := E7.out.size; have := HWS.out; omega); have o2 : ¬ w3.heap.size + 1 + 1 = w6.heap.size := (by have := E7.out.size; have := HWS.out; omega); have o3 : w3.heap.size + 1 < w6.heap.size := (by have := E7.out.size; have := HWS.out; omega); have o4 : w3.heap.size + 1 + 1 < w6.heap.size := (by have := E7.out.size; have := HWS.out; omega); clear r6 g6)
                   refine hK.out _ _ ?_ (fun hHeld12 => ?_)
                   · (try dsimp only); go_keep
                   clear hK K
                   try simp only [Act.put, List.setIfInBounds_toArray]
                   clear hHeld11
                   refine wpAnyH_ready (rs := [9]) (by kernel_rfl) (by simp) ?_
                   refine AllReadyH.cons (o := { dst := some 95, op := Op.call { callee := Callee.value (Operand.func 56), args := #[Operand.tmp 91, Operand.tmp 92, Operand.tmp 94], argTypes := #[22, 3, 22] }, type := 22, pos := "inner.go:100", after := #[{ on := 5, ground := Ground.data }, { on := 6, ground := Ground.data }, { on := 8, ground := Ground.data }, { on := 5, ground := Ground.chain }], guard := none }) rfl (fun K hK => ?_) ?_
                   ·(have hvb2 : (w6 : World).heap[wr.heap.size]? = some (.cells #[.int .i64 3, .int .i64 it] 58) := (F6.out.block wr.heap.size (by simp <;> omega) (fun e => own_ne HR.out (Nat.le_refl _) e.symm)).trans ((heap_alloc_old (wr.drew.alloc (.cells #[.int .i64 3, .int .i64 it] 58)) _ (by simp)).trans (heap_alloc_new wr.drew _)); refine held_call (by rfl) 56 _ _ (by rfl) hent36 [.slice a6 (r + 1) c6, .int .i64 kk, .slice (some ⟨wr.heap.size, 0, none⟩) 1 1] (by rfl) ?_; refine (H2.out _ _ _ _ R6.out hvb2 E6.out.size).mono ?_; rintro e w8 ⟨a8, c8, rfl, r8, g8⟩; refine ⟨_, rfl, ?_⟩; have R8 := hide r8; have E8 : Hid (Below w5.heap.size w5 w8) := below_own E6.out R6.out g8 E6.out.size; have E9 := hide (below_on K5.out E8.out); have u0 : w8.cell? ⟨w3.heap.size, 0, none⟩ = some (.int .i64 kd) := (HBX.out _ E9.out).1 0; have u1 : w8.cell? ⟨w3.heap.size, 1, none⟩ = some (.int .i64 it) := (HBX.out _ E9.out).1 1; have u2 : w8.cell? ⟨w3.heap.size + 1, 0, none⟩ = some (.int .i64 2) := (HBX.out _ E9.out).2.1 0; have u3 : w8.cell? ⟨w3.heap.size + 1, 1, none⟩ = some (.int .i64 it) := (HBX.out _ E9.out).2.1 1; have u4 : w8.cell? ⟨w3.heap.size + 1 + 1, 0, none⟩ = some (.int .i64 3) := (HBX.out _ E9.out).2.2 0; have u5 : w8.cell? ⟨w3.heap.size + 1 + 1, 1, none⟩ = some (.int .i64 it) := (HBX.out _ E9.out).2.2 1; have HX8 := hide (((below_on (below_on K3.out KB.out) E9.out).block lb (lt_of_block HX.out)).trans HX.out); have x8 : w8.cell? ⟨lb, 0, none⟩ = some (.slice (some ⟨b, off, none⟩) n c) := cell_of_row _ _ _ _ _ _ HX8.out; have xf : w8.frozen? ⟨lb, 0, none⟩ = false := frz_row HX8.out; have ob1 : ¬ w3.heap.size + 1 = lb := (by omega); have ob2 : ¬ w3.heap.size + 1 + 1 = lb := (by omega); clear r8 g8)
                    refine hK.out _ _ ?_ (fun hHeld13 => ?_)
                    · (try dsimp only); go_keep
                    clear hK K
                    try simp only [Act.put, List.setIfInBounds_toArray]
                    clear hHeld12
                    refine wpAnyH_take (i := 10) (oi := { dst := some 96, op := Op.nilCheck (Operand.tmp 86), type := 0, pos := "inner.go:100", after := #[{ on := 0, ground := Ground.data }, { on := 0, ground := Ground.phase }, { on := 1, ground := Ground.phase }, { on := 2, ground := Ground.phase }, { on := 3, ground := Ground.phase }, { on := 4, ground := Ground.phase }, { on := 5, ground := Ground.phase }, { on := 6, ground := Ground.phase }, { on := 7, ground := Ground.phase }, { on := 8, ground := Ground.phase }, { on := 9, ground := Ground.phase }], guard := none }) (v := ?_) rfl (by kernel_rfl) (by kernel_rfl) (by kernel_rfl) (fun _ _ _ h => h) (Or.inl ⟨by rfl, ?_⟩) (by assumption) ?_
                    rotate_left
                    · intro w hSw; (try dsimp only at hSw); first | (go_simp; done) | (go_simp; with_reducible rfl) | with_reducible rfl | rfl
                    try simp only [Act.put, List.setIfInBounds_toArray]
                    refine wpAnyH_take (i := 11) (oi := { dst := some 97, op := Op.fieldAddr 63 (Operand.tmp 96) 0, type := 0, pos := "inner.go:100", after := #[{ on := 10, ground := Ground.data }, { on := 0, ground := Ground.phase }, { on := 1, ground := Ground.phase }, { on := 2, ground := Ground.phase }, { on := 3, ground := Ground.phase }, { on := 4, ground := Ground.phase }, { on := 5, ground := Ground.phase }, { on := 6, ground := Ground.phase }, { on := 7, ground := Ground.phase }, { on := 8, ground := Ground.phase }, { on := 9, ground := Ground.phase }], guard := none }) (v := ?_) rfl (by kernel_rfl) (by kernel_rfl) (by kernel_rfl) (fun _ _ _ h => h) (Or.inl ⟨by rfl, ?_⟩) (by assumption) ?_
                    rotate_left
                    · intro w hSw; (try dsimp only at hSw); first | (go_simp; done) | (go_simp; with_reducible rfl) | with_reducible rfl | rfl
                    try simp only [Act.put, List.setIfInBounds_toArray]
                    refine wpAnyH_ready (rs := [12]) (by kernel_rfl) (by simp) ?_
                    refine AllReadyH.cons (o := { dst := none, op := Op.store 22 (Operand.tmp 97) (Operand.tmp 95), type := 0, pos := "inner.go:100", after := #[{ on := 11, ground := Ground.data }, { on := 9, ground := Ground.data }, { on := 9, ground := Ground.chain }, { on := 0, ground := Ground.phase }, { on := 1, ground := Ground.phase }, { on := 2, ground := Ground.phase }, { on := 3, ground := Ground.phase }, { on := 4, ground := Ground.phase }, { on := 5, ground := Ground.phase }, { on := 6, ground := Ground.phase }, { on := 7, ground := Ground.phase }, { on := 8, ground := Ground.phase }, { on := 9, ground := Ground.phase }], guard := none }) rfl (fun K hK => ?_) ?_
                    ·go_simp
                     refine hK.out _ _ ?_ (fun hHeld14 => ?_)
                     · (try dsimp only); (first | (go_keep; done) | (refine ⟨?_, ?_, ?_, ?_⟩ <;> (refine cell_same (w := w8) ?_ (by assumption); (repeat rw [heap_setCell_other _ _ _ _ (by simp; omega)]))))
                     clear hK K
                     try simp only [Act.put, List.setIfInBounds_toArray]
                     clear hHeld13
                     refine wpAnyH_done (by kernel_rfl) ?_ _
                     clear hHeld14
                     go_wp2_with fail
                     go_ret
                     have hne : ∀ g, Value.ownBlock (.slice a8 (r + 1 + 1) c8) = some g → g ≠ lb := fun g h9 => by
                       have h1 := (World.ownsRow.lt R8.out g (by rw [← h9])).1
                       have h2 := (below_on (below_on K3.out KB.out) K5.out).size
                       have h3 := lt_of_block HX.out
                       omega
                     refine ⟨by rw [HRES.out]; rfl, ?_, ?_⟩
                     · rw [HRES.out]
                       refine ⟨a8, c8, ?_, ?_, ?_⟩
                       · show _ = _
                         rw [HL2.out]
                         exact heap_setCell_same w8 lb 0 _ _ _ HX8.out
                       · show VRow _ _ _ _
                         rw [HL2.out]
                         exact own_of_block (own_mono R8.out (Nat.zero_le _)) fun g h9 => heap_setCell_other _ _ _ _ (hne g h9)
                       · intro g hg
                         have hg' : Value.ownBlock (.slice a8 (insM (insM (oth it V) jj (2, it)) kk (3, it)).length c8) = some g := hg
                         rw [HL2.out] at hg'
                         exact hne g hg'
                     · exact grw_set (below_grw (below_on (below_on K3.out KB.out) E9.out)) _ _
                    exact AllReadyH.nil
                   exact AllReadyH.nil
                  exact AllReadyH.nil
                 exact AllReadyH.nil
                exact AllReadyH.nil

        · have HR : Hid (pairM V ii jj kk = (V, false)) := by show _ = _; rw [HPM.out, if_neg (fun e => h31 e.2.2)]
          subst h21
          have z3 : ((n3 : Int) != 1) = true := by simp; omega
          have z1 : (((1 : Nat) : Int) != 1) = false := by decide
          clear hkd h31
          rcases hy with y2 | ⟨y2, y3⟩
          all_goals
            go_enter Try.func35, Try.ntmps35
            go_wp2_with (first | (go_at_call 55; refine (H35.out _ _ (below_on (below_on K3.out KB.out) K4.out)).mono ?_; rintro e w5 ⟨rfl, k5⟩; rw [HN3.out]; have K5 := hide (below_on K4.out k5); have q0 : w5.cell? ⟨w3.heap.size, 0, none⟩ = some (.int .i64 kd) := (HBX.out _ K5.out).1 0; have q1 : w5.cell? ⟨w3.heap.size, 1, none⟩ = some (.int .i64 it) := (HBX.out _ K5.out).1 1; have q2 : w5.cell? ⟨w3.heap.size + 1, 0, none⟩ = some (.int .i64 2) := (HBX.out _ K5.out).2.1 0; have q3 : w5.cell? ⟨w3.heap.size + 1, 1, none⟩ = some (.int .i64 it) := (HBX.out _ K5.out).2.1 1; have q4 : w5.cell? ⟨w3.heap.size + 1 + 1, 0, none⟩ = some (.int .i64 3) := (HBX.out _ K5.out).2.2 0; have q5 : w5.cell? ⟨w3.heap.size + 1 + 1, 1, none⟩ = some (.int .i64 it) := (HBX.out _ K5.out).2.2 1; have x5 : w5.cell? ⟨lb, 0, none⟩ = some (.slice (some ⟨b, off, none⟩) n c) := cell_of_row _ _ _ _ _ _ (((below_on (below_on K3.out KB.out) K5.out).block lb (lt_of_block HX.out)).trans HX.out); clear k5) | (go_at_call 55; obtain ⟨WB, hWB⟩ : ∃ WB, WB = ((w3.alloc (.cells #[.int .i64 kd, .int .i64 it] 58)).alloc (.cells #[.int .i64 2, .int .i64 it] 58)).alloc (.cells #[.int .i64 3, .int .i64 it] 58) := ⟨_, rfl⟩; rw [← hWB]; have HWS0 : Hid (WB.heap.size = w3.heap.size + 3) := (by show _ = _; rw [hWB]; simp); have KB : Hid (Below w3.heap.size w3 WB) := (by rw [hWB]; exact (((Below.refl _ _).alloc (Nat.le_refl _) _).alloc (by simp) _).alloc (by simp <;> omega) _); have HBX : Hid (∀ W2, Below WB.heap.size WB W2 → (∀ j, W2.cell? ⟨w3.heap.size, j, none⟩ = (#[.int .i64 kd, .int .i64 it] : Array Value)[j]?) ∧ (∀ j, W2.cell? ⟨w3.heap.size + 1, j, none⟩ = (#[.int .i64 2, .int .i64 it] : Array Value)[j]?) ∧ ∀ j, W2.cell? ⟨w3.heap.size + 1 + 1, j, none⟩ = (#[.int .i64 3, .int .i64 it] : Array Value)[j]?) := (fun W2 hf => box_three hWB hf); refine (H35.out _ _ (below_on K3.out KB.out)).mono ?_; rintro e w4 ⟨rfl, k4⟩; rw [HN2.out]; have K4 := hide k4; have p0 : w4.cell? ⟨w3.heap.size, 0, none⟩ = some (.int .i64 kd) := (HBX.out _ K4.out).1 0; have p1 : w4.cell? ⟨w3.heap.size, 1, none⟩ = some (.int .i64 it) := (HBX.out _ K4.out).1 1; have p2 : w4.cell? ⟨w3.heap.size + 1, 0, none⟩ = some (.int .i64 2) := (HBX.out _ K4.out).2.1 0; have p3 : w4.cell? ⟨w3.heap.size + 1, 1, none⟩ = some (.int .i64 it) := (HBX.out _ K4.out).2.1 1; have p4 : w4.cell? ⟨w3.heap.size + 1 + 1, 0, none⟩ = some (.int .i64 3) := (HBX.out _ K4.out).2.2 0; have p5 : w4.cell? ⟨w3.heap.size + 1 + 1, 1, none⟩ = some (.int .i64 it) := (HBX.out _ K4.out).2.2 1; clear hWB k4) | (go_at_call 53; refine (rise_any _ _ ((K2.out.block lb (lt_of_block HX.out)).trans HX.out)).mono ?_; rintro e w3 ⟨rfl, k3⟩; rw [HB2.out]; have K3 := hide (below_on K2.out k3); have XX := hide ((K3.out.block lb (lt_of_block HX.out)).trans HX.out); have x3 : w3.cell? ⟨lb, 0, none⟩ = some (.slice (some ⟨b, off, none⟩) n c) := cell_of_row _ _ _ _ _ _ XX.out; have l3 : lb < w3.heap.size := (lt_of_block XX.out); obtain ⟨v30, v31⟩ := HCV.out _ K3.out; clear k3 KK; have KK := K3) | (go_at_call 51; refine (within_any _ _ _).mono ?_; rintro e w2 ⟨rfl, k2⟩; rw [HB1.out]; have K2 := hide (below_on K1.out k2); clear k2 KK; have KK := K2) | (go_at_call 42; refine (kept_any HX.out).mono ?_; rintro e w1 ⟨rfl, k1⟩; have K1 := hide k1; have KK := K1; clear k1) | fail)
            go_ret
            exact chq_no HR.out HL.out (below_on (below_on K3.out KB.out) K5.out)
      · have HR : Hid (pairM V ii jj kk = (V, false)) := by show _ = _; rw [HPM.out, if_neg (fun e => h21 e.2.1)]
        have z2 : ((n2 : Int) != 1) = true := by simp; omega
        clear hkd h21
        rcases hy with y2 | ⟨y2, y3⟩
        all_goals
          go_enter Try.func35, Try.ntmps35
          go_wp2_with (first | (go_at_call 55; obtain ⟨WB, hWB⟩ : ∃ WB, WB = ((w3.alloc (.cells #[.int .i64 kd, .int .i64 it] 58)).alloc (.cells #[.int .i64 2, .int .i64 it] 58)).alloc (.cells #[.int .i64 3, .int .i64 it] 58) := ⟨_, rfl⟩; rw [← hWB]; have HWS0 : Hid (WB.heap.size = w3.heap.size + 3) := (by show _ = _; rw [hWB]; simp); have KB : Hid (Below w3.heap.size w3 WB) := (by rw [hWB]; exact (((Below.refl _ _).alloc (Nat.le_refl _) _).alloc (by simp) _).alloc (by simp <;> omega) _); have HBX : Hid (∀ W2, Below WB.heap.size WB W2 → (∀ j, W2.cell? ⟨w3.heap.size, j, none⟩ = (#[.int .i64 kd, .int .i64 it] : Array Value)[j]?) ∧ (∀ j, W2.cell? ⟨w3.heap.size + 1, j, none⟩ = (#[.int .i64 2, .int .i64 it] : Array Value)[j]?) ∧ ∀ j, W2.cell? ⟨w3.heap.size + 1 + 1, j, none⟩ = (#[.int .i64 3, .int .i64 it] : Array Value)[j]?) := (fun W2 hf => box_three hWB hf); refine (H35.out _ _ (below_on K3.out KB.out)).mono ?_; rintro e w4 ⟨rfl, k4⟩; rw [HN2.out]; have K4 := hide k4; have p0 : w4.cell? ⟨w3.heap.size, 0, none⟩ = some (.int .i64 kd) := (HBX.out _ K4.out).1 0; have p1 : w4.cell? ⟨w3.heap.size, 1, none⟩ = some (.int .i64 it) := (HBX.out _ K4.out).1 1; have p2 : w4.cell? ⟨w3.heap.size + 1, 0, none⟩ = some (.int .i64 2) := (HBX.out _ K4.out).2.1 0; have p3 : w4.cell? ⟨w3.heap.size + 1, 1, none⟩ = some (.int .i64 it) := (HBX.out _ K4.out).2.1 1; have p4 : w4.cell? ⟨w3.heap.size + 1 + 1, 0, none⟩ = some (.int .i64 3) := (HBX.out _ K4.out).2.2 0; have p5 : w4.cell? ⟨w3.heap.size + 1 + 1, 1, none⟩ = some (.int .i64 it) := (HBX.out _ K4.out).2.2 1; clear hWB k4) | (go_at_call 53; refine (rise_any _ _ ((K2.out.block lb (lt_of_block HX.out)).trans HX.out)).mono ?_; rintro e w3 ⟨rfl, k3⟩; rw [HB2.out]; have K3 := hide (below_on K2.out k3); have XX := hide ((K3.out.block lb (lt_of_block HX.out)).trans HX.out); have x3 : w3.cell? ⟨lb, 0, none⟩ = some (.slice (some ⟨b, off, none⟩) n c) := cell_of_row _ _ _ _ _ _ XX.out; have l3 : lb < w3.heap.size := (lt_of_block XX.out); obtain ⟨v30, v31⟩ := HCV.out _ K3.out; clear k3 KK; have KK := K3) | (go_at_call 51; refine (within_any _ _ _).mono ?_; rintro e w2 ⟨rfl, k2⟩; rw [HB1.out]; have K2 := hide (below_on K1.out k2); clear k2 KK; have KK := K2) | (go_at_call 42; refine (kept_any HX.out).mono ?_; rintro e w1 ⟨rfl, k1⟩; have K1 := hide k1; have KK := K1; clear k1) | fail)
          go_ret
          exact chq_no HR.out HL.out (below_on (below_on K3.out KB.out) K4.out)
    · have HR : Hid (pairM V ii jj kk = (V, false)) := by show _ = _; rw [HPM.out, if_neg (fun e => hkd e.1)]
      have y2 : (kd == 2) = false := by simp; exact fun e => hkd (.inl e)
      have y3 : (kd == 3) = false := by simp; exact fun e => hkd (.inr e)
      clear hkd
      go_enter Try.func35, Try.ntmps35
      go_wp2_with (first | (go_at_call 53; refine (rise_any _ _ ((K2.out.block lb (lt_of_block HX.out)).trans HX.out)).mono ?_; rintro e w3 ⟨rfl, k3⟩; rw [HB2.out]; have K3 := hide (below_on K2.out k3); have XX := hide ((K3.out.block lb (lt_of_block HX.out)).trans HX.out); have x3 : w3.cell? ⟨lb, 0, none⟩ = some (.slice (some ⟨b, off, none⟩) n c) := cell_of_row _ _ _ _ _ _ XX.out; have l3 : lb < w3.heap.size := (lt_of_block XX.out); obtain ⟨v30, v31⟩ := HCV.out _ K3.out; clear k3 KK; have KK := K3) | (go_at_call 51; refine (within_any _ _ _).mono ?_; rintro e w2 ⟨rfl, k2⟩; rw [HB1.out]; have K2 := hide (below_on K1.out k2); clear k2 KK; have KK := K2) | (go_at_call 42; refine (kept_any HX.out).mono ?_; rintro e w1 ⟨rfl, k1⟩; have K1 := hide k1; have KK := K1; clear k1) | fail)
      go_ret
      exact chq_no HR.out HL.out (below_on K3.out ((((Below.refl _ _).alloc (Nat.le_refl _) _).alloc (by simp) _).alloc (by simp <;> omega) _))
end Go.Proofs.Ytdnkmjafkpnliaa
