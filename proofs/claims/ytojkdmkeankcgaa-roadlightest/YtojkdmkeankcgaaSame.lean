/-
  What the call of the statements' Same does: a graph and the table of its edges.
-/
import Derived.Test.YtojkdmkeankcgaaTable
import Derived.Test.YtojkdmkeankcgaaOuts
namespace Go.Proofs.Ytojkdmkeankcgaa
open Go.RowKit Go.Sort

/-- So many of the first k places are led to from p. -/
def cntRow (W : Nat → Nat → Option Int) (p : Nat) : Nat → Nat
  | 0 => 0
  | k + 1 => cntRow W p k + (if (W p k).isSome then 1 else 0)
theorem cntRow_len (W : Nat → Nat → Option Int) (p : Nat) : ∀ n, (rowM n W p).length = cntRow W p n
  | 0 => rfl
  | n + 1 => by
    have := cntRow_len W p n
    unfold rowM at this ⊢
    rw [List.range_succ, List.filterMap_append, List.length_append, this, cntRow]
    congr 1
    cases h : W p n <;> simp [h]
theorem cntRow_le (W : Nat → Nat → Option Int) (p : Nat) : ∀ n, cntRow W p n ≤ n
  | 0 => Nat.le_refl _
  | n + 1 => by have := cntRow_le W p n; rw [cntRow]; split <;> omega
theorem cntRow_mono (W : Nat → Nat → Option Int) (p : Nat) : ∀ n k, k ≤ n → cntRow W p k ≤ cntRow W p n
  | 0, k, h => by have : k = 0 := by omega
                  subst this; exact Nat.le_refl _
  | n + 1, k, h => by
    by_cases e : k = n + 1
    · subst e; exact Nat.le_refl _
    · have := cntRow_mono W p n k (by omega); rw [cntRow]; omega
/-- Where the edge ahead leads. -/
def lastM (R : List (Int × Int)) : Nat → Int
  | 0 => -1
  | k + 1 => (R[k]!).1
theorem row_at {n p k : Nat} {W : Nat → Nat → Option Int} (hk : k < (rowM n W p).length) : ∃ q v, q < n ∧ W p q = some v ∧ (rowM n W p)[k]! = ((q : Int), v) ∧ lastM (rowM n W p) k < (q : Int) := by
  have hm : (rowM n W p)[k]! ∈ rowM n W p := by rw [getElem!_pos _ k hk]; exact List.getElem_mem _
  obtain ⟨q, v, h1, h2, h3⟩ := mem_rowM.1 hm
  refine ⟨q, v, h1, h2, h3, ?_⟩
  cases k with
  | zero => show (-1 : Int) < q; omega
  | succ k =>
    have := List.pairwise_iff_getElem.1 (rowM_rising n p W) k (k + 1) (by omega) hk (by omega)
    rw [getElem!_pos _ (k + 1) hk] at h3
    show ((rowM n W p)[k]!).1 < _
    rw [getElem!_pos _ k (by omega)]
    rw [h3] at this
    exact this
/-- t's box and its cells, while Same runs, and the graph. -/
structure SmIn (B : Nat) (w : World) (n : Nat) (tv : Value) (tg : Nat) (xs : List Int) (g : Nat) (W : Nat → Nat → Option Int) (wr : World) : Prop where
  below : Below B w wr
  b0 : wr.heap[B]? = some (.cells #[.int .i64 n, tv] 39 (0, 0))
  tab : ∀ k, k < xs.length → wr.cell? ⟨tg, k, none⟩ = some (.int .i64 xs[k]!)
  gr : GAt wr g n W
section
variable {B n tg g : Nat} {w wr w' : World} {tv : Value} {xs : List Int} {W : Nat → Nat → Option Int}
theorem SmIn.lt (h : SmIn B w n tv tg xs g W wr) : B < wr.heap.size := by
  rcases Nat.lt_or_ge B wr.heap.size with h' | h'
  · exact h'
  · have := h.b0; rw [Array.getElem?_eq_none h'] at this; cases this
theorem SmIn.later (h : SmIn B w n tv tg xs g W wr) (f : Below wr.heap.size wr w') : SmIn B w n tv tg xs g W w' :=
  ⟨h.below.trans (f.mono (Nat.le_of_lt h.lt)), (f.block B h.lt).trans h.b0, fun k hk => (f.cell (p := ⟨tg, k, none⟩) (block_lt_of_cell (h.tab k hk))).trans (h.tab k hk), h.gr.later f⟩
theorem SmIn.drewN (h : SmIn B w n tv tg xs g W wr) (q : Nat) : SmIn B w n tv tg xs g W (wr.drewN q) := h.later (Qu.below_drewN (Below.refl _ _) q)
theorem SmIn.drew (h : SmIn B w n tv tg xs g W wr) : SmIn B w n tv tg xs g W wr.drew := h.later (Below.refl _ _).drew
theorem SmIn.alloc (h : SmIn B w n tv tg xs g W wr) (o : Obj) : SmIn B w n tv tg xs g W (wr.alloc o) := h.later ((Below.refl _ _).alloc (Nat.le_refl _) o)
end
set_option maxRecDepth 100000 in
set_option maxHeartbeats 6400000 in
theorem sameG_any {w : World} {g n : Nat} {W : Nat → Nat → Option Int} {v : Value} {base : Nat} (h : GAt w g n W) (hn : 1 ≤ n ∧ n ≤ 32) (hW : ∀ p q x, p < n → q < n → W p q = some x → 0 ≤ x) (ht : IRow w base v (cellsM n W)) :
    Calls Try.prog 12 #[.pointer (some ⟨g, 0, none⟩), .agg #[.int .i64 n, v]] w fun e w' => e = .returned (.bool true) ∧ Below w.heap.size w w' := by
  have hnn : 0 < n * n := Nat.mul_pos (by omega) (by omega)
  obtain ⟨tg, tc, rfl, _, htg, _, _⟩ := ht.form (by rw [cellsM_len]; exact hnn)
  rw [cellsM_len] at ht ⊢
  obtain ⟨Q, hQ⟩ : ∃ Q, n * n = Q := ⟨_, rfl⟩
  have hQb : Q ≤ 1024 := by rw [← hQ]; exact (mul_wrap hn.2 hn.2).2
  have HL2 : Hid ((cellsM n W).length = Q) := (cellsM_len n W).trans hQ
  have HQ := hide hQ
  rw [hQ] at ht ⊢
  have HW := hide hW
  have HN := hide hn
  obtain ⟨B, hB⟩ : ∃ B, w.heap.size = B := ⟨_, rfl⟩
  have HB := hide hB
  have HS : Hid (SmIn B w n (.slice (some ⟨tg, 0, none⟩) Q tc) tg (cellsM n W) g W (w.alloc (.cells #[.int .i64 n, .slice (some ⟨tg, 0, none⟩) Q tc] 39))) := by
    refine ⟨by rw [← hB]; exact (Below.refl _ _).alloc (Nat.le_refl _) _, by rw [← hB]; exact heap_alloc_new _ _, fun k hk => ?_, h.later ((Below.refl _ _).alloc (Nat.le_refl _) _)⟩
    rw [World.cell?_alloc_lt _ _ _ htg]
    exact ht.cell k hk
  have HP : Hid (∀ q, Calls Try.prog 26 #[.pointer (some ⟨g, 0, none⟩)] ((w.alloc (.cells #[.int .i64 n, .slice (some ⟨tg, 0, none⟩) Q tc] 39)).drewN q) fun e w' => e = .returned (.int .i64 n) ∧ w' = (w.alloc (.cells #[.int .i64 n, .slice (some ⟨tg, 0, none⟩) Q tc] 39)).drewN q) := fun q => places_any (HS.out.drewN q).gr
  have hb0 := HS.out.b0
  have s0 := cell_of_row _ B 0 _ _ _ hb0
  simp only [List.getElem?_toArray, List.getElem?_cons_zero] at s0
  rw [hB]
  have hqz : ((n : Int) != (n : Int)) = false := by simp
  clear h ht hB hb0 htg hW hQ hnn
  go_enter Try.func12, Try.ntmps12
  go_wp2
  go_quiet ((go_at_call 26; exact Calls.quiet_of_same (HP.out _)))
  go_wp2
  clear HP s0
  try rw [HB.out]
  replace HS := hide (HS.out.drewN nq)
  generalize (w.alloc (.cells #[.int .i64 n, .slice (some ⟨tg, 0, none⟩) Q tc] 39)).drewN nq = W0 at HS ⊢
  go_loopw [5, 6] (fun vc vi wr => ∃ p : Nat, vi = .int .i64 p ∧ p ≤ n ∧ vc = .int .i64 0 ∧ Hid (SmIn B w n (.slice (some ⟨tg, 0, none⟩) Q tc) tg (cellsM n W) g W wr)) (fun _ vi _ => n - (intOf vi).toNat)
  case atStart => exact ⟨0, rfl, Nat.zero_le _, rfl, HS.out⟩
  case round =>
    clear HS
    obtain ⟨p, rfl, hp, rfl, HR⟩ := hrel
    have hb0 := HR.out.b0
    have s0 := cell_of_row _ B 0 _ _ _ hb0
    simp only [List.getElem?_toArray, List.getElem?_cons_zero] at s0
    clear hb0
    by_cases hlt : p < n
    · have i1 : (p : Int) < (n : Int) := by omega
      have HO := hide (out_any HR.out.gr HN.out p)
      have hz : rowZ n W p = rowM n W p := by unfold rowZ; rw [if_pos (by omega)]; rfl
      rw [hz] at HO
      have hrl := rowM_len n W p
      have HRL := hide (cntRow_len W p n)
      obtain ⟨hmul, hmb⟩ := mul_wrap (show p ≤ 32 by omega) hn.2
      obtain ⟨P, hP⟩ : ∃ P, p * n = P := ⟨_, rfl⟩
      have HP := hide hP
      rw [hP] at hmul hmb
      clear hP
      go_wp2_with (go_at_call 27; refine HO.out.mono ?_; rintro e w2 ⟨v2, rfl, h2, h3⟩; obtain ⟨ra, rc, rfl⟩ : ∃ a c, v2 = .slice a (rowM n W p).length c := (by rcases h2.2 with ⟨e, e2⟩ | ⟨g, cap, cur, e, _⟩; exact ⟨none, 0, by rw [e, e2]⟩; exact ⟨_, cap, e⟩); have H2 := hide (And.intro h2 (HR.out.later h3)); clear h2 h3)
      clear HO HR s0
      go_loopw [5, 7, 26] (fun vc vl vi wr => ∃ k : Nat, vi = .int .i64 k ∧ k ≤ (rowM n W p).length ∧ vc = .int .i64 k ∧ vl = .int .i64 (lastM (rowM n W p) k) ∧ Hid (SmIn B w n (.slice (some ⟨tg, 0, none⟩) Q tc) tg (cellsM n W) g W wr ∧ Below w2.heap.size w2 wr)) (fun _ _ vi _ => (rowM n W p).length - (intOf vi).toNat)
      case atStart => exact ⟨0, rfl, Nat.zero_le _, rfl, rfl, H2.out.2, Below.refl _ _⟩
      case round =>
        obtain ⟨k, rfl, hk, rfl, rfl, HR⟩ := hrel
        have hb0 := HR.out.1.b0
        have s0 := cell_of_row _ B 0 _ _ _ hb0
        have s1 := cell_of_row _ B 1 _ _ _ hb0
        simp only [List.getElem?_toArray, List.getElem?_cons_succ, List.getElem?_cons_zero] at s0 s1
        clear hb0
        by_cases hlt2 : k < (rowM n W p).length
        · rcases H2.out.1.2 with ⟨_, e2⟩ | ⟨gb, cap0, cur0, e0, _⟩
          · omega
          · cases e0
            have H1 := H2.out.1
            have hgb := (H1.lt gb rfl).2
            have c0 : w2.cell? ⟨gb, k * 2, none⟩ = some (.int .i64 ((rowM n W p)[k]!).1) := by
              have := flatE_get (rowM n W p) k hlt2
              rw [H1.cellAt _ (by omega)]; exact this.1
            have c1 : w2.cell? ⟨gb, k * 2 + 1, none⟩ = some (.int .i64 ((rowM n W p)[k]!).2) := by
              have := flatE_get (rowM n W p) k hlt2
              rw [H1.cellAt _ (by omega)]; exact this.2
            have d0 := (HR.out.2.cell (p := ⟨gb, k * 2, none⟩) hgb).trans c0
            have d1 := (HR.out.2.cell (p := ⟨gb, k * 2 + 1, none⟩) hgb).trans c1
            obtain ⟨q, x, hq, hx, hrow, hlast⟩ := row_at hlt2
            have HX : Hid (lastM (rowM n W p) (k + 1) = (q : Int)) := by show ((rowM n W p)[k]!).1 = _; rw [hrow]
            rw [hrow] at d0 d1
            simp only at d0 d1
            have hx0 := HW.out p q x hlt hq hx
            have hcl := cell_lt hlt hq
            have t0 := HR.out.1.tab (p * n + q) (by rw [HL2.out, ← HQ.out]; exact hcl)
            rw [cellsM_at W hlt hq, hx, HP.out] at t0
            rw [HP.out, HQ.out] at hcl
            simp only [Option.getD_some] at t0
            have i2 : (k : Int) < ((rowM n W p).length : Int) := by omega
            have hne : (x != x) = false := by simp
            generalize lastM (rowM n W p) k = l at hlast ⊢
            have s0a : (wr.alloc (.cells #[.int .i64 q, .int .i64 x] 71)).cell? ⟨B, 0, none⟩ = some (.int .i64 n) := by rw [World.cell?_alloc_lt _ _ _ (by show B < _; exact HR.out.1.lt)]; exact s0
            have s1a : (wr.alloc (.cells #[.int .i64 q, .int .i64 x] 71)).cell? ⟨B, 1, none⟩ = some (.slice (some ⟨tg, 0, none⟩) Q tc) := by rw [World.cell?_alloc_lt _ _ _ (by show B < _; exact HR.out.1.lt)]; exact s1
            have t0a : (wr.alloc (.cells #[.int .i64 q, .int .i64 x] 71)).cell? ⟨tg, P + q, none⟩ = some (.int .i64 x) := by rw [World.cell?_alloc_lt _ _ _ (by show tg < _; exact block_lt_of_cell t0)]; exact t0
            have HE : Hid (SmIn B w n (.slice (some ⟨tg, 0, none⟩) Q tc) tg (cellsM n W) g W (wr.alloc (.cells #[.int .i64 q, .int .i64 x] 71)) ∧ Below w2.heap.size w2 (wr.alloc (.cells #[.int .i64 q, .int .i64 x] 71))) := ⟨HR.out.1.alloc _, HR.out.2.alloc HR.out.2.size _⟩
            have g1 : decide ((q : Int) ≤ l) = false := decide_eq_false (by omega)
            have g2 : decide ((n : Int) ≤ (q : Int)) = false := decide_eq_false (by omega)
            have g3 : decide (n ≤ q) = false := decide_eq_false (by omega)
            have g4 : decide (x < 0) = false := decide_eq_false (by omega)
            have i4 : (P : Int) + (q : Int) < (Q : Int) := by omega
            clear c0 c1 H1 hrow hx
            go_wp2
            go_quiet (fail)
            go_wp2
            go_roundw
            case rel => exact ⟨k + 1, by go_num, by omega, by go_num, by rw [HX.out], HE.out.1.drewN nq, Qu.below_drewN HE.out.2 nq⟩
            case measure => simp [intOf]; omega
        · have hkr : k = (rowM n W p).length := by omega
          subst hkr
          have HRR := hide HR.out.1
          clear HR H2 s0 s1
          go_wp2
          go_loopw [5, 10] (fun vc vi wr => ∃ q : Nat, vi = .int .i64 q ∧ q ≤ n ∧ vc = .int .i64 (((rowM n W p).length : Int) - (cntRow W p q : Int)) ∧ Hid (SmIn B w n (.slice (some ⟨tg, 0, none⟩) Q tc) tg (cellsM n W) g W wr)) (fun _ vi _ => n - (intOf vi).toNat)
          case atStart => exact ⟨0, rfl, Nat.zero_le _, by show _ = Value.int .i64 (((rowM n W p).length : Int) - 0); simp, HRR.out⟩
          case round =>
            clear HRR
            obtain ⟨q, rfl, hq, rfl, HR⟩ := hrel
            have hb0 := HR.out.b0
            have s0 := cell_of_row _ B 0 _ _ _ hb0
            simp only [List.getElem?_toArray, List.getElem?_cons_zero] at s0
            clear hb0
            have b1 := cntRow_le W p q
            have b2 := cntRow_mono W p n q hq
            rw [← HRL.out] at b2
            by_cases hqn : q < n
            · have i2 : (q : Int) < (n : Int) := by omega
              have HWT := hide (fun (w' : World) (h' : SmIn B w n (.slice (some ⟨tg, 0, none⟩) Q tc) tg (cellsM n W) g W w') => weight_any h'.gr HN.out p q)
              have hwt : wt n W p q = (cellsM n W)[P + q]! := by
                rw [← HP.out, cellsM_at W hlt hqn]
                unfold wt
                rw [if_pos (by omega)]
                rfl
              rw [hwt] at HWT
              have hcl := cell_lt hlt hqn
              rw [HP.out, HQ.out] at hcl
              have HCV := hide (cellsM_at W hlt hqn)
              rw [HP.out] at HCV
              have HCT : Hid (cntRow W p (q + 1) = cntRow W p q + (if (W p q).isSome then 1 else 0)) := rfl
              have HWW := hide (fun x => HW.out p q x hlt hqn)
              have HLL : Hid (P + q < (cellsM n W).length) := by show _ < _; rw [HL2.out]; exact hcl
              have i3 : (P : Int) + (q : Int) < (Q : Int) := by omega
              have i8 : IntKind.i64.wrap ((P : Int) + (q : Int)) = ((P + q : Nat) : Int) := by rw [IntKind.wrap_i64]; omega
              have i9 : ((P + q : Nat) : Int) < (Q : Int) := by omega
              have hne : ((cellsM n W)[P + q]! != (cellsM n W)[P + q]!) = false := by simp
              generalize hz : (cellsM n W)[P + q]! = z at HWT HCV hne
              have HZ := hide hz
              have HRR := hide HR.out
              have HTB : Hid (∀ w', SmIn B w n (.slice (some ⟨tg, 0, none⟩) Q tc) tg (cellsM n W) g W w' → w'.cell? ⟨tg, P + q, none⟩ = some (.int .i64 z) ∧ w'.cell? ⟨B, 0, none⟩ = some (.int .i64 n) ∧ w'.cell? ⟨B, 1, none⟩ = some (.slice (some ⟨tg, 0, none⟩) Q tc)) := fun w' h' => by
                refine ⟨by rw [← HZ.out]; exact h'.tab _ HLL.out, ?_, ?_⟩
                · rw [cell_of_row _ B 0 _ _ _ h'.b0]; rfl
                · rw [cell_of_row _ B 1 _ _ _ h'.b0]; rfl
              clear HR hz
              by_cases h0 : 0 ≤ z
              · have HCQ : Hid (cntRow W p (q + 1) = cntRow W p q + 1) := by
                  show _ = _
                  rw [HCT.out]
                  cases e : W p q with
                  | none => have := HCV.out; rw [e] at this; simp at this; omega
                  | some x => rfl
                have b3 := cntRow_mono W p n (q + 1) hqn
                rw [← HRL.out] at b3
                rw [HCQ.out] at b3
                clear HCT HCV HWW
                generalize cntRow W p q = C0 at HCQ b1 b2 b3 ⊢
                generalize (rowM n W p).length = RL at *
                go_wp2
                obtain ⟨t0, s00, s1⟩ := HTB.out _ HRR.out
                (go_region_held (fun w' => w'.cell? ⟨tg, P + q, none⟩ = some (.int .i64 z) ∧ w'.cell? ⟨B, 0, none⟩ = some (.int .i64 n) ∧ w'.cell? ⟨B, 1, none⟩ = some (.slice (some ⟨tg, 0, none⟩) Q tc)) (go_keep) (first | (go_at_call 14; refine (HWT.out _ HRR.out.drew).mono ?_; rintro e w3 ⟨rfl, h3⟩; have H3 := hide (HRR.out.drew.later h3); clear h3; obtain ⟨t3, s3, s4⟩ := HTB.out _ H3.out)))
                all_goals
                  go_wp2
                  go_roundw
                  case rel => exact ⟨q + 1, by go_num, by omega, by rw [HCQ.out]; congr 1; omega, H3.out⟩
                  case measure => simp [intOf]; omega
              · have HCQ : Hid (cntRow W p (q + 1) = cntRow W p q) := by
                  show _ = _
                  rw [HCT.out]
                  cases e : W p q with
                  | none => rfl
                  | some x => have h1 := HCV.out; rw [e] at h1; simp at h1; have := HWW.out x e; omega
                clear HCT HCV HWW
                generalize cntRow W p q = C0 at HCQ b1 b2 ⊢
                generalize (rowM n W p).length = RL at *
                go_wp2
                obtain ⟨t0, s00, s1⟩ := HTB.out _ HRR.out
                (go_region_held (fun w' => w'.cell? ⟨tg, P + q, none⟩ = some (.int .i64 z) ∧ w'.cell? ⟨B, 0, none⟩ = some (.int .i64 n) ∧ w'.cell? ⟨B, 1, none⟩ = some (.slice (some ⟨tg, 0, none⟩) Q tc)) (go_keep) (first | (go_at_call 14; refine (HWT.out _ HRR.out.drew).mono ?_; rintro e w3 ⟨rfl, h3⟩; have H3 := hide (HRR.out.drew.later h3); clear h3; obtain ⟨t3, s3, s4⟩ := HTB.out _ H3.out)))
                all_goals
                  go_wp2
                  go_roundw
                  case rel => exact ⟨q + 1, by go_num, by omega, by rw [HCQ.out], H3.out⟩
                  case measure => simp [intOf]; omega
            · have hqe : q = n := by omega
              subst hqe
              have HZ : Hid (((rowM q W p).length : Int) - (cntRow W p q : Int) = 0) := by show _ = _; rw [HRL.out]; omega
              go_wp2
              go_roundw
              case rel => exact ⟨p + 1, by go_num, by omega, by rw [HZ.out], HR.out⟩
              case measure => simp [intOf]; omega
    · go_wp2
      go_ret
      exact ⟨rfl, HR.out.below⟩
end Go.Proofs.Ytojkdmkeankcgaa
