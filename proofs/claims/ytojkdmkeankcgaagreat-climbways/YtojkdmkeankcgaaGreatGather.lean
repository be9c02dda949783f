/-
  What the call of gather does: the graph of the legs, of several with the same ends the lightest.
-/
import Derived.Test.YtojkdmkeankcgaaGreatGraph
namespace Go.Proofs.YtojkdmkeankcgaaGreat
open Go.RowKit Go.Sort Go.Lib Go.Shelf
attribute [local go_sem ↓] Go.wp_at_zero Go.wp_at_succ

theorem info53 : (Tryz.prog.info? 75).map (fun i => (i.zero, i.size, i.bytes)) = some (some (.agg #[.int .i64 0, .int .i64 0]), 2, 16) := by kernel_rfl
theorem comp_mem (L : List Leg) (x : Leg) (h : x ∈ comp (sortL L).toArray (sortL L).length) : x ∈ L := by
  have hc := comp_is (sortL L).toArray (fun i j => sortL_rise L i j) (sortL L).length (by simp)
  obtain ⟨j, hj, e, _⟩ := hc.mem x h
  rw [e, getElem!_pos _ j (by simpa using hj), ← sortL_mem]
  simp
theorem info43 : (Tryz.prog.info? 73).map (fun i => (i.zero, i.size, i.bytes)) = some (some (.slice none 0 0), 1, 24) := by kernel_rfl
theorem made_rows (n : Nat) (hn : n ≤ 32) (w : World) : (Instr.makeSlice 71 (.int .i64 n) (.int .i64 n)).run Tryz.prog w = .ok (.slice (some ⟨w.heap.size, 0, none⟩) n n) (w.alloc (.cells (List.replicate n (.slice none 0 0)).toArray 73)) := by
  obtain ⟨i0, hi0, hz0, hz1, hz2⟩ := info_parts info43
  have := run_makeSlice (P := Tryz.prog) w 71 73 i0 _ Tryz.underlying71 hi0 hz0 .i64 .i64 n n (by omega) (by omega) (by rw [hz1]; omega) (by rw [hz2]; omega) (by omega)
  rw [hz1] at this
  simp only [Int.toNat_natCast, Nat.mul_one] at this
  have e : madeCells (Value.slice none 0 0).cells n = (List.replicate n (Value.slice none 0 0)).toArray := by
    apply Array.ext
    · simp [madeCells]
    · intro i h1 h2
      simp [madeCells, Value.cells, Nat.mod_one]
  rw [e] at this
  exact this
theorem own_mono {base e size m : Nat} {v : Value} {xs : List Value} {w : World} (h : w.ownsRow base e size v m xs) : w.ownsRow 0 e size v m xs := by
  obtain ⟨h1, h2⟩ := h
  refine ⟨h1, ?_⟩
  rcases h2 with h2 | ⟨g, cap, cur, rfl, a, r⟩
  · exact .inl h2
  · exact .inr ⟨g, cap, cur, rfl, Nat.zero_le _, r⟩
theorem outs_start (O n : Nat) (w : World) (h : w.heap[O]? = some (.cells (List.replicate n (.slice none 0 0)).toArray 73 (0, 0))) : Outs O O n w (fun p => bucket p []) (List.replicate n (.slice none 0 0)) := by
  have hg : ∀ p, p < n → (List.replicate n (Value.slice none 0 0)).getD p undef = .slice none 0 0 := fun p hp => by simp [List.getD_eq_getElem?_getD, hp]
  refine ⟨by simp, h, fun p hp => by rw [hg p hp]; exact World.ownsRow_nil _ _ _ _, fun p q g hp _ _ e => by rw [hg p hp] at e; cases e⟩
theorem outs_len {O n : Nat} {w : World} {R : Nat → List (Int × Int)} {vs : List Value} (h : Outs O O n w R vs) (p : Nat) (hp : p < n) : ∃ a c, vs.getD p undef = .slice a (R p).length c := by
  rcases (h.row p hp).2 with ⟨e, e2⟩ | ⟨g, cap, cur, e, _⟩
  · exact ⟨none, 0, by rw [e, e2]⟩
  · exact ⟨_, cap, e⟩
theorem bucket_le (p : Nat) (C : List Leg) (c : Nat) : (bucket p (C.take c)).length ≤ c := by
  unfold bucket
  rw [List.length_map]
  exact Nat.le_trans (List.length_filter_le _ _) (by rw [List.length_take]; omega)
/-- The round's end: behind the append and the store. -/
theorem gather_step {O n : Nat} {w2 wr W1 w3 : World} {C : List Leg} {c p g cap : Nat} {vs : List Value} (l2 l3 : Int) (hc : c < C.length) (hl : C[c]! = ((p : Int), l2, l3)) (hp : p < n) (h : Outs O O n wr (fun p => bucket p (C.take c)) vs) (hb : Below O w2 wr) (hf : Below wr.heap.size wr W1) (hO : O ≤ wr.heap.size)
    (o : Obj) (hown : w3.ownsRow O 75 2 (.slice (some ⟨g, 0, none⟩) ((bucket p (C.take c)).length + 1) cap) ((bucket p (C.take c)).length + 1) (flatE (bucket p (C.take c)) ++ [.int .i64 l2, .int .i64 l3]))
    (hg : (W1.alloc o).drew.grownBy w3 (vs.getD p undef).ownBlock) (hat : (vs.getD p undef).ownBlock = some g ∨ g = W1.heap.size + 1) :
    ∃ vs', Outs O O n (w3.setCell ⟨O, p, none⟩ (.slice (some ⟨g, 0, none⟩) ((bucket p (C.take c)).length + 1) cap)) (fun p => bucket p (C.take (c + 1))) vs' ∧ Below O w2 (w3.setCell ⟨O, p, none⟩ (.slice (some ⟨g, 0, none⟩) ((bucket p (C.take c)).length + 1) cap)) := by
  have hm := h.more p hp (l2, l3) o hf hown hg hat (fun p => bucket p (C.take (c + 1))) (by rw [bucket_snoc p C c hc, hl]; simp) (fun q hq => by rw [bucket_snoc q C c hc, hl, if_neg (by simp; omega)])
  have hs : (w3.setCell ⟨O, p, none⟩ (.slice (some ⟨g, 0, none⟩) ((bucket p (C.take c)).length + 1) cap)).heap.size = w3.heap.size := by simp [World.setCell]
  have hs2 := hg.size
  have hs3 : (W1.alloc o).drew.heap.size = W1.heap.size + 1 := by show (W1.alloc o).heap.size = _; simp
  refine ⟨_, hm.1, hb.trans ⟨?_, ?_, ?_, by rw [hs]; have := hf.size; omega, fun k hk => hm.2 k (by omega) (by omega) (fun e => by have := (h.row p hp).lt k e; omega)⟩⟩
  · exact hg.os.trans hf.os
  · exact hg.tape.trans hf.tape
  · exact hg.output.trans hf.output
set_option maxRecDepth 100000 in
set_option maxHeartbeats 3200000 in
theorem gather_any (B n : Nat) (hn : 1 ≤ n ∧ n ≤ 32) (L : List Leg) (hL : ∀ l ∈ L, 0 ≤ l.1 ∧ l.1 < n ∧ 0 ≤ l.2.1 ∧ l.2.1 < n) (hl : L.length ≤ 300) (v : Value) (w : World) (h : w.ownsRow B 102 3 v L.length (L.flatMap encL)) (hB : B ≤ w.heap.size) :
    Calls Tryz.prog 53 #[.int .i64 n, v] w fun e w' => ∃ g, e = .returned (.pointer (some ⟨g, 0, none⟩)) ∧ GAt w' g n (tab L) ∧ Below B w w' ∧ B ≤ g := by
  obtain ⟨va, vn, vc, rfl⟩ : ∃ a m c, v = .slice a m c := by
    rcases h.2 with ⟨rfl, _⟩ | ⟨g, cap, cur, rfl, _⟩
    · exact ⟨_, _, _, rfl⟩
    · exact ⟨_, _, _, rfl⟩
  have HS := hide (sort_own B w _ L h hl)
  have hmk := made_rows n hn.2
  have hn1 : (0 : Int) < (n : Int) := by omega
  have hn2 : (n : Int) ≤ 32 := by omega
  have HB := hide (bucket_eq n L hL)
  have HM : Hid (∀ i, i < (comp (sortL L).toArray (sortL L).length).length → ∃ (p : Nat) (l2 l3 : Int), p < n ∧ (comp (sortL L).toArray (sortL L).length)[i]! = ((p : Int), l2, l3)) := by
    intro i hi
    have hm := comp_mem L _ (by rw [getElem!_pos _ i hi]; exact List.getElem_mem hi : (comp (sortL L).toArray (sortL L).length)[i]! ∈ _)
    generalize (comp (sortL L).toArray (sortL L).length)[i]! = x at hm ⊢
    obtain ⟨x1, x2, x3⟩ := x
    have := hL _ hm
    simp only at this
    exact ⟨x1.toNat, x2, x3, by omega, by rw [show ((x1.toNat : Nat) : Int) = x1 by omega]⟩
  rw [← sortL_len] at HB
  have hCl : (comp (sortL L).toArray (sortL L).length).length ≤ 300 := by have := comp_len (sortL L).toArray (sortL L).length; rw [sortL_len] at this ⊢; omega
  have HSL := hide (sortL_len L)
  clear h hL
  obtain ⟨i0, hi0, hz0, hz1, hz2⟩ := info_parts info53
  go_enter Tryz.func53, Tryz.ntmps53
  go_wp2_with (first | (go_at_call 76; refine HS.out.mono ?_; rintro e w1 ⟨rfl, h1⟩; have HC := hide (compact_own B w w1 _ _ h1 (by rw [HSL.out]; exact hl) hB (.cells (List.replicate n (.slice none 0 0)).toArray 73)); clear h1) | (go_at_call 78; refine HC.out.mono ?_; rintro e w2 ⟨a2, cap2, rfl, hc1, hc2, hc3, hc4, hc5⟩; have H2 := hide (And.intro hc1 (And.intro hc2 (And.intro hc3 (And.intro hc4 hc5)))); clear hc1 hc2 hc3 hc4 hc5))
  obtain ⟨O, hO⟩ : ∃ O, w1.heap.size = O := ⟨_, rfl⟩
  rw [hO] at H2 ⊢
  generalize comp (sortL L).toArray (sortL L).length = C at H2 HB HM hCl ⊢
  clear HC HS hmk
  go_loopw [15] (fun vi wr => ∃ (c : Nat) (vs : List Value), vi = .int .i64 c ∧ c ≤ C.length ∧ Hid (Outs O O n wr (fun p => bucket p (C.take c)) vs ∧ Below O w2 wr)) (fun vi _ => C.length - (intOf vi).toNat)
  case atStart => exact ⟨0, _, rfl, Nat.zero_le _, outs_start O n w2 H2.out.2.2.1, Below.refl _ _⟩
  case round =>
    obtain ⟨c, vs, rfl, hc, HR⟩ := hrel
    have hOr : O < wr.heap.size := Nat.lt_of_lt_of_le H2.out.2.2.2.1 HR.out.2.size
    by_cases hlt : c < C.length
    · obtain ⟨b, hb, rfl, d0, d1, d2⟩ := (H2.out.1.later HR.out.2) c hlt
      obtain ⟨p, l2, l3, hp, hx⟩ := HM.out c hlt
      rw [hx] at d0 d1 d2
      simp only at d0 d1 d2
      obtain ⟨pa, pc, hv⟩ := outs_len HR.out.1 p hp
      have HV := hide hv
      have cO : wr.cell? ⟨O, p, none⟩ = some (.slice pa (bucket p (C.take c)).length pc) := by
        rw [cell_of_row wr O p _ _ _ HR.out.1.blk, ← hv]
        simp [List.getD_eq_getElem?_getD, HR.out.1.len, hp]
      have fO : wr.frozen? ⟨O, p, none⟩ = false := frozen_of_row wr O p _ _ HR.out.1.blk
      have hbl : (bucket p (C.take c)).length ≤ 300 := by have := bucket_le p C c; omega
      have HX := hide hx
      have HF : Hid (Below wr.heap.size wr (wr.alloc (.cells #[.int .i64 p, .int .i64 l2, .int .i64 l3] 102))) := (Below.refl _ _).alloc (Nat.le_refl _) _
      clear hx hv
      have i1 : (c : Int) < (C.length : Int) := by omega
      have i2 : (p : Int) < (n : Int) := by omega
      go_wp2
      have hsz : (wr.alloc (.cells #[.int .i64 p, .int .i64 l2, .int .i64 l3] 102)).heap.size = wr.heap.size + 1 := by simp
      have hnew := heap_alloc_new wr (.cells #[.int .i64 p, .int .i64 l2, .int .i64 l3] 102)
      have hrow : Hid ((wr.alloc (.cells #[.int .i64 p, .int .i64 l2, .int .i64 l3] 102)).ownsRow O 75 2 (.slice pa (bucket p (C.take c)).length pc) (bucket p (C.take c)).length (flatE (bucket p (C.take c)))) := by
        have := (HR.out.1.row p hp).alloc (.cells #[.int .i64 p, .int .i64 l2, .int .i64 l3] 102)
        rw [HV.out] at this
        exact this
      have cO1 : (wr.alloc (.cells #[.int .i64 p, .int .i64 l2, .int .i64 l3] 102)).cell? ⟨O, p, none⟩ = some (.slice pa (bucket p (C.take c)).length pc) := by rw [World.cell?_alloc_lt _ _ _ (by show O < _; omega)]; exact cO
      have fO1 : (wr.alloc (.cells #[.int .i64 p, .int .i64 l2, .int .i64 l3] 102)).heap[O]? = some (.cells vs.toArray 73 (0, 0)) := by rw [Below.heap_alloc _ _ _ hOr]; exact HR.out.1.blk
      have hneO : (Value.slice pa (bucket p (C.take c)).length pc).ownBlock ≠ some O := fun e => by
        obtain ⟨cur, hcur⟩ := own_tag hrow.out e
        rw [fO1] at hcur
        simp at hcur
      have hneX : (Value.slice pa (bucket p (C.take c)).length pc).ownBlock ≠ some wr.heap.size := fun e => by
        obtain ⟨cur, hcur⟩ := own_tag hrow.out e
        rw [hnew] at hcur
        simp at hcur
      have HFO := hide fO1
      clear fO1 cO fO d0 d1 d2
      generalize wr.alloc (.cells #[.int .i64 p, .int .i64 l2, .int .i64 l3] 102) = W1 at hsz hnew hrow cO1 HFO HF ⊢
      have b0 := cell_of_row W1 wr.heap.size 0 _ _ _ hnew
      have b1 := cell_of_row W1 wr.heap.size 1 _ _ _ hnew
      have b2 := cell_of_row W1 wr.heap.size 2 _ _ _ hnew
      simp only [List.getElem?_toArray, List.getElem?_cons_succ, List.getElem?_cons_zero] at b0 b1 b2
      obtain ⟨X, hX⟩ : ∃ X, wr.heap.size = X := ⟨_, rfl⟩
      rw [hX] at b0 b1 b2 hsz hneX hOr ⊢
      have HX2 := hide hX
      clear hnew hX
      generalize hbk : bucket p (C.take c) = bk at hrow cO1 hneO hneX hbl ⊢
      have HBK := hide hbk
      clear hbk
      have HZ := hide hsz
      have HNB : Hid (∀ o, (W1.alloc o).heap[X + 1]? = some o) := fun o => by rw [← HZ.out]; exact heap_alloc_new W1 o
      have cO2 : (W1.alloc (.cells #[.int .i64 l2, .int .i64 l3] 75)).cell? ⟨O, p, none⟩ = some (.slice pa bk.length pc) := by rw [World.cell?_alloc_lt _ _ _ (by show O < _; omega)]; exact cO1
      have HO2 : Hid (∀ w3 : World, (W1.alloc (.cells #[.int .i64 l2, .int .i64 l3] 75)).drew.grownBy w3 (Value.slice pa bk.length pc).ownBlock → w3.heap[O]? = some (.cells vs.toArray 73 (0, 0))) := fun w3 hg => by
        rw [hg.block O (by show O < (W1.alloc _).heap.size; simp; omega) (fun e => hneO e.symm)]
        show (W1.alloc _).heap[O]? = _
        rw [Below.heap_alloc _ _ _ (by omega)]
        exact HFO.out
      have hvs : p < vs.toArray.size := by rw [List.size_toArray, HR.out.1.len]; exact hp
      have vv : (vs.toArray[p]?).isSome = true := by simp [Array.getElem?_eq_getElem hvs]
      obtain ⟨ov, hov⟩ := Option.isSome_iff_exists.1 vv
      clear vv hvs
      have HB3 : Hid (∀ j u, W1.cell? ⟨X, j, none⟩ = some u → (W1.alloc (.cells #[.int .i64 l2, .int .i64 l3] 75)).drew.cell? ⟨X, j, none⟩ = some u) := fun j u hu => by
        show (W1.alloc _).cell? _ = _
        rw [World.cell?_alloc_lt _ _ _ (by show X < _; omega)]
        exact hu
      have hXO : ¬ X = O := by omega
      have hOX : ¬ O = X := by omega
      have hp0 : (0 : Int) ≤ (p : Int) := by omega
      have b0a : (W1.alloc (.cells #[.int .i64 l2, .int .i64 l3] 75)).cell? ⟨X, 0, none⟩ = some (.int .i64 p) := HB3.out 0 _ b0
      have HRW : Hid ((W1.alloc (.cells #[.int .i64 l2, .int .i64 l3] 75)).drew.ownsRow O 75 2 (.slice pa bk.length pc) bk.length (flatE bk)) := (hrow.out.alloc _).drew
      have HNW : Hid (∀ j u, [Value.int .i64 l2, Value.int .i64 l3][j]? = some u → (W1.alloc (.cells #[.int .i64 l2, .int .i64 l3] 75)).drew.cell? ((⟨X + 1, 0, none⟩ : Addr).add j) = some u) := World.news_of_block (cs := #[.int .i64 l2, .int .i64 l3]) (t := 75) (fr := (0, 0)) (HNB.out _)
      have HML : Hid (bk.length + 1 ≤ maxLen) := by show _ ≤ _; unfold maxLen; omega
      have HBY : Hid ((bk.length + 1) * 16 ≤ 140737488355328) := by show _ ≤ _; omega
      have HOL : Hid (O ≤ (W1.alloc (.cells #[.int .i64 l2, .int .i64 l3] 75)).drew.heap.size) := by show O ≤ (W1.alloc _).heap.size; simp; omega
      have HSZ : Hid ((W1.alloc (.cells #[.int .i64 l2, .int .i64 l3] 75)).drew.heap.size = W1.heap.size + 1) := by show (W1.alloc _).heap.size = _; simp
      have HT2 : Hid (∀ w3 : World, (W1.alloc (.cells #[.int .i64 l2, .int .i64 l3] 75)).drew.grownBy w3 (Value.slice pa bk.length pc).ownBlock → w3.cell? ⟨X, 0, none⟩ = some (.int .i64 p)) := fun w3 hg => (hg.cell_far ⟨X, 0, none⟩ (by show X < (W1.alloc _).heap.size; simp; omega) (Ne.symm hneX)).trans (HB3.out 0 _ b0)
      clear hrow HNB HB3 HFO hneX hneO
      go_region_law
        (refine step_append_lies _ rfl (.tmp 26) (.tmp 32) 73 rfl O 75 i0 (.agg #[.int .i64 0, .int .i64 0]) 2 16 Tryz.underlying73 hi0 hz0 hz1 hz2 rfl (by decide) (.slice pa bk.length pc) bk.length (flatE bk) rfl (HRW.out) ⟨X + 1, 0, none⟩ 1 1 [.int .i64 l2, .int .i64 l3] rfl rfl HNW.out (by simp [Value.oneCell']) (by decide) HML.out HBY.out HOL.out (W1.heap.size + 1) HSZ.out ?_; intro gg cap w3 hown1 hgrow hat hlt3; have t0 := cell_of_row w3 O p _ _ _ (HO2.out w3 hgrow); have t1 := frozen_of_row w3 O p _ _ (HO2.out w3 hgrow); rw [hov] at t0; have t2 := HT2.out w3 hgrow)
      all_goals
        have HST : Hid (∃ vs', Outs O O n (w3.setCell ⟨O, p, none⟩ (.slice (some ⟨gg, 0, none⟩) (bk.length + 1) cap)) (fun p => bucket p (C.take (c + 1))) vs' ∧ Below O w2 (w3.setCell ⟨O, p, none⟩ (.slice (some ⟨gg, 0, none⟩) (bk.length + 1) cap))) := by
          have e := HBK.out
          rw [← e] at hown1 hgrow hat ⊢
          rw [← HV.out] at hgrow hat
          exact gather_step l2 l3 hlt HX.out hp HR.out.1 HR.out.2 HF.out (by rw [HX2.out]; omega) _ hown1 hgrow hat
        clear hown1 hgrow hat
        go_wp2
        go_roundw
        case rel =>
          obtain ⟨vs', h1, h2⟩ := HST.out
          exact ⟨c + 1, vs', by go_num, by omega, h1, h2⟩
        case measure => simp [intOf]; omega
    · have : c = C.length := by omega
      subst this
      have HG : Hid (Outs 0 O n wr (rowM n (tab L)) vs) := by
        have h1 := HR.out.1
        have e : (fun p => bucket p (C.take C.length)) = rowM n (tab L) := by
          funext p
          rw [List.take_length]
          exact HB.out p
        rw [e] at h1
        exact ⟨h1.len, h1.blk, fun p hp => own_mono (h1.row p hp), h1.dis⟩
      go_wp2
      go_ret
      refine ⟨_, rfl, ⟨O, vs, heap_alloc_new _ _, HG.out.later ((Below.refl _ _).alloc (Nat.le_refl _) _)⟩, ?_, ?_⟩
      · have h5 := H2.out.2.2.2.2
        exact (H2.out.2.1.trans (HR.out.2.mono h5)).alloc (by omega) _
      · have h5 := H2.out.2.2.2.2
        omega
end Go.Proofs.YtojkdmkeankcgaaGreat
