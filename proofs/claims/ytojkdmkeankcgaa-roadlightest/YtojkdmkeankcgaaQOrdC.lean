/-
  What the calls of the order's add, lower and remove do.
-/
import Derived.Test.YtojkdmkeankcgaaQHeapC
import Derived.Handy
namespace Go.Proofs.Ytojkdmkeankcgaa.Qu
open Go.RowKit Go.Maps

section
variable {w w' : World} {ob mb : Nat} {v : Value} {L M X : List Pr} {S T : Nat → Prop}

theorem add_full (h : Ord w ob mb v L L S) (x k : Int) (hl : 4096 ≤ L.length) :
    Calls Try.prog 58 #[.pointer (some ⟨ob, 0, none⟩), .int .i64 x, .int .i64 k] w fun e w' => e = .returned (.bool false) ∧ w' = w := by
  have c0 := h.c0
  obtain ⟨a, cap, rfl, h1, h2⟩ := h.row.shape
  have hl2 : L.length = 4096 := by have := h.len; omega
  rw [hl2] at c0
  go_enter Try.func58, Try.ntmps58
  go_wp2
  go_ret
  exact ⟨rfl, rfl⟩

set_option maxRecDepth 100000 in
set_option maxHeartbeats 800000 in
theorem add_any (h : Ord w ob mb v L L S) (hh : Heap L L.length) (x k : Int) (hx : I64 x) (hk : I64 k) (hn : ∀ i, i < L.length → (at' L i).1 ≠ x) (hl : L.length < 4096) :
    Calls Try.prog 58 #[.pointer (some ⟨ob, 0, none⟩), .int .i64 x, .int .i64 k] w fun e w' => e = .returned (.bool true) ∧ HOrd w' ob mb (L ++ [(x, k)]) (grow S w w') ∧ Fr S w w' := by
  have c0 := h.c0
  have HP := hide (hpush_any h hh x k hx hk hn hl)
  obtain ⟨a, cap, rfl, h1, h2⟩ := h.row.shape
  have hl2 : ¬ (4096 : Int) ≤ (L.length : Int) := by omega
  clear h hh hn
  go_enter Try.func58, Try.ntmps58
  go_wp2_with (go_at_call 72; refine HP.out.mono ?_; rintro e w1 ⟨rfl, H1⟩)
  go_ret
  exact ⟨rfl, H1⟩

theorem lower_no (h : Ord w ob mb v L M S) (i : Nat) (hi : i < L.length) (k : Int) (hk : (at' L i).2 ≤ k) :
    Calls Try.prog 57 #[.pointer (some ⟨ob, 0, none⟩), .int .i64 i, .int .i64 k] w fun e w' => e = .returned (.bool false) ∧ w' = w := by
  have c0 := h.c0
  obtain ⟨g, cap, rfl, h1, h2⟩ := h.row.nonempty (by omega)
  obtain ⟨a0, a1⟩ := h.row.cells i hi
  have hl := h.len
  have i1 : (i : Int) < (L.length : Int) := by omega
  obtain ⟨z, hz⟩ : ∃ z, (at' L i).2 = z := ⟨_, rfl⟩
  rw [hz] at a1 hk
  go_enter Try.func57, Try.ntmps57
  go_wp2
  go_ret
  exact ⟨rfl, rfl⟩
theorem Pl.same {D : DataW Unit} {M' : List Pr} (h : Pl D M) (hl : M'.length = M.length) (he : ∀ i, i < M.length → (at' M' i).1 = (at' M i).1) : Pl D M' :=
  ⟨fun i hi => by rw [he i (by omega)]; exact h.here i (by omega), fun x hx => h.none x (fun i hi => by rw [← he i hi]; exact hx i (by omega)), by rw [hl]; exact h.size⟩
theorem at_set {i : Nat} (hi : i < L.length) (p : Pr) (k : Nat) : at' (L.set i p) k = if k = i then p else at' L k := by
  unfold at'
  simp only [List.getD_eq_getElem?_getD, List.getElem?_set]
  by_cases e : i = k
  · subst e; simp [hi]
  · rw [if_neg e, if_neg (Ne.symm e)]

set_option maxRecDepth 100000 in
set_option maxHeartbeats 800000 in
theorem lower_any (h : Ord w ob mb v L L S) (hh : Heap L L.length) (i : Nat) (hi : i < L.length) (k : Int) (hwk : I64 k) (hk : k < (at' L i).2) :
    Calls Try.prog 57 #[.pointer (some ⟨ob, 0, none⟩), .int .i64 i, .int .i64 k] w fun e w' => e = .returned (.bool true) ∧ HOrd w' ob mb (L.set i ((at' L i).1, k)) S ∧ Fr S w w' := by
  have c0 := h.c0
  obtain ⟨g, cap, hv, h1, h2⟩ := h.row.nonempty (by omega)
  subst hv
  obtain ⟨a0, a1⟩ := h.row.cells i hi
  have zf := h.row.frozen (i * 2 + 1)
  have hl := h.len
  have i1 : (i : Int) < (L.length : Int) := by omega
  have hO : Ord (w.setCell ⟨g, i * 2 + 1, none⟩ (.int .i64 k)) ob mb (.slice (some ⟨g, 0, none⟩) L.length cap) (L.set i ((at' L i).1, k)) (L.set i ((at' L i).1, k)) S := by
    have hrow : Row (w.setCell ⟨g, i * 2 + 1, none⟩ (.int .i64 k)) (.slice (some ⟨g, 0, none⟩) L.length cap) (L.set i ((at' L i).1, k)) := by
      have h3 := own_set (j := i * 2 + 1) h.row (.int .i64 k)
      have h4 := flat_set L i ((at' L i).1, k) hi
      have h5 : (flat L).set (i * 2) (.int .i64 ((at' L i).1, k).1) = flat L := by
        apply List.ext_getElem?
        intro j
        rw [List.getElem?_set]
        split
        · rename_i e
          subst e
          have := (flat_get L i hi).1
          rw [this, if_pos (by rw [flat_len]; omega)]
        · rfl
      rw [h5] at h4
      unfold Row
      rw [← h4, List.length_set]
      exact h3
    obtain ⟨D, hD, hP⟩ := h.map
    have hm : MapIs w mb (L.set i ((at' L i).1, k)) := ⟨D, by rw [List.length_set]; exact hD, hP.same (by simp) (fun j hj => by rw [at_set hi]; split; (rename_i e; rw [e]); rfl)⟩
    refine ⟨?_, hrow, hm.of_block (heap_setCell_other _ _ _ _ (h.mg rfl)), h.so, h.sm, h.sr, fun b hb => by simpa [World.setCell] using h.lt b hb, fun j hj => ?_, by simpa using h.len⟩
    · rw [heap_setCell_other w ⟨g, i * 2 + 1, none⟩ ob _ (h.og rfl)]; exact h.blk
    · rw [at_set hi]
      split
      · exact ⟨(h.wf i hi).1, hwk⟩
      · exact h.wf j (by simpa using hj)
  have hF : Fr S w (w.setCell ⟨g, i * 2 + 1, none⟩ (.int .i64 k)) := (Fr.refl S w).setCell _ _ (.inl (h.sr g rfl))
  have hfix : FixAt (L.set i ((at' L i).1, k)) (L.set i ((at' L i).1, k)).length i := by
    rw [List.length_set]
    exact hh.fix hi (fun j _ hne => by rw [at_set hi, if_neg hne])
  have HFx := hide (And.intro (fix_any hO i hfix (by simpa using hi)) hF)
  obtain ⟨z, hz⟩ : ∃ z, (at' L i).2 = z := ⟨_, rfl⟩
  rw [hz] at a1 hk
  clear h hh hO hF hfix hi
  go_enter Try.func57, Try.ntmps57
  go_wp2_with (go_at_call 71; refine HFx.out.1.mono ?_; rintro e w1 ⟨rfl, H1, hF1⟩)
  go_ret
  exact ⟨rfl, H1, HFx.out.2.trans0 hF1⟩

/-- A delete as one step of a region that draws. -/
theorem step_delete {P : Program} {ops : Array Oper} {o : Oper} {a : Act} {w : World} {K : Act → World → Prop} {Q : Exit → Act → World → Prop} {E : Prop}
    (hg : o.guard = none) (m x : Operand) (t k : TypeId) (hop : o.op = Op.call { callee := Callee.builtin Builtin.delete, args := #[m, x], argTypes := #[t, k] })
    (e : TypeId) (Kk : Keyed P k) (ht : P.underlying t = some (.map k e)) (R : Value → Option (DataW Unit × List MemPlace)) (b n : Nat) (D : DataW Unit) (hm : a.eval m = .map (some b)) (hown : w.ownsMap P k R b n D)
    (key : Value) (kl : Lit) (hx : a.eval x = key) (hkey : keyOf P k key = some kl)
    (hK : ∀ w', w'.ownsMap P k R b n (D.del kl) → w.mapTurned w' b → K (a.put o.dst (.tuple #[])) w') :
    if Region.wanted o (yielded ops a.tmps) = true then Oper.wp P o a w K Q else E := by
  have hw : Region.wanted o (yielded ops a.tmps) = true := by simp [Region.wanted, hg]
  rw [if_pos hw]
  obtain ⟨w', hr, h2, h3⟩ := hown.drop Kk ht hkey o.type
  unfold Oper.wp
  simp [execOp, hop, resolve, invoke, builtin, hm, hx, hr, Result.andThen]
  exact hK w' h2 h3
theorem Pl.del {D : DataW Unit} {p : Pr} (h : Pl D (L ++ [p])) (ht : Tidy D) : Pl (D.del (ki p.1)) L := by
  have hne : ∀ i, i < L.length → (at' L i).1 ≠ p.1 := fun i hi e => by
    have := h.inj (i := i) (j := L.length) (by simp; omega) (by simp) (by rw [at_snoc, at_snoc, if_pos hi, if_neg (by omega), if_pos rfl]; exact e)
    omega
  refine ⟨fun i hi => ?_, fun x hx => ?_, ?_⟩
  · rw [has_del_other (ki_ne (hne i hi)), atKey_del_other (ki_ne (hne i hi))]
    have := h.here i (by simp; omega)
    rwa [at_snoc, if_pos hi] at this
  · by_cases e : x = p.1
    · subst e; exact has_del_same
    · rw [has_del_other (ki_ne e)]
      refine h.none x fun i hi => ?_
      rw [at_snoc]
      split
      · exact hx i (by assumption)
      · have : i = L.length := by simp at hi; omega
        rw [if_pos this]; exact fun e2 => e e2.symm
  · have h1 := size_del (k := ki p.1) ht
    have h2 := (h.here L.length (by simp)).1
    rw [at_snoc, if_neg (by omega), if_pos rfl] at h2
    rw [h2, h.size] at h1
    simp at h1
    omega

set_option maxRecDepth 100000 in
set_option maxHeartbeats 1600000 in
theorem remove_any (h : Ord w ob mb v L L S) (hh : Heap L L.length) (i : Nat) (hi : i < L.length) :
    Calls Try.prog 69 #[.pointer (some ⟨ob, 0, none⟩), .int .i64 i] w fun e w' => e = .returned (.agg #[.int .i64 (at' L i).1, .int .i64 (at' L i).2]) ∧ ∃ L', (L' ++ [at' L i]).Perm L ∧ HOrd w' ob mb L' S ∧ Fr S w w' := by
  have hwp := h.wf i hi
  obtain ⟨p, hp⟩ : ∃ p, at' L i = p := ⟨_, rfl⟩
  rw [hp] at hwp
  have hO1 : Ord (w.alloc (.cells #[.int .i64 0, .int .i64 0] 121)) ob mb v L L S := h.later ((Below.refl _ _).alloc (Nat.le_refl _) _)
  have HR := hremove_any hO1 hh i hi
  rw [hp] at HR ⊢
  have hF1 : Fr S w (w.alloc (.cells #[.int .i64 0, .int .i64 0] 121)) := (Fr.refl S w).alloc _
  replace HR := hide (And.intro HR hF1)
  obtain ⟨x, k⟩ := p
  have hta := fun w => (show (Instr.typeAssert (.iface 121 (.agg #[.int .i64 x, .int .i64 k])) 20 121 false).run Try.prog w = .ok (.agg #[.int .i64 x, .int .i64 k]) w from assert49 w _)
  have HW := hide (And.intro hwp h.lt)
  clear h hh hi hO1 hF1 hp hwp
  go_enter Try.func69, Try.ntmps69
  go_wp2_with (go_at_call 88; refine HR.out.1.mono ?_; rintro e w1 ⟨rfl, v', L', hO, hF, hH, hP⟩; simp only)
  obtain ⟨⟨hwx, hwk⟩, hS⟩ := HW.out
  have hB0 := hF.block w.heap.size (by simp) (fun e => by have := hS _ e; omega)
  rw [heap_alloc_new] at hB0
  have hF1 := HR.out.2
  have hsz : w.heap.size < w1.heap.size := by have := hF.size; simp at this; omega
  obtain ⟨B, hB⟩ : ∃ B, w.heap.size = B := ⟨_, rfl⟩
  obtain ⟨C, hC⟩ : ∃ C, w1.heap.size = C := ⟨_, rfl⟩
  have hb1 : Below w1.heap.size w1 (w1.alloc (.cells #[.int .i64 x, .int .i64 k] 121)) := (Below.refl _ _).alloc (Nat.le_refl _) _
  have hnew := heap_alloc_new w1 (.cells #[.int .i64 x, .int .i64 k] 121)
  have hs2 : (w1.alloc (.cells #[.int .i64 x, .int .i64 k] 121)).heap.size = C + 1 := by simp [hC]
  rw [hB] at hB0 hsz ⊢
  rw [hC] at hsz hnew ⊢
  generalize (w1.alloc (.cells #[.int .i64 x, .int .i64 k] 121)) = W2 at hb1 hnew hs2 ⊢
  have hO2 := hO.later hb1
  have hF2 : Fr S w W2 := (hF1.trans0 hF).trans0 (Fr.of_below hb1)
  have hB2 := (hb1.block B (by omega)).trans hB0
  have q1 := hO2.c1
  have q2 := cell_of_row W2 C 0 _ _ _ hnew
  have q3 := cell_of_row W2 C 1 _ _ _ hnew
  simp only [List.getElem?_toArray, List.getElem?_cons_succ, List.getElem?_cons_zero] at q2 q3
  obtain ⟨D, hD, hPl⟩ := hO2.map
  have hT := hD.tidy law
  have hobs : ob < B := by rw [← hB]; exact hS _ hO.so
  have hmbs : mb < B := by rw [← hB]; exact hS _ hO.sm
  have HX : Hid (∀ w3, OwnI w3 mb (L' ++ [(x, k)]).length (D.del (ki x)) → W2.drew.mapTurned w3 mb → (w3.cell? ⟨C, 0, none⟩ = some (.int .i64 x) ∧ w3.cell? ⟨C, 1, none⟩ = some (.int .i64 k) ∧ w3.cell? ⟨B, 0, none⟩ = some (.int .i64 0) ∧ w3.cell? ⟨B, 1, none⟩ = some (.int .i64 0) ∧ w3.frozen? ⟨B, 0, none⟩ = false ∧ w3.frozen? ⟨B, 1, none⟩ = false) ∧
      ∃ L', (L' ++ [(x, k)]).Perm L ∧ HOrd ((w3.setCell ⟨B, 0, none⟩ (.int .i64 x)).setCell ⟨B, 1, none⟩ (.int .i64 k)) ob mb L' S ∧ Fr S w ((w3.setCell ⟨B, 0, none⟩ (.int .i64 x)).setCell ⟨B, 1, none⟩ (.int .i64 k))) := by
    intro w3 hD3 ht3
    have hg3 := ht3.grown
    have hb3 : ∀ b, b < C + 1 → b ≠ mb → w3.heap[b]? = W2.heap[b]? := fun b h1 hb => hg3.block b (by show b < W2.heap.size; omega) (by simp; exact hb)
    have hC3 := (hb3 C (by omega) (by omega)).trans hnew
    have hB3 := (hb3 B (by omega) (by omega)).trans hB2
    refine ⟨⟨by rw [cell_of_row w3 C 0 _ _ _ hC3]; rfl, by rw [cell_of_row w3 C 1 _ _ _ hC3]; rfl, by rw [cell_of_row w3 B 0 _ _ _ hB3]; rfl, by rw [cell_of_row w3 B 1 _ _ _ hB3]; rfl, frozen_of_row w3 B 0 _ _ hB3, frozen_of_row w3 B 1 _ _ hB3⟩, L', hP, ?_⟩
    have hF3 : Fr S w w3 := hF2.drew.trans0 (Fr.of_grown hg3 (fun b e => by cases e; exact hO.sm))
    have hF4 := (hF3.setCell ⟨B, 0, none⟩ (.int .i64 x) (.inr (by rw [hB]; exact Nat.le_refl _))).setCell ⟨B, 1, none⟩ (.int .i64 k) (.inr (by rw [hB]; exact Nat.le_refl _))
    have hpl := hPl.del hT
    have hm3 : MapIs w3 mb L' := ⟨_, World.ownsMap.mono (OwnI.tight hD3) (Nat.le_of_eq hpl.size), hpl⟩
    have hblk : ∀ b, b < B → ((w3.setCell ⟨B, 0, none⟩ (.int .i64 x)).setCell ⟨B, 1, none⟩ (.int .i64 k)).heap[b]? = w3.heap[b]? := fun b hb => by
      rw [heap_setCell_other _ ⟨B, 1, none⟩ b _ (by show b ≠ B; omega), heap_setCell_other _ ⟨B, 0, none⟩ b _ (by show b ≠ B; omega)]
    refine ⟨⟨v', L', ⟨?_, ?_, hm3.of_block (hblk mb hmbs), hO.so, hO.sm, hO.sr, fun b hb => Nat.lt_of_lt_of_le (hS b hb) hF4.size, hO.wf, hO.len⟩, .refl _, hH⟩, hF4⟩
    · rw [hblk ob hobs, hb3 ob (by omega) hO.mo.symm]; exact hO2.blk
    · exact hO2.row.of_block (fun g e => by have : g < B := by rw [← hB]; exact hS _ (hO.sr g e)
                                            rw [hblk g this, hb3 g (by omega) (hO.mg e).symm])
  have HK := hide (keyOf3 hwx)
  have HD := hide hD
  clear hD hPl hT hO hO2 hF hF1 hF2 hH hP hb1 hnew hB0 hB2 HR HW hS
  go_region_law (refine step_delete rfl (.tmp 14) (.tmp 16) 109 3 rfl 3 law Try.underlying109 _ mb _ D rfl HD.out _ (ki x) rfl HK.out ?_; intro w3 hD3 ht3; obtain ⟨⟨r0, r1, r2, r3, r4, r5⟩, HE⟩ := HX.out w3 hD3 ht3; replace HE := hide HE; clear hD3 ht3)
  all_goals
    go_wp2
    exact bodyPost_ret (v := .agg #[.int .i64 x, .int .i64 k]) (by simp [results, Try.results69, go_sem, r2, r3]) rfl ⟨rfl, HE.out⟩
end
end Go.Proofs.Ytojkdmkeankcgaa.Qu
