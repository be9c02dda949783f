/-
  What slices.Insert does with one visit and a row of visits of one's own.
-/
import Derived.Test.YtdnkmjafkpnliaaAwk
import Derived.Lib.AppendZeros
import Derived.Lib.AppendZerosOnto
import Derived.Lib.JoinLaws
import Derived.Lib.Overlaps
import Derived.Lib.SliceRun
import Derived.Laws.Externs
import Derived.Laws.IdiomCopy
import Derived.Laws.CopyRow
namespace Go.Proofs.Ytdnkmjafkpnliaa
open Go.RowKit Go.Lib

/-- A copy of visits into a block. -/
theorem run_copy2 (w : World) (ty : TypeId) (g o dLen dCap : Nat) (a : Addr) (sLen sCap : Nat) (cur : Array Value) (cs : List Value)
    (hg : w.heap[g]? = some (.cells cur 58 (0, 0))) (hn : cs.length = Nat.min sLen dLen * 2)
    (hsrc : ∀ j v, cs[j]? = some v → w.cell? (a.add j) = some v) (hfit : o + cs.length ≤ cur.size) (h1 : ∀ v ∈ cs, v.oneCell' = true) :
    (Builtin.copy_ #[22, 22] ty #[.slice (some ⟨g, o, none⟩) dLen dCap, .slice (some a) sLen sCap]).run Try.prog w =
      .ok (goInt (Nat.min sLen dLen)) (w.setRow g (cur.toList.take o ++ cs ++ cur.toList.drop (o + cs.length)).toArray) := by
  have hl := run_loadCells_list (P := Try.prog) w a cs hsrc
  have hst := run_storeCells_at Try.prog g o 58 cs 0 cur w hg (by simpa using hfit) h1
  obtain ⟨i0, hi0, _, hi, _⟩ := info_parts info34
  simp [Builtin.copy_, run_underlying Try.underlying22, Builtin.lenOf, Builtin.firstCells, sizeOf, typeInfo, hi0, hi, ← hn, hl, hst]
/-- The block of a row of visits. -/
theorem VRow.blk {w : World} {base g n c : Nat} {L : List Vst} (h : VRow w base (.slice (some ⟨g, 0, none⟩) n c) L) (hn : L.length = n) : ∃ R : List Value, w.heap[g]? = some (.cells (flatV L ++ R).toArray 58) ∧ R.length = c * 2 - n * 2 ∧ n ≤ c ∧ c ≤ maxLen ∧ base ≤ g := by
  rcases h.2 with ⟨e, _⟩ | ⟨g2, cap2, cur, e, hb, hg, h1, h2, h3, h4⟩
  · cases e
  · injection e with e1 e2 e3
    injection e1 with e1
    injection e1 with e1
    subst e1 e3
    rw [hn] at h1 h4
    refine ⟨cur.toList.drop (n * 2), ?_, ?_, h1, h2, hb⟩
    · rw [← h4, List.take_append_drop]; exact hg
    · rw [List.length_drop, Array.length_toList, h3]
theorem vrow_blk {w : World} {base g n c : Nat} {L : List Vst} {R : List Value} (hn : L.length = n) (hg : w.heap[g]? = some (.cells (flatV L ++ R).toArray 58)) (hR : R.length = c * 2 - n * 2) (h1 : n ≤ c) (h2 : c ≤ maxLen) (hb : base ≤ g) : VRow w base (.slice (some ⟨g, 0, none⟩) n c) L := by
  refine ⟨flatV_len L, .inr ⟨g, c, (flatV L ++ R).toArray, by rw [hn], hb, hg, by rw [hn]; exact h1, h2, ?_, ?_⟩⟩
  · simp only [List.size_toArray, List.length_append, flatV_len, hn, hR]; omega
  · rw [hn]
    show (flatV L ++ R).take (n * 2) = _
    rw [List.take_append_of_le_length (by rw [flatV_len, hn]; exact Nat.le_refl _), List.take_of_length_le (by rw [flatV_len, hn]; exact Nat.le_refl _)]
/-- A list into which one visit is set. -/
def insM (L : List Vst) (i : Nat) (v : Vst) : List Vst := L.take i ++ v :: L.drop i
theorem insM_len {L : List Vst} {i : Nat} (h : i ≤ L.length) (v : Vst) : (insM L i v).length = L.length + 1 := by
  unfold insM
  simp only [List.length_append, List.length_cons, List.length_take, List.length_drop]
  omega
theorem flat_ins (L : List Vst) (i : Nat) (v : Vst) : flatV (insM L i v) = flatV (L.take i) ++ (encV v ++ flatV (L.drop i)) := by
  unfold insM
  rw [← flatV_app]
  rfl
theorem shift_list (P D R E : List Value) (hE : E.length = 2) (hR : 2 ≤ R.length) :
    (((P ++ (D ++ R)).take (P.length + 2) ++ D ++ (P ++ (D ++ R)).drop (P.length + 2 + D.length)).take P.length ++ E ++ ((P ++ (D ++ R)).take (P.length + 2) ++ D ++ (P ++ (D ++ R)).drop (P.length + 2 + D.length)).drop (P.length + E.length)) = P ++ (E ++ (D ++ R.drop 2)) := by
  have e1 : (P ++ (D ++ R)).take (P.length + 2) = P ++ (D ++ R).take 2 := by rw [List.take_append, List.take_of_length_le (by omega), show P.length + 2 - P.length = 2 by omega]
  have e2 : (P ++ (D ++ R)).drop (P.length + 2 + D.length) = R.drop 2 := by
    rw [List.drop_append, List.drop_eq_nil_of_le (by omega), List.nil_append, show P.length + 2 + D.length - P.length = D.length + 2 by omega, List.drop_append, List.drop_eq_nil_of_le (by omega), List.nil_append, show D.length + 2 - D.length = 2 by omega]
  have l1 : ((D ++ R).take 2).length = 2 := by rw [List.length_take, List.length_append]; omega
  rw [e1, e2, hE]
  have e3 : (P ++ (D ++ R).take 2 ++ D ++ R.drop 2).take P.length = P := by
    rw [List.append_assoc, List.append_assoc, List.take_append_of_le_length (Nat.le_refl _), List.take_length]
  have e4 : (P ++ (D ++ R).take 2 ++ D ++ R.drop 2).drop (P.length + 2) = D ++ R.drop 2 := by
    rw [List.append_assoc, List.append_assoc, ← List.drop_drop, List.drop_append_of_le_length (Nat.le_refl _), List.drop_length, List.nil_append]
    have := List.drop_left (l₁ := (D ++ R).take 2) (l₂ := D ++ R.drop 2)
    rw [l1] at this
    exact this
  rw [e3, e4, List.append_assoc]
/-- Where the row of visits, and the one visit, lie. -/
theorem one_cells {w : World} {vb : Nat} {v : Vst} (h : w.heap[vb]? = some (.cells #[.int .i64 v.1, .int .i64 v.2] 58)) : ∀ j u, (encV v)[j]? = some u → w.cell? ((⟨vb, 0, none⟩ : Addr).add j) = some u := fun j u hu => by
  rw [add0, cell_of_row _ _ _ _ _ _ h, ← hu]
  unfold encV
  rw [List.getElem?_toArray]
theorem setRow_set (w : World) (g : Nat) (cur cs : Array Value) (h : w.heap[g]? = some (.cells cur 58)) : (w.setRow g cs).heap[g]? = some (.cells cs 58) := by
  have := setRow_heap w g cur cs 58 (0, 0) h
  exact this
theorem grw_row {w w' : World} {g : Nat} (h : w.grownBy w' (some g)) (cs : Array Value) : w.grownBy (w'.setRow g cs) (some g) := ⟨h.os, h.tape, h.output, by simpa [World.setRow] using h.size, fun q hq hn => (setRow_other w' g q cs (fun e => hn (by rw [e]))).trans (h.block q hq hn)⟩
set_option maxRecDepth 100000 in
set_option maxHeartbeats 6400000 in
theorem insert_shift {w : World} {base g n c i vb : Nat} {L : List Vst} {v : Vst} (h : VRow w base (.slice (some ⟨g, 0, none⟩) n c) L) (hn : L.length = n) (hn2 : n ≤ 900) (hi : i < n) (hc : n + 1 ≤ c) (hv : w.heap[vb]? = some (.cells #[.int .i64 v.1, .int .i64 v.2] 58)) (hne : vb ≠ g) :
    Calls Try.prog 56 #[.slice (some ⟨g, 0, none⟩) n c, .int .i64 i, .slice (some ⟨vb, 0, none⟩) 1 1] w fun e w' => e = .returned (.slice (some ⟨g, 0, none⟩) (n + 1) c) ∧ VRow w' base (.slice (some ⟨g, 0, none⟩) (n + 1) c) (insM L i v) ∧ w.grownBy w' (some g) := by
  obtain ⟨R, hg, hR, _, hmx, hbg⟩ := h.blk hn
  have lP : (flatV (L.take i)).length = i * 2 := by rw [flatV_len, List.length_take, hn]; congr 1; omega
  have lD : (flatV (L.drop i)).length = (n - i) * 2 := by rw [flatV_len, List.length_drop, hn]
  obtain ⟨P, hP⟩ : ∃ P, flatV (L.take i) = P := ⟨_, rfl⟩
  obtain ⟨D, hD⟩ : ∃ D, flatV (L.drop i) = D := ⟨_, rfl⟩
  have hPD : flatV L = P ++ D := by rw [← hP, ← hD, flatV_app, List.take_append_drop]
  have oD : ∀ u ∈ D, u.oneCell' = true := fun u hu => flatV_one (L.drop i) u (by rw [hD]; exact hu)
  rw [hP] at lP
  rw [hD] at lD
  rw [hPD, List.append_assoc] at hg
  obtain ⟨C1, hC1⟩ : ∃ C1, (P ++ (D ++ R)).take (P.length + 2) ++ D ++ (P ++ (D ++ R)).drop (P.length + 2 + D.length) = C1 := ⟨_, rfl⟩
  have hC1l : C1.length = (P ++ (D ++ R)).length := by rw [← hC1]; simp only [List.length_append, List.length_take, List.length_drop]; omega
  have hC2 := shift_list P D R (encV v) rfl (by omega)
  rw [hC1] at hC2
  have hl3 : (P ++ (D ++ R)).length = c * 2 := by simp only [List.length_append]; omega
  have HC1 : Hid (∀ (w2 : World) ty dc sc, w2.heap[g]? = some (.cells (P ++ (D ++ R)).toArray 58) → (Builtin.copy_ #[22, 22] ty #[.slice (some ⟨g, (i + 1) * 2, none⟩) (n - i) dc, .slice (some ⟨g, i * 2, none⟩) (n + 1 - i) sc]).run Try.prog w2 = .ok (goInt ((n - i : Nat) : Int)) (w2.setRow g C1.toArray)) := fun w2 ty dc sc h2 => by
    have h9 := run_copy2 w2 ty g ((i + 1) * 2) (n - i) dc ⟨g, i * 2, none⟩ (n + 1 - i) sc (P ++ (D ++ R)).toArray D h2 (by rw [lD]; congr 1; simp only [Nat.min_def]; split <;> omega) (fun j u hj => by
      rw [addAt, cell_of_row _ _ _ _ _ _ h2, List.getElem?_toArray, List.getElem?_append_right (by omega), lP, show i * 2 + j - i * 2 = j by omega, List.getElem?_append_left (List.getElem?_eq_some_iff.1 hj).1]
      exact hj) (by simp only [List.size_toArray]; omega) oD
    have e1 : Nat.min (n + 1 - i) (n - i) = n - i := by simp only [Nat.min_def]; split <;> omega
    have e2 : (i + 1) * 2 = P.length + 2 := by omega
    rw [e1] at h9
    rw [h9, ← hC1, e2]
  have HC2 : Hid (∀ (w2 : World) ty dc, w2.heap[g]? = some (.cells C1.toArray 58) → w2.heap[vb]? = some (.cells #[.int .i64 v.1, .int .i64 v.2] 58) → (Builtin.copy_ #[22, 22] ty #[.slice (some ⟨g, i * 2, none⟩) (n + 1 - i) dc, .slice (some ⟨vb, 0, none⟩) 1 1]).run Try.prog w2 = .ok (goInt ((1 : Nat) : Int)) (w2.setRow g (P ++ (encV v ++ (D ++ R.drop 2))).toArray)) := fun w2 ty dc h2 h3 => by
    have h9 := run_copy2 w2 ty g (i * 2) (n + 1 - i) dc ⟨vb, 0, none⟩ 1 1 C1.toArray (encV v) h2 (by show 2 = _ * 2; rw [show Nat.min 1 (n + 1 - i) = 1 by simp only [Nat.min_def]; split <;> omega]) (one_cells h3) (by simp only [List.size_toArray]; show _ + 2 ≤ _; omega) (fun u hu => by simp [encV] at hu; rcases hu with rfl | rfl <;> rfl)
    have e1 : Nat.min 1 (n + 1 - i) = 1 := by simp only [Nat.min_def]; split <;> omega
    rw [e1] at h9
    rw [h9, ← lP]
    rw [hC2]
  have hvl := lt_of_block hv
  have hgl := lt_of_block hg
  have hov : ∀ (w2 : World) lb cb, w2.heap[vb]? = some (.cells #[.int .i64 v.1, .int .i64 v.2] 58) → w2.heap[g]? = some (.cells (P ++ (D ++ R)).toArray 58) → (callFunc 65 #[.slice (some ⟨vb, 0, none⟩) 1 1, .slice (some ⟨g, (i + 1) * 2, none⟩) lb cb]).run Try.prog w2 = .ok (.value (.bool false)) w2 := fun w2 lb cb h2 h3 => by
    obtain ⟨i0, hi0, _, hz, _⟩ := info_parts info34
    have hs1 : w2.shape? vb = some (58, 2) := by simp [World.shape?, h2]
    have hs2 : w2.shape? g = some (58, c * 2) := by simp only [World.shape?, h3]; simp; omega
    rw [run_callFunc_extern Try.func65 (by kernel_rfl) (by kernel_rfl) (by kernel_rfl) (e := Extern.SlicesOverlaps.overlaps #[22, 22] #[4]) (by kernel_rfl),
      Lib.run_overlaps_apart w2 22 4 58 Try.underlying22 2 (fun w3 => by simp [sizeOf, typeInfo, hi0, hz]) ⟨vb, 0, none⟩ ⟨g, (i + 1) * 2, none⟩ 1 1 lb cb hne 58 58 2 (c * 2) hs1 hs2 (by omega) (frz_row h2) (frz_row h2)]
    rfl
  have HG := hide hg
  have HV := hide hv
  have HOV := hide hov
  have HC2L := hide hC1l
  have HFI : Hid (flatV (insM L i v) = P ++ (encV v ++ D)) := by show _ = _; rw [flat_ins, hP, hD]
  have HIL : Hid ((insM L i v).length = n + 1) := by show _ = _; rw [insM_len (by omega), hn]
  have HRL : Hid ((R.drop 2).length = c * 2 - (n + 1) * 2) := by show _ = _; rw [List.length_drop, hR]; omega
  clear hg hv hov hC1 hC2 hC1l hP hD hPD oD hl3 h hn lP lD hvl hgl hR
  have z1 : ((1 : Int) == 0) = false := by decide
  have z2 : ((i : Int) == (n : Int)) = false := by simp; omega
  have z3 : ¬ (n : Int) + 1 > (c : Int) := by omega
  have z4 : ¬ (c : Int) < (n : Int) + 1 := by omega
  have i0 : (0 : Int) ≤ (i : Int) := by omega
  have i1 : (i : Int) ≤ (n : Int) := by omega
  have i2 : (n : Int) ≤ (c : Int) := by omega
  have nci : ¬ c = i := by omega
  have nci1 : ¬ c = i + 1 := by omega
  have w1 : IntKind.i64.wrap ((n : Int) + 1) = ((n + 1 : Nat) : Int) := by rw [IntKind.wrap_i64]; omega
  have w2 : IntKind.i64.wrap ((i : Int) + 1) = ((i + 1 : Nat) : Int) := by rw [IntKind.wrap_i64]; omega
  have j0 : (0 : Int) ≤ ((n + 1 : Nat) : Int) := by omega
  have j1 : ((n + 1 : Nat) : Int) ≤ (c : Int) := by omega
  have j2 : (0 : Int) ≤ ((i + 1 : Nat) : Int) := by omega
  have j3 : ((i + 1 : Nat) : Int) ≤ ((n + 1 : Nat) : Int) := by omega
  have j4 : (i : Int) ≤ ((n + 1 : Nat) : Int) := by omega
  have j5 : (0 : Int) ≤ (i : Int) + 1 := by omega
  have j6 : (i : Int) ≤ (n : Int) + 1 := by omega
  have j7 : (i : Int) + 1 ≤ (n : Int) + 1 := by omega
  go_enter Try.func56, Try.ntmps56
  have HO1 : Hid (∀ lb cb, (callFunc 65 #[.slice (some ⟨vb, 0, none⟩) 1 1, .slice (some ⟨g, (i + 1) * 2, none⟩) lb cb]).run Try.prog w = .ok (.value (.bool false)) w) := fun lb cb => HOV.out w lb cb HV.out HG.out
  go_wp2_with (simp only [HO1.out])
  have hcp1 : ∀ ty dc sc, (Builtin.copy_ #[22, 22] ty #[.slice (some ⟨g, (i + 1) * 2, none⟩) (n - i) dc, .slice (some ⟨g, i * 2, none⟩) (n + 1 - i) sc]).run Try.prog w.drew = .ok (goInt ((n - i : Nat) : Int)) (w.drew.setRow g C1.toArray) := fun ty dc sc => HC1.out w.drew ty dc sc HG.out
  go_region
  obtain ⟨W1, hW1⟩ : ∃ W1, W1 = w.drew.setRow g C1.toArray := ⟨_, rfl⟩
  rw [← hW1]
  have g1 : W1.heap[g]? = some (.cells C1.toArray 58) := by rw [hW1]; exact setRow_set _ _ _ _ HG.out
  have g2 : W1.heap[vb]? = some (.cells #[.int .i64 v.1, .int .i64 v.2] 58) := by rw [hW1, setRow_other _ _ _ _ hne]; exact HV.out
  have HGW : Hid (w.grownBy W1 (some g)) := by rw [hW1]; exact grw_row (grw_drew (grw_refl _ _)) _
  have hcp2 := fun ty dc => HC2.out W1 ty dc g1 g2
  have HG1 := hide g1
  clear hcp1 g1 g2 hW1
  go_wp2_with fail
  go_ret
  refine ⟨rfl, vrow_blk HIL.out ?_ HRL.out (by omega) hmx hbg, grw_row HGW.out _⟩
  rw [HFI.out, List.append_assoc, List.append_assoc]
  exact setRow_set _ _ _ _ HG1.out
theorem grow_list (P D Z E : List Value) (hE : E.length = 2) :
    (((P ++ Z).take P.length ++ E ++ (P ++ Z).drop (P.length + E.length)).take (P.length + 2) ++ D ++ ((P ++ Z).take P.length ++ E ++ (P ++ Z).drop (P.length + E.length)).drop (P.length + 2 + D.length)) = P ++ (E ++ (D ++ Z.drop (2 + D.length))) := by
  have e1 : (P ++ Z).take P.length = P := List.take_left
  have e2 : (P ++ Z).drop (P.length + E.length) = Z.drop 2 := by rw [List.drop_append, List.drop_eq_nil_of_le (by omega), List.nil_append, hE, show P.length + 2 - P.length = 2 by omega]
  rw [e1, e2]
  have l1 : (P ++ E).length = P.length + 2 := by rw [List.length_append, hE]
  have e3 : (P ++ E ++ Z.drop 2).take (P.length + 2) = P ++ E := by rw [← l1]; exact List.take_left
  have e4 : (P ++ E ++ Z.drop 2).drop (P.length + 2 + D.length) = Z.drop (2 + D.length) := by rw [← l1, List.drop_append, List.drop_eq_nil_of_le (by omega), List.nil_append, List.drop_drop, show 2 + ((P ++ E).length + D.length - (P ++ E).length) = 2 + D.length by omega]
  rw [e3, e4, List.append_assoc, List.append_assoc]
set_option maxRecDepth 100000 in
set_option maxHeartbeats 6400000 in
theorem insert_grow {w : World} {base g n c i vb : Nat} {L : List Vst} {v : Vst} (h : VRow w base (.slice (some ⟨g, 0, none⟩) n c) L) (hn : L.length = n) (hn2 : n ≤ 900) (hi : i < n) (hc : c < n + 1) (hb : base ≤ w.heap.size) (hv : w.heap[vb]? = some (.cells #[.int .i64 v.1, .int .i64 v.2] 58)) :
    Calls Try.prog 56 #[.slice (some ⟨g, 0, none⟩) n c, .int .i64 i, .slice (some ⟨vb, 0, none⟩) 1 1] w fun e w' => ∃ a' c', e = .returned (.slice a' (n + 1) c') ∧ VRow w' base (.slice a' (n + 1) c') (insM L i v) ∧ Below w.heap.size w w' := by
  obtain ⟨R, hg, hR, hnc, hmx, hbg⟩ := h.blk hn
  obtain ⟨i0, hi0, hz0, hzs, hzb⟩ := info_parts info34
  have lP : (flatV (L.take i)).length = i * 2 := by rw [flatV_len, List.length_take, hn]; congr 1; omega
  have lD : (flatV (L.drop i)).length = (n - i) * 2 := by rw [flatV_len, List.length_drop, hn]
  obtain ⟨P, hP⟩ : ∃ P, flatV (L.take i) = P := ⟨_, rfl⟩
  obtain ⟨D, hD⟩ : ∃ D, flatV (L.drop i) = D := ⟨_, rfl⟩
  have hPD : flatV L = P ++ D := by rw [← hP, ← hD, flatV_app, List.take_append_drop]
  have oD : ∀ u ∈ D, u.oneCell' = true := fun u hu => flatV_one (L.drop i) u (by rw [hD]; exact hu)
  rw [hP] at lP
  rw [hD] at lD
  rw [hPD, List.append_assoc] at hg
  obtain ⟨G, hG⟩ : ∃ G, grownCap w (n + 1) c 58 = G := ⟨_, rfl⟩
  have hGn : n + 1 ≤ G := by rw [← hG]; exact grownCap_ge w _ _ _
  have hGm : G ≤ maxLen := by rw [← hG]; exact grownCap_le_maxLen w (n + 1) c 58 (by unfold maxLen; omega)
  have hrz : ∀ ty, ∃ Z : List Value, Z.length = G * 2 - i * 2 ∧ (Builtin.append_ #[22, 3] ty #[.slice (some ⟨g, 0, none⟩) i c, .int .i64 ((n + 1 - i : Nat) : Int)]).run Try.prog w = .ok (.slice (some ⟨w.heap.size, 0, none⟩) (n + 1) G) (w.drew.alloc (.cells (P ++ Z).toArray 58)) := fun ty => by
    have hold : (Builtin.firstCells i0.size i (.slice (some ⟨g, 0, none⟩) i c)).run Try.prog w.drew = .ok P.toArray w.drew := by
      rw [hzs]
      refine run_firstCells_some w.drew 2 i ⟨g, 0, none⟩ i c P lP fun j u hj => ?_
      rw [add0]
      have h8 : w.drew.heap[g]? = some (.cells (P ++ (D ++ R)).toArray 58) := hg
      rw [cell_of_row _ _ _ _ _ _ h8, List.getElem?_toArray, List.getElem?_append_left (List.getElem?_eq_some_iff.1 hj).1]
      exact hj
    have h9 := Lib.run_append_grow_zeros w 22 3 ty 58 i0 _ .i64 .i64 Try.underlying22 under3 hi0 hz0 (some ⟨g, 0, none⟩) i c P hold (n + 1 - i) (by omega) (by omega) (by omega) (by omega) (by rw [hzb]; omega) (by rw [hzb, show i + (n + 1 - i) = n + 1 by omega]; exact growslice_fits hc (by omega))
    rw [show i + (n + 1 - i) = n + 1 by omega, hG] at h9
    refine ⟨(Builtin.zeroCells (Value.agg #[.int .i64 0, .int .i64 0]).cells (n + 1 - i)).toList ++ (Builtin.zeroCells (Value.agg #[.int .i64 0, .int .i64 0]).cells (G - (n + 1))).toList, ?_, ?_⟩
    · simp [Builtin.zeroCells, Value.cells]; omega
    · rw [h9]
      have e9 : P.toArray ++ Builtin.zeroCells (Value.agg #[.int .i64 0, .int .i64 0]).cells (n + 1 - i) ++ Builtin.zeroCells (Value.agg #[.int .i64 0, .int .i64 0]).cells (G - (n + 1)) = (P ++ ((Builtin.zeroCells (Value.agg #[.int .i64 0, .int .i64 0]).cells (n + 1 - i)).toList ++ (Builtin.zeroCells (Value.agg #[.int .i64 0, .int .i64 0]).cells (G - (n + 1))).toList)).toArray := by
        apply Array.ext'
        simp only [Array.toList_append, List.append_assoc]
      rw [e9]
  obtain ⟨Z, hZl, hrz⟩ := hrz 22
  have hC := grow_list P D Z (encV v) rfl
  obtain ⟨C1, hC1⟩ : ∃ C1, (P ++ Z).take P.length ++ encV v ++ (P ++ Z).drop (P.length + (encV v).length) = C1 := ⟨_, rfl⟩
  have hC1l : C1.length = G * 2 := by rw [← hC1]; have e9 : (encV v).length = 2 := rfl; simp only [List.length_append, List.length_take, List.length_drop, e9]; omega
  rw [hC1] at hC
  obtain ⟨W1, hW1⟩ : ∃ W1, W1 = w.drew.alloc (.cells (P ++ Z).toArray 58) := ⟨_, rfl⟩
  rw [← hW1] at hrz
  have HG1 : Hid (W1.heap[w.heap.size]? = some (.cells (P ++ Z).toArray 58)) := by show _ = _; rw [hW1]; exact heap_alloc_new w.drew _
  have HB1 : Hid (Below w.heap.size w W1) := by rw [hW1]; exact ((Below.refl _ _).drew).alloc (Nat.le_refl _) _
  have HVO : Hid (∀ W2, Below w.heap.size w W2 → W2.heap[vb]? = some (.cells #[.int .i64 v.1, .int .i64 v.2] 58)) := fun W2 hf => (hf.block vb (lt_of_block hv)).trans hv
  have HGO : Hid (∀ W2, Below w.heap.size w W2 → W2.heap[g]? = some (.cells (P ++ (D ++ R)).toArray 58)) := fun W2 hf => (hf.block g (lt_of_block hg)).trans hg
  have HC1 : Hid (∀ (w2 : World) ty dc, Below w.heap.size w w2 → w2.heap[w.heap.size]? = some (.cells (P ++ Z).toArray 58) → (Builtin.copy_ #[22, 22] ty #[.slice (some ⟨w.heap.size, i * 2, none⟩) (n + 1 - i) dc, .slice (some ⟨vb, 0, none⟩) 1 1]).run Try.prog w2 = .ok (goInt ((1 : Nat) : Int)) (w2.setRow w.heap.size C1.toArray)) := fun w2 ty dc hf h2 => by
    have h9 := run_copy2 w2 ty w.heap.size (i * 2) (n + 1 - i) dc ⟨vb, 0, none⟩ 1 1 (P ++ Z).toArray (encV v) h2 (by show 2 = _ * 2; rw [show Nat.min 1 (n + 1 - i) = 1 by simp only [Nat.min_def]; split <;> omega]) (one_cells (HVO.out _ hf)) (by simp only [List.size_toArray, List.length_append]; show _ + 2 ≤ _; omega) (fun u hu => by simp [encV] at hu; rcases hu with rfl | rfl <;> rfl)
    have e1 : Nat.min 1 (n + 1 - i) = 1 := by simp only [Nat.min_def]; split <;> omega
    rw [e1] at h9
    rw [h9, ← lP]
    rw [hC1]
  have HC2 : Hid (∀ (w2 : World) ty dc sc, Below w.heap.size w w2 → w2.heap[w.heap.size]? = some (.cells C1.toArray 58) → (Builtin.copy_ #[22, 22] ty #[.slice (some ⟨w.heap.size, (i + 1) * 2, none⟩) (n - i) dc, .slice (some ⟨g, i * 2, none⟩) (n - i) sc]).run Try.prog w2 = .ok (goInt ((n - i : Nat) : Int)) (w2.setRow w.heap.size (P ++ (encV v ++ (D ++ Z.drop (2 + D.length)))).toArray)) := fun w2 ty dc sc hf h2 => by
    have h9 := run_copy2 w2 ty w.heap.size ((i + 1) * 2) (n - i) dc ⟨g, i * 2, none⟩ (n - i) sc C1.toArray D h2 (by rw [lD]; congr 1; simp only [Nat.min_def]; split <;> omega) (fun j u hj => by
      rw [addAt, cell_of_row _ _ _ _ _ _ (HGO.out _ hf), List.getElem?_toArray, List.getElem?_append_right (by omega), lP, show i * 2 + j - i * 2 = j by omega, List.getElem?_append_left (List.getElem?_eq_some_iff.1 hj).1]
      exact hj) (by simp only [List.size_toArray]; omega) oD
    have e1 : Nat.min (n - i) (n - i) = n - i := by simp only [Nat.min_def]; split <;> omega
    have e2 : (i + 1) * 2 = P.length + 2 := by omega
    rw [e1] at h9
    rw [h9, e2]
    rw [hC]
  have HFI : Hid (flatV (insM L i v) = P ++ (encV v ++ D)) := by show _ = _; rw [flat_ins, hP, hD]
  have HIL : Hid ((insM L i v).length = n + 1) := by show _ = _; rw [insM_len (by omega), hn]
  have HRL : Hid ((Z.drop (2 + D.length)).length = G * 2 - (n + 1) * 2) := by show _ = _; rw [List.length_drop]; omega
  clear hg hv hC hC1 hC1l hP hD hPD oD h hn lP lD hR hZl hi0 hz0 hzs hzb
  have z1 : ((1 : Int) == 0) = false := by decide
  have z2 : ((i : Int) == (n : Int)) = false := by simp; omega
  have z3 : (n : Int) + 1 > (c : Int) := by omega
  have z4 : (c : Int) < (n : Int) + 1 := by omega
  have k0 : (0 : Int) ≤ (i : Int) := by omega
  have k1 : (i : Int) ≤ (n : Int) := by omega
  have k2 : (i : Int) ≤ (c : Int) := by omega
  have nci : ¬ c = i := by omega
  have nGi : ¬ G = i := by omega
  have nGi1 : ¬ G = i + 1 := by omega
  have w1 : IntKind.i64.wrap ((n : Int) + 1) = (n : Int) + 1 := by rw [IntKind.wrap_i64]; omega
  have w2 : IntKind.i64.wrap ((i : Int) + 1) = (i : Int) + 1 := by rw [IntKind.wrap_i64]; omega
  have w3 : IntKind.i64.wrap ((n : Int) + 1 - (i : Int)) = ((n + 1 - i : Nat) : Int) := by rw [IntKind.wrap_i64]; omega
  have j5 : (0 : Int) ≤ (i : Int) + 1 := by omega
  have j6 : (i : Int) ≤ (n : Int) + 1 := by omega
  have j7 : (i : Int) + 1 ≤ (n : Int) + 1 := by omega
  have HRZ := hide hrz
  have hc1 := fun ty dc => HC1.out W1 ty dc HB1.out HG1.out
  clear hrz hW1
  go_enter Try.func56, Try.ntmps56
  go_wp2_with (first | (at_builtin; refine Lib.wpList_append_run w rfl (.tmp 34) (.tmp 39) 22 3 rfl _ _ rfl rfl _ _ HRZ.out ?_) | fail)
  obtain ⟨W2, hW2⟩ : ∃ W2, W2 = W1.setRow w.heap.size C1.toArray := ⟨_, rfl⟩
  rw [← hW2]
  have g2 : W2.heap[w.heap.size]? = some (.cells C1.toArray 58) := by rw [hW2]; exact setRow_set _ _ _ _ HG1.out
  have b2 : Below w.heap.size w W2 := by rw [hW2]; exact HB1.out.trans (grw_low (grw_row (grw_refl _ _) _) (Nat.le_refl _) HB1.out.size)
  have HG2 := hide g2
  have HB2 := hide b2
  clear g2 b2 hW2
  have hcp2 : ∀ ty dc sc, (Builtin.copy_ #[22, 22] ty #[.slice (some ⟨w.heap.size, (i + 1) * 2, none⟩) (n - i) dc, .slice (some ⟨g, i * 2, none⟩) (n - i) sc]).run Try.prog W2.drew = .ok (goInt ((n - i : Nat) : Int)) (W2.drew.setRow w.heap.size (P ++ (encV v ++ (D ++ Z.drop (2 + D.length)))).toArray) := fun ty dc sc => HC2.out W2.drew ty dc sc HB2.out.drew HG2.out
  go_region
  go_wp2_with fail
  go_ret
  refine ⟨_, _, rfl, vrow_blk HIL.out ?_ HRL.out hGn hGm hb, HB2.out.trans (grw_low (grw_row (grw_drew (grw_refl _ _)) _) (Nat.le_refl _) HB2.out.size)⟩
  rw [HFI.out, List.append_assoc, List.append_assoc]
  exact setRow_set W2.drew _ _ _ HG2.out
set_option maxRecDepth 100000 in
set_option maxHeartbeats 6400000 in
theorem insert_end {w : World} {base n c vb : Nat} {a : Option Addr} {L : List Vst} {v : Vst} (h : VRow w base (.slice a n c) L) (hn : L.length = n) (hn2 : n ≤ 900) (hb : base ≤ w.heap.size) (hv : w.heap[vb]? = some (.cells #[.int .i64 v.1, .int .i64 v.2] 58)) :
    Calls Try.prog 56 #[.slice a n c, .int .i64 n, .slice (some ⟨vb, 0, none⟩) 1 1] w fun e w' => ∃ a' c', e = .returned (.slice a' (n + 1) c') ∧ VRow w' base (.slice a' (n + 1) c') (insM L n v) ∧ w.grownBy w' (Value.ownBlock (.slice a n c)) := by
  have HI : Hid (insM L n v = L ++ [v]) := by show _ = _; unfold insM; rw [← hn, List.take_length, List.drop_length]
  have HV : Hid (VsV w (.slice (some ⟨vb, 0, none⟩) 1 1) [v]) := vs_lit [v] (by simp) hv
  have H := hide h
  have HN := hide hn
  have z1 : ((1 : Int) == 0) = false := by decide
  have z2 : ((n : Int) == (n : Int)) = true := by simp
  have k0 : (0 : Int) ≤ (n : Int) := by omega
  cases a with
  | none =>
    have h0 : n = 0 ∧ c = 0 := by
      rw [← hn] at h
      obtain ⟨a', c', e, hz⟩ := h.shape
      injection e with e1 _ e2
      subst e1 e2
      refine ⟨?_, hz rfl⟩
      rcases Nat.eq_zero_or_pos n with e | e
      · exact e
      · obtain ⟨g, e2, _⟩ := vrow_pos h (by omega)
        cases e2
    obtain ⟨rfl, rfl⟩ := h0
    clear h hn hv
    go_enter Try.func56, Try.ntmps56
    go_wp2_with (first | (at_builtin; refine app_vis (V := [v]) (.tmp 23) (.tmp 24) rfl rfl rfl rfl H.out HN.out HV.out rfl (fun e => by cases e) (by omega) hb ?_; intro a2 c2 w2 r1 _ r2; have R2 := hide r1; have B2 := hide r2; clear r1 r2) | fail)
    go_ret
    exact ⟨_, _, rfl, by rw [HI.out]; exact R2.out, B2.out⟩
  | some ad =>
    obtain ⟨b, off, sp⟩ := ad
    have hsp : off = 0 ∧ sp = none ∧ n ≤ c := by
      rcases h.2 with ⟨e, _⟩ | ⟨g2, cap2, cur, e, _, _, h1, _⟩
      · cases e
      · injection e with e1 e2 e3
        injection e1 with e1
        injection e1 with e1 e4 e5
        exact ⟨e4, e5, by rw [e2, e3]; exact h1⟩
    obtain ⟨rfl, rfl, hnc⟩ := hsp
    clear h hn hv
    by_cases hcn : c = n
    · subst hcn
      go_enter Try.func56, Try.ntmps56
      go_wp2_with (first | (at_builtin; refine app_vis (V := [v]) (.tmp 23) (.tmp 24) rfl rfl rfl rfl H.out HN.out HV.out rfl (fun e => by cases e) (by omega) hb ?_; intro a2 c2 w2 r1 _ r2; have R2 := hide r1; have B2 := hide r2; clear r1 r2) | fail)
      go_ret
      exact ⟨_, _, rfl, by rw [HI.out]; exact R2.out, B2.out⟩
    · go_enter Try.func56, Try.ntmps56
      go_wp2_with (first | (at_builtin; refine app_vis (V := [v]) (.tmp 23) (.tmp 24) rfl rfl rfl rfl H.out HN.out HV.out rfl (fun e => by cases e) (by omega) hb ?_; intro a2 c2 w2 r1 _ r2; have R2 := hide r1; have B2 := hide r2; clear r1 r2) | fail)
      go_ret
      exact ⟨_, _, rfl, by rw [HI.out]; exact R2.out, B2.out⟩
/-- slices.Insert of one visit into a row of one's own, wherever. -/
theorem insert_any {w : World} {base n c i vb : Nat} {a : Option Addr} {L : List Vst} {v : Vst} (h : VRow w base (.slice a n c) L) (hn : L.length = n) (hn2 : n ≤ 900) (hi : i ≤ n) (hb : base ≤ w.heap.size) (hv : w.heap[vb]? = some (.cells #[.int .i64 v.1, .int .i64 v.2] 58)) (hne : ∀ g, Value.ownBlock (.slice a n c) = some g → vb ≠ g) :
    Calls Try.prog 56 #[.slice a n c, .int .i64 i, .slice (some ⟨vb, 0, none⟩) 1 1] w fun e w' => ∃ a' c', e = .returned (.slice a' (n + 1) c') ∧ VRow w' base (.slice a' (n + 1) c') (insM L i v) ∧ w.grownBy w' (Value.ownBlock (.slice a n c)) := by
  by_cases hin : i = n
  · subst hin
    exact insert_end h hn hn2 hb hv
  · obtain ⟨g, rfl, hnc⟩ := vrow_pos h (by omega)
    by_cases hr : n + 1 ≤ c
    · refine (insert_shift h hn hn2 (by omega) hr hv (hne g rfl)).mono ?_
      rintro e w' ⟨rfl, r, k⟩
      exact ⟨_, _, rfl, r, k⟩
    · refine (insert_grow h hn hn2 (by omega) (by omega) hb hv).mono ?_
      rintro e w' ⟨a', c', rfl, r, k⟩
      exact ⟨a', c', rfl, r, below_grw k⟩
end Go.Proofs.Ytdnkmjafkpnliaa
