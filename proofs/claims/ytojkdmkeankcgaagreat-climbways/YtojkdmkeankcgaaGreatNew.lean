/-
  What the call of New does.
-/
import Derived.Test.YtojkdmkeankcgaaGreatOwn
import Derived.Test.YtojkdmkeankcgaaGreatGather
namespace Go.Proofs.YtojkdmkeankcgaaGreat
open Go.RowKit Go.Sort
attribute [local go_sem ↓] Go.wp_at_zero Go.wp_at_succ

def legsM (mt : Arc → Int) (A : List Arc) : List Leg := (A.filter fun a => decide (a.1 ≠ a.2.1)).map fun a => (a.1, a.2.1, mt a)
theorem legsM_snoc (mt : Arc → Int) (A : List Arc) (k : Nat) (h : k < A.length) : legsM mt (A.take (k + 1)) = if (A[k]!).1 = (A[k]!).2.1 then legsM mt (A.take k) else legsM mt (A.take k) ++ [((A[k]!).1, (A[k]!).2.1, mt A[k]!)] := by
  rw [List.take_succ_eq_append_getElem h, getElem!_pos A k h]
  unfold legsM
  rw [List.filter_append, List.map_append]
  by_cases e : (A[k]).1 = (A[k]).2.1
  · rw [if_pos e]; simp [e]
  · rw [if_neg e]; simp [e]
theorem legsM_le (mt : Arc → Int) (A : List Arc) : (legsM mt A).length ≤ A.length := by
  unfold legsM
  rw [List.length_map]
  exact List.length_filter_le _ _
theorem checkFrom_ok (n : Int) : ∀ (A : List Arc) (i : Nat), (checkFrom n i A).2 = 0 → ∀ x ∈ A, placeOk n x = true ∧ numOk x = true
  | [], _, _, x, h => by simp at h
  | a :: r, i, h, x, hx => by
    unfold checkFrom at h
    split at h
    · simp at h
    · rename_i h1
      split at h
      · simp at h
      · rename_i h2
        rcases List.mem_cons.1 hx with rfl | hx
        · exact ⟨by simpa using h1, by simpa using h2⟩
        · exact checkFrom_ok n r (i + 1) h x hx
theorem checkM_ok {n : Int} {A : List Arc} (h : (checkM n A).2 = 0) : (1 ≤ n ∧ n ≤ 32) ∧ A.length ≤ 256 ∧ ∀ x ∈ A, placeOk n x = true ∧ numOk x = true := by
  unfold checkM at h
  split at h
  · simp at h
  · rename_i h1
    exact ⟨by omega, by omega, checkFrom_ok n A 0 h⟩
theorem legs_in {n : Nat} {mt : Arc → Int} {A : List Arc} (h : ∀ x ∈ A, placeOk (n : Int) x = true) : ∀ l ∈ legsM mt A, 0 ≤ l.1 ∧ l.1 < n ∧ 0 ≤ l.2.1 ∧ l.2.1 < n := by
  intro l hl
  unfold legsM at hl
  rw [List.mem_map] at hl
  obtain ⟨x, hx, rfl⟩ := hl
  have := of_decide_eq_true (h x (List.mem_filter.1 hx).1)
  simp only
  omega
theorem info61 : (Tryz.prog.info? 102).map (fun i => (i.zero, i.size, i.bytes)) = some (some (.agg #[.int .i64 0, .int .i64 0, .int .i64 0]), 3, 24) := by kernel_rfl
/-- A metric: what it answers of an arc; it lays the arc into a block of its own. -/
def Metric (f : FuncId) (mt : Arc → Int) (A : List Arc) : Prop := ∀ x ∈ A, ∀ w, Calls Tryz.prog f #[.agg #[.int .i64 x.1, .int .i64 x.2.1, .int .i64 x.2.2.1, .int .i64 x.2.2.2]] w fun e w' => e = .returned (.int .i64 (mt x)) ∧ w' = w.alloc (.cells #[.int .i64 x.1, .int .i64 x.2.1, .int .i64 x.2.2.1, .int .i64 x.2.2.2] 54)
theorem own_nil_shape {w : World} {B m : Nat} {v : Value} {xs : List Value} (h : w.ownsRow B 102 3 v m xs) : ∃ a c, v = .slice a m c := by
  rcases h.2 with ⟨e, e2⟩ | ⟨g, cap, cur, e, _⟩
  · exact ⟨none, 0, by rw [e, e2]⟩
  · exact ⟨_, cap, e⟩
/-- One leg more. -/
theorem new_step {B2 : Nat} {w2 wr W1 w3 : World} {L : List Leg} {v : Value} {g cap : Nat} (l : Leg) (o1 o2 : Obj) (h : wr.ownsRow B2 102 3 v L.length (L.flatMap encL)) (hb : Below B2 w2 wr) (hB : B2 ≤ wr.heap.size) (hW1 : W1 = wr.alloc o1)
    (hown : w3.ownsRow B2 102 3 (.slice (some ⟨g, 0, none⟩) (L.length + 1) cap) (L.length + 1) (L.flatMap encL ++ [.int .i64 l.1, .int .i64 l.2.1, .int .i64 l.2.2])) (hg : ((W1.alloc o2).alloc (.cells #[.int .i64 l.1, .int .i64 l.2.1, .int .i64 l.2.2] 102)).drew.grownBy w3 v.ownBlock) :
    w3.ownsRow B2 102 3 (.slice (some ⟨g, 0, none⟩) (L.length + 1) cap) (L ++ [l]).length ((L ++ [l]).flatMap encL) ∧ Below B2 w2 w3 := by
  subst hW1
  refine ⟨?_, ?_⟩
  · rw [List.flatMap_append, List.length_append]
    exact hown
  · have h1 : Below B2 w2 (((wr.alloc o1).alloc o2).alloc (.cells #[.int .i64 l.1, .int .i64 l.2.1, .int .i64 l.2.2] 102)).drew := (((hb.alloc hB o1).alloc (by simp; omega) o2).alloc (by simp; omega) _).drew
    exact h1.grown hg (by show B2 ≤ (((wr.alloc o1).alloc o2).alloc _).heap.size; simp; omega) fun k hk => (h.lt k hk).1
set_option maxRecDepth 100000 in
set_option maxHeartbeats 1600000 in
theorem new_bad (n : Int) (a : Option Addr) (m c : Nat) (A : List Arc) (mv : Value) (w : World) (h : ArcsAt w a m A) (he : (checkM n A).2 ≠ 0) :
    Calls Tryz.prog 26 #[.agg #[.int .i64 n, .slice a m c], mv] w fun e w' => e = .returned (.tuple #[.pointer none, .int .i64 (checkM n A).2]) ∧ Below w.heap.size w w' := by
  have HA0 : Hid (ArcsAt (w.alloc (.cells #[.int .i64 n, .slice a m c] 24)) a m A) := h.later (Nat.le_refl _) ((Below.refl _ _).alloc (Nat.le_refl _) _)
  have HC := hide (check_any n a m c A _ HA0.out)
  generalize checkM n A = ck at HC he ⊢
  obtain ⟨ci, ce⟩ := ck
  simp only at HC he ⊢
  have hz : (ce != 0) = true := by simp [he]
  replace he := hide he
  have HB0 : Hid (Below w.heap.size w (w.alloc (.cells #[.int .i64 n, .slice a m c] 24))) := (Below.refl _ _).alloc (Nat.le_refl _) _
  clear h HA0
  go_enter Tryz.func26, Tryz.ntmps26
  go_wp2_with (go_at_call 56; refine HC.out.mono ?_; rintro e w1 ⟨rfl, h1⟩; have H1 : Hid (Below w.heap.size w w1) := HB0.out.trans (h1.mono (by simp)); clear h1)
  go_ret2
  exact ⟨rfl, H1.out⟩
set_option maxRecDepth 100000 in
set_option maxHeartbeats 6400000 in
theorem new_good (n : Nat) (a : Option Addr) (m c : Nat) (A : List Arc) (f : FuncId) (mt : Arc → Int) (w : World) (h : ArcsAt w a m A) (he : (checkM n A).2 = 0) (hf : Metric f mt A) (eg : ∀ args w, (callFunc f args).run Tryz.prog w = .ok (.enter f args) w) :
    Calls Tryz.prog 26 #[.agg #[.int .i64 n, .slice a m c], .func (.func f) #[] #[]] w fun e w' => ∃ g, e = .returned (.tuple #[.pointer (some ⟨g, 0, none⟩), .int .i64 0]) ∧ GAt w' g n (tab (legsM mt A)) ∧ Below w.heap.size w w' ∧ w.heap.size ≤ g := by
  obtain ⟨hn, hlA, hok⟩ := checkM_ok he
  have HA := hide h
  have hlm := h.len
  have HA0 : Hid (ArcsAt (w.alloc (.cells #[.int .i64 n, .slice a m c] 24)) a m A) := h.later (Nat.le_refl _) ((Below.refl _ _).alloc (Nat.le_refl _) _)
  have HC := hide (check_any n a m c A _ HA0.out)
  have HL : Hid (∀ l ∈ legsM mt A, 0 ≤ l.1 ∧ l.1 < n ∧ 0 ≤ l.2.1 ∧ l.2.1 < n) := legs_in (fun x hx => (hok x hx).1)
  have HLL := hide (legsM_le mt A)
  have HMT := hide hf
  have HNN : Hid (1 ≤ n ∧ n ≤ 32) := by show _ ∧ _; omega
  have HOK := hide hok
  rw [he] at HC
  generalize (checkM n A).1 = ci at HC
  have HB0 : Hid (Below w.heap.size w (w.alloc (.cells #[.int .i64 n, .slice a m c] 24))) := (Below.refl _ _).alloc (Nat.le_refl _) _
  have HN0 := hide (heap_alloc_new w (.cells #[.int .i64 n, .slice a m c] 24))
  have HS0 : Hid ((w.alloc (.cells #[.int .i64 n, .slice a m c] 24)).heap.size = w.heap.size + 1) := by show _ = _; simp
  obtain ⟨i0, hi0, hz0, hz1, hz2⟩ := info_parts info61
  clear h hf hok he
  go_enter Tryz.func26, Tryz.ntmps26
  go_wp2_with (first | (go_at_call 56; refine HC.out.mono ?_; rintro e w1 ⟨rfl, h1⟩; have H1 := hide h1; clear h1; have k1 : w1.heap[w.heap.size]? = some (.cells #[.int .i64 n, .slice a m c] 24 (0, 0)) := (H1.out.block w.heap.size (by rw [HS0.out]; omega)).trans HN0.out; have K1 := hide k1; have c1 := cell_of_row w1 w.heap.size 1 _ _ _ k1; simp only [List.getElem?_toArray, List.getElem?_cons_succ, List.getElem?_cons_zero] at c1; clear k1; have HA1 : Hid (ArcsAt w1 a m A) := HA0.out.later (Nat.le_refl _) H1.out) | (go_at_call 57; refine (clone_arcs a m c A _ HA1.out (by omega)).mono ?_; rintro e w2 ⟨a2, c2, rfl, h2, h3⟩; have H2 := hide (And.intro h2 h3); clear h2 h3))
  have HB2 : Hid (Below w.heap.size w w2) := (HB0.out.trans (H1.out.mono (by rw [HS0.out]; omega))).trans (H2.out.2.mono (by have := H1.out.size; rw [HS0.out] at this; omega))
  have HK2 : Hid (w2.heap[w.heap.size]? = some (.cells #[.int .i64 n, .slice a m c] 24 (0, 0)) ∧ w.heap.size < w2.heap.size) := by
    have hz : w.heap.size < w1.heap.size := by have := H1.out.size; rw [HS0.out] at this; omega
    exact ⟨(H2.out.2.block _ hz).trans K1.out, Nat.lt_of_lt_of_le hz H2.out.2.size⟩
  have HA2 : Hid (ArcsAt w2 a2 m A) := H2.out.1
  clear H1 H2 K1 c1 HA1 HN0 HS0 HB0 HA0 HC HA
  obtain ⟨B, hB⟩ : ∃ B, w.heap.size = B := ⟨_, rfl⟩
  rw [hB] at HB2 HK2 ⊢
  have HBB := hide hB
  clear hB
  obtain ⟨B2, hB2⟩ : ∃ B2, w2.heap.size = B2 := ⟨_, rfl⟩
  have HBB2 := hide hB2
  clear hB2
  go_loopw [8, 23] (fun vl vi wr => ∃ k : Nat, vi = .int .i64 k ∧ k ≤ m ∧ Hid (Below B2 w2 wr ∧ wr.ownsRow B2 102 3 vl (legsM mt (A.take k)).length ((legsM mt (A.take k)).flatMap encL))) (fun _ vi _ => m - (intOf vi).toNat)
  case atStart => exact ⟨0, rfl, Nat.zero_le _, Below.refl _ _, World.ownsRow_nil _ _ _ _⟩
  case round =>
    rename_i vl _ _
    obtain ⟨k, rfl, hk, HR⟩ := hrel
    obtain ⟨va, vc, hvl⟩ := own_nil_shape HR.out.2
    subst hvl
    have hBr : B2 ≤ wr.heap.size := by rw [← HBB2.out]; exact HR.out.1.size
    by_cases hlt : k < m
    · obtain ⟨b, off, rfl, d0, d1, d2, d3⟩ := (HA2.out.later (Nat.le_of_eq HBB2.out) HR.out.1).cell k hlt
      have HLS := hide (legsM_snoc mt A k (by omega))
      have hmem : A[k]! ∈ A := by rw [getElem!_pos A k (by omega)]; exact List.getElem_mem _
      have HMX := hide (HMT.out A[k]! hmem)
      obtain ⟨x, hx⟩ : ∃ x, A[k]! = x := ⟨_, rfl⟩
      rw [hx] at d0 d1 d2 d3 HLS HMX
      obtain ⟨x1, x2, x3, x4⟩ := x
      simp only at d0 d1 d2 d3 HLS HMX
      clear hx hmem
      have i1 : (k : Int) < (m : Int) := by omega
      by_cases hself : x1 = x2
      · have e : Hid (legsM mt (A.take (k + 1)) = legsM mt (A.take k)) := by show _ = _; rw [HLS.out, if_pos hself]
        have hq : (x1 != x2) = false := by simp [hself]
        replace hself := hide hself
        have HE : Hid (Below B2 w2 (wr.alloc (.cells #[.int .i64 x1, .int .i64 x2, .int .i64 x3, .int .i64 x4] 54)) ∧ (wr.alloc (.cells #[.int .i64 x1, .int .i64 x2, .int .i64 x3, .int .i64 x4] 54)).ownsRow B2 102 3 (.slice va (legsM mt (A.take k)).length vc) (legsM mt (A.take k)).length ((legsM mt (A.take k)).flatMap encL)) := ⟨HR.out.1.alloc hBr _, HR.out.2.alloc _⟩
        clear HR HMX HLS
        go_wp2
        go_roundw
        case rel => exact ⟨k + 1, by go_num, by omega, by show _ ∧ _; rw [e.out]; exact HE.out⟩
        case measure => simp [intOf]; omega
      · have e : Hid (legsM mt (A.take (k + 1)) = legsM mt (A.take k) ++ [(x1, x2, mt (x1, x2, x3, x4))]) := by show _ = _; rw [HLS.out, if_neg hself]
        have hq : (x1 != x2) = true := by simp [hself]
        replace hself := hide hself
        have hll : (legsM mt (A.take k)).length ≤ 256 := by have := legsM_le mt (A.take k); rw [List.length_take] at this; omega
        generalize mt (x1, x2, x3, x4) = y at HMX e
        generalize legsM mt (A.take k) = L at HR e hll ⊢
        clear HLS
        have hsz : (wr.alloc (.cells #[.int .i64 x1, .int .i64 x2, .int .i64 x3, .int .i64 x4] 54)).heap.size = wr.heap.size + 1 := by simp
        have hnew := heap_alloc_new wr (.cells #[.int .i64 x1, .int .i64 x2, .int .i64 x3, .int .i64 x4] 54)
        have HOW : Hid ((((wr.alloc (.cells #[.int .i64 x1, .int .i64 x2, .int .i64 x3, .int .i64 x4] 54)).alloc (.cells #[.int .i64 x1, .int .i64 x2, .int .i64 x3, .int .i64 x4] 54)).alloc (.cells #[.int .i64 x1, .int .i64 x2, .int .i64 y] 102)).drew.ownsRow B2 102 3 (.slice va L.length vc) L.length (L.flatMap encL)) := (((HR.out.2.alloc _).alloc _).alloc _).drew
        have HW1 : Hid (wr.alloc (.cells #[.int .i64 x1, .int .i64 x2, .int .i64 x3, .int .i64 x4] 54) = wr.alloc (.cells #[.int .i64 x1, .int .i64 x2, .int .i64 x3, .int .i64 x4] 54)) := rfl
        go_wp2
        generalize hW1 : wr.alloc (.cells #[.int .i64 x1, .int .i64 x2, .int .i64 x3, .int .i64 x4] 54) = W1 at hsz hnew HOW ⊢
        have HWE := hide hW1
        have b0 := cell_of_row W1 wr.heap.size 0 _ _ _ hnew
        have b1 := cell_of_row W1 wr.heap.size 1 _ _ _ hnew
        have b2 := cell_of_row W1 wr.heap.size 2 _ _ _ hnew
        have b3 := cell_of_row W1 wr.heap.size 3 _ _ _ hnew
        simp only [List.getElem?_toArray, List.getElem?_cons_succ, List.getElem?_cons_zero] at b0 b1 b2 b3
        have HZ := hide hsz
        clear hW1 hnew d0 d1 d2 d3 HW1 hsz
        have hXB : B2 ≤ wr.heap.size := hBr
        obtain ⟨X, hX⟩ : ∃ X, wr.heap.size = X := ⟨_, rfl⟩
        rw [hX] at b0 b1 b2 b3 HZ hXB ⊢
        have HXX := hide hX
        clear hX hBr
        have hW1z : X < W1.heap.size := by have := HZ.out; omega
        have hN1 : ((W1.alloc (.cells #[.int .i64 x1, .int .i64 x2, .int .i64 x3, .int .i64 x4] 54)).alloc (.cells #[.int .i64 x1, .int .i64 x2, .int .i64 y] 102)).heap[W1.heap.size + 1]? = some (.cells #[.int .i64 x1, .int .i64 x2, .int .i64 y] 102 (0, 0)) := by
          have := heap_alloc_new (W1.alloc (.cells #[.int .i64 x1, .int .i64 x2, .int .i64 x3, .int .i64 x4] 54)) (.cells #[.int .i64 x1, .int .i64 x2, .int .i64 y] 102)
          rw [show (W1.alloc (.cells #[.int .i64 x1, .int .i64 x2, .int .i64 x3, .int .i64 x4] 54)).heap.size = W1.heap.size + 1 by simp] at this
          exact this
        have HNW : Hid (∀ j u, [Value.int .i64 x1, Value.int .i64 x2, Value.int .i64 y][j]? = some u → ((W1.alloc (.cells #[.int .i64 x1, .int .i64 x2, .int .i64 x3, .int .i64 x4] 54)).alloc (.cells #[.int .i64 x1, .int .i64 x2, .int .i64 y] 102)).drew.cell? ((⟨W1.heap.size + 1, 0, none⟩ : Addr).add j) = some u) := World.news_of_block (cs := #[.int .i64 x1, .int .i64 x2, .int .i64 y]) (t := 102) (fr := (0, 0)) hN1
        have HML : Hid (L.length + 1 ≤ maxLen) := by show _ ≤ _; unfold maxLen; omega
        have HBY : Hid ((L.length + 1) * 24 ≤ 140737488355328) := by show _ ≤ _; omega
        have HOL : Hid (B2 ≤ ((W1.alloc (.cells #[.int .i64 x1, .int .i64 x2, .int .i64 x3, .int .i64 x4] 54)).alloc (.cells #[.int .i64 x1, .int .i64 x2, .int .i64 y] 102)).drew.heap.size) := by show B2 ≤ ((W1.alloc _).alloc _).heap.size; simp; omega
        have HSZ : Hid (((W1.alloc (.cells #[.int .i64 x1, .int .i64 x2, .int .i64 x3, .int .i64 x4] 54)).alloc (.cells #[.int .i64 x1, .int .i64 x2, .int .i64 y] 102)).drew.heap.size = W1.heap.size + 2) := by show ((W1.alloc _).alloc _).heap.size = _; simp
        have HX4 : Hid (∀ w3 : World, ((W1.alloc (.cells #[.int .i64 x1, .int .i64 x2, .int .i64 x3, .int .i64 x4] 54)).alloc (.cells #[.int .i64 x1, .int .i64 x2, .int .i64 y] 102)).drew.grownBy w3 (Value.slice va L.length vc).ownBlock → ∀ j u, W1.cell? ⟨X, j, none⟩ = some u → w3.cell? ⟨X, j, none⟩ = some u) := fun w3 hg j u hu => by
          have hne : (Value.slice va L.length vc).ownBlock ≠ some X := fun e => by
            obtain ⟨cur, hcur⟩ := own_tag HR.out.2 e
            have := (HR.out.2.lt X e).2
            rw [HXX.out] at this
            omega
          rw [hg.cell_far ⟨X, j, none⟩ (by show X < ((W1.alloc _).alloc _).heap.size; simp; omega) (Ne.symm hne)]
          show ((W1.alloc _).alloc _).cell? _ = _
          rw [World.cell?_alloc_lt _ _ _ (by show X < _; simp; omega), World.cell?_alloc_lt _ _ _ (by show X < _; omega)]
          exact hu
        have HB4 := hide (And.intro b0 (And.intro b1 (And.intro b2 b3)))
        clear hN1
        first | (go_region_held3 (fun w' => w'.cell? ⟨X, 0, none⟩ = some (.int .i64 x1) ∧ w'.cell? ⟨X, 1, none⟩ = some (.int .i64 x2) ∧ w'.cell? ⟨X, 2, none⟩ = some (.int .i64 x3) ∧ w'.cell? ⟨X, 3, none⟩ = some (.int .i64 x4)) (go_keep) (first | (go_at_fn f; refine (HMX.out _).mono ?_; rintro e w' ⟨rfl, rfl⟩) | (refine step_append_lies _ (by rfl) (.tmp 32) (.tmp 41) 98 (by rfl) B2 102 i0 (.agg #[.int .i64 0, .int .i64 0, .int .i64 0]) 3 24 Tryz.underlying98 hi0 hz0 hz1 hz2 rfl (by decide) (.slice va L.length vc) L.length (L.flatMap encL) (by rfl) HOW.out ⟨W1.heap.size + 1, 0, none⟩ 1 1 [.int .i64 x1, .int .i64 x2, .int .i64 y] (by rfl) (by rfl) HNW.out (by simp [Value.oneCell']) (by decide) HML.out HBY.out HOL.out (W1.heap.size + 2) HSZ.out ?_; intro gg cap w3 hown1 hgrow hat hlt3; have t0 := HX4.out w3 hgrow 0 _ HB4.out.1; have t1 := HX4.out w3 hgrow 1 _ HB4.out.2.1; have t2 := HX4.out w3 hgrow 2 _ HB4.out.2.2.1; have t3 := HX4.out w3 hgrow 3 _ HB4.out.2.2.2))) | fail
        have HST := hide (new_step (x1, x2, y) _ _ HR.out.2 HR.out.1 (by rw [HXX.out]; exact hXB) HWE.out.symm hown1 hgrow)
        clear hown1 hgrow hat t0 t1 t2 t3
        go_wp2
        go_roundw
        case rel => exact ⟨k + 1, by go_num, by omega, by show _ ∧ _; rw [e.out]; exact ⟨HST.out.2, HST.out.1⟩⟩
        case measure => simp [intOf]; omega
    · have : k = m := by omega
      subst this
      have hall : A.take k = A := by rw [← hlm]; exact List.take_length
      have HG := hide (gather_any B2 n HNN.out (legsM mt A) HL.out (by have := HLL.out; omega) (.slice va (legsM mt (A.take k)).length vc) wr (by have := HR.out.2; rw [hall] at this ⊢; exact this) hBr)
      have kB : wr.heap[B]? = some (.cells #[.int .i64 n, .slice a k c] 24 (0, 0)) := (HR.out.1.block B (by rw [← HBB2.out]; exact HK2.out.2)).trans HK2.out.1
      have cB := cell_of_row wr B 0 _ _ _ kB
      simp only [List.getElem?_toArray, List.getElem?_cons_zero] at cB
      clear kB hall
      go_wp2_with (go_at_call 53; refine HG.out.mono ?_; rintro e w4 ⟨g, rfl, h4, h5, h6⟩; have H4 := hide (And.intro h4 (And.intro h5 h6)); clear h4 h5 h6)
      go_ret2
      have hle : B ≤ B2 := by have := HK2.out.2; have := HBB2.out; omega
      rw [HBB.out]
      exact ⟨g, rfl, H4.out.1, HB2.out.trans ((HR.out.1.mono hle).trans (H4.out.2.1.mono hle)), by have := H4.out.2.2; omega⟩
end Go.Proofs.YtojkdmkeankcgaaGreat
