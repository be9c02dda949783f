/-
  What the law of a full queue (QueueFull) does.
-/
import Derived.Test.YtbgolkkfpajkdaaAwake
namespace Go.Proofs.Ytbgolkkfpajkdaa
open Go.RowKit Go.Maps

/-- So many items behind one another, with one key. -/
def runX (f k : Int) (n : Nat) : List Pr := (List.range n).map (fun (i : Nat) => (f + (i : Int), k))
theorem runX_len (f k : Int) (n : Nat) : (runX f k n).length = n := by simp [runX]
theorem mem_runX {f k : Int} {n : Nat} {p : Pr} : p ∈ runX f k n ↔ ∃ i : Nat, i < n ∧ p = (f + (i : Int), k) := by
  unfold runX
  rw [List.mem_map]
  constructor
  · rintro ⟨i, hi, rfl⟩; exact ⟨i, List.mem_range.1 hi, rfl⟩
  · rintro ⟨i, hi, rfl⟩; exact ⟨i, List.mem_range.2 hi, rfl⟩
theorem look_runX {f k x : Int} {n : Nat} (h : x < f ∨ f + n ≤ x) : look (runX f k n) x = none := by
  rw [look_none]
  intro p hp e
  obtain ⟨i, hi, rfl⟩ := mem_runX.1 hp
  simp at e
  omega
theorem runX_succ (f k : Int) (n : Nat) : runX f k (n + 1) = runX f k n ++ [(f + (n : Int), k)] := by unfold runX; rw [List.range_succ, List.map_append]; rfl
theorem put_runX (f k : Int) (n : Nat) (h : n < 4096) : putM (runX f k n) (f + n) k = (runX f k (n + 1), true) := by
  unfold putM
  rw [look_runX (by omega), runX_len, if_pos h, runX_succ]
theorem dis_runX (f k : Int) : ∀ n, Dis (runX f k n)
  | 0 => by simp [runX, Dis, items]
  | n + 1 => by
    rw [runX_succ]
    unfold Dis items
    rw [List.map_append, List.nodup_append]
    refine ⟨dis_runX f k n, by simp, ?_⟩
    intro a ha b hb
    obtain ⟨p, hp, rfl⟩ := List.mem_map.1 ha
    obtain ⟨i, hi, rfl⟩ := mem_runX.1 hp
    simp at hb
    subst hb
    simp
    omega
/-- .. the last one's key lowered to 0. -/
def lowX (f k : Int) : List Pr := (runX f k 4096).map (repl (f + 4095) 0)
theorem put_full (f k : Int) : putM (runX f k 4096) (f + 4096) 0 = (runX f k 4096, false) := by
  unfold putM
  rw [look_runX (by omega), runX_len, if_neg (by omega)]
theorem put_low (f k : Int) (hk : 0 < k) : putM (runX f k 4096) (f + 4095) 0 = (lowX f k, true) := by
  have : look (runX f k 4096) (f + 4095) = some (f + 4095, k) := (look_some (dis_runX f k 4096)).2 ⟨mem_runX.2 ⟨4095, by omega, rfl⟩, rfl⟩
  unfold putM
  rw [this]
  simp only [hk, if_true]
  rfl
theorem lowX_len (f k : Int) : (lowX f k).length = 4096 := by unfold lowX; rw [List.length_map, runX_len]
theorem mem_lowX {f k : Int} {p : Pr} (h : p ∈ lowX f k) : p = (f + 4095, 0) ∨ ∃ i : Nat, i < 4095 ∧ p = (f + (i : Int), k) := by
  obtain ⟨q, hq, rfl⟩ := List.mem_map.1 h
  obtain ⟨i, hi, rfl⟩ := mem_runX.1 hq
  unfold repl
  split
  · exact .inl rfl
  · rename_i hne
    simp at hne
    exact .inr ⟨i, by omega, rfl⟩
theorem dis_lowX (f k : Int) : Dis (lowX f k) := by unfold lowX Dis; rw [items_repl]; exact dis_runX f k 4096
theorem least_lowX (f k : Int) (hk : 0 < k) : Least (lowX f k) (f + 4095, 0) := by
  refine ⟨List.mem_map.2 ⟨(f + 4095, k), mem_runX.2 ⟨4095, by omega, rfl⟩, by simp [repl]⟩, fun y hy => ?_⟩
  rcases mem_lowX hy with rfl | ⟨i, hi, rfl⟩
  · exact lt_irrefl _
  · simp only [lt, decide_eq_false_iff_not]; omega
def lessX (f k : Int) : List Pr := dropM (lowX f k) (f + 4095)
theorem mem_lessX {f k : Int} {p : Pr} (h : p ∈ lessX f k) : p.1 < f + 4096 := by
  have h1 := (List.mem_filter.1 h).1
  rcases mem_lowX h1 with rfl | ⟨i, hi, rfl⟩ <;> simp <;> omega
theorem filter_len_one : ∀ {X : List Pr} {x : Int}, Dis X → (∃ p ∈ X, p.1 = x) → (dropM X x).length + 1 = X.length
  | [], _, _, h => by obtain ⟨p, hp, _⟩ := h; cases hp
  | a :: r, x, hd, h => by
    have hd2 := hd
    unfold Dis items at hd
    rw [List.map_cons, List.nodup_cons] at hd
    by_cases e : a.1 = x
    · have : dropM r x = r := by
        unfold dropM
        rw [List.filter_eq_self]
        intro q hq
        simp
        intro e2
        exact hd.1 (List.mem_map.2 ⟨q, hq, e2.trans e.symm⟩)
      have h2 : dropM (a :: r) x = dropM r x := by simp [dropM, e]
      rw [h2, this]; simp
    · have h2 : dropM (a :: r) x = a :: dropM r x := by simp [dropM, e]
      obtain ⟨p, hp, hpx⟩ := h
      have hpr : p ∈ r := by
        rcases List.mem_cons.1 hp with rfl | h'
        · exact absurd hpx e
        · exact h'
      have := filter_len_one (X := r) (x := x) hd.2 ⟨p, hpr, hpx⟩
      rw [h2]; simp; omega
theorem lessX_len (f k : Int) (hk : 0 < k) : (lessX f k).length = 4095 := by
  have := filter_len_one (dis_lowX f k) ⟨_, (least_lowX f k hk).1, rfl⟩
  rw [lowX_len] at this
  have h2 : (dropM (lowX f k) (f + 4095)).length + 1 = 4096 := this
  unfold lessX
  omega
theorem put_less (f k : Int) (hk : 0 < k) : putM (lessX f k) (f + 4096) 1 = (lessX f k ++ [(f + 4096, 1)], true) := by
  have : look (lessX f k) (f + 4096) = none := look_none.2 (fun p hp => by have := mem_lessX hp; omega)
  unfold putM
  rw [this, lessX_len f k hk, if_pos (by omega)]
theorem put_again (f k : Int) (hk : 0 < k) : putM (lessX f k ++ [(f + 4096, 1)]) (f + 5000) 1 = (lessX f k ++ [(f + 4096, 1)], false) := by
  have : look (lessX f k ++ [(f + 4096, 1)]) (f + 5000) = none := look_none.2 (fun p hp => by
    rcases List.mem_append.1 hp with h | h
    · have := mem_lessX h; omega
    · simp at h; subst h; simp)
  unfold putM
  rw [this, if_neg (by simp [lessX_len f k hk])]

set_option maxRecDepth 100000 in
set_option maxHeartbeats 1600000 in
theorem full_any (x y : Int) (w : World) : Calls Try.prog 5 #[.int .i64 x, .int .i64 y] w fun e w' => e = .returned (.bool true) ∧ Below w.heap.size w w' := by
  obtain ⟨B, hB⟩ : ∃ B, w.heap.size = B := ⟨_, rfl⟩
  have HA := hide (awake_any w)
  rw [hB] at HA ⊢
  have HB := hide hB
  clear hB
  go_enter Try.func5, Try.ntmps5
  go_wp2_with (first | (go_at_call 8; refine HA.out.mono ?_; rintro e w1 ⟨rfl, hb1⟩; have H1 := hide (And.intro hb1 (qb_new (base := B) w1 (Nat.le_trans (Nat.le_of_eq HB.out.symm) hb1.size))); clear hb1) | (go_at_call 9; refine H1.out.2.mono ?_; rintro e w2 ⟨rfl, hq, hb⟩; have H2 := hide (And.intro hq (H1.out.1.trans (hb.mono (Nat.le_trans (Nat.le_of_eq HB.out.symm) H1.out.1.size)))); clear hq hb))
  have f1 := Int.tmod_lt_of_pos x (show (0 : Int) < 1000000 by decide)
  have f2 : -1000000 < x.tmod 1000000 := by
    have := Int.lt_tmod_of_pos x (show (0 : Int) < 1000000 by decide)
    omega
  have m1 := Int.tmod_lt_of_pos y (show (0 : Int) < 5 by decide)
  have m2 : -5 < y.tmod 5 := by
    have := Int.lt_tmod_of_pos y (show (0 : Int) < 5 by decide)
    omega
  generalize x.tmod 1000000 = f at f1 f2 ⊢
  obtain ⟨m, hm⟩ : ∃ m, y.tmod 5 = m := ⟨_, rfl⟩
  rw [hm] at m1 m2
  obtain ⟨Q, hQ⟩ : ∃ Q, w1.heap.size = Q := ⟨_, rfl⟩
  rw [hQ] at H2 ⊢
  clear hQ H1 HA
  have HBs := hide (Nat.le_of_eq HB.out.symm)
  go_loopw [6] (fun i wr => ∃ k : Nat, k ≤ 4096 ∧ i = .int .i64 k ∧ Hid (QB B wr Q (runX f (10 + m) k) ∧ Below B w wr)) (fun i _ => 4096 - (intOf i).toNat)
  case atStart => exact ⟨0, by omega, rfl, H2.out⟩
  case round =>
    obtain ⟨k, hk, rfl, HR⟩ := hrel
    by_cases hlt : k < 4096
    · have hki : (k : Int) < 4096 := by omega
      have HP := hide (qb_put HR.out.1 (Nat.le_trans HBs.out HR.out.2.size) (f + (k : Int)) (10 + m) ⟨by omega, by omega⟩ ⟨by omega, by omega⟩ (put_runX f (10 + m) k hlt))
      go_wp2_with (go_at_call 16; refine HP.out.mono ?_; rintro e w3 ⟨rfl, hq3, hb3⟩)
      go_roundw
      case rel => exact ⟨k + 1, by omega, by go_num, hq3, HR.out.2.trans hb3⟩
      case measure => simp [intOf]; omega
    · obtain rfl : k = 4096 := by omega
      have hm0 : 0 < 10 + m := by omega
      have HP1 := hide (qb_put HR.out.1 (Nat.le_trans HBs.out HR.out.2.size) (f + 4096) 0 ⟨by omega, by omega⟩ ⟨by omega, by omega⟩ (put_full f (10 + m)))
      have HP2 : Hid (∀ wr, QB B wr Q (runX f (10 + m) 4096) → B ≤ wr.heap.size → Calls Try.prog 16 #[.pointer (some ⟨Q, 0, none⟩), .int .i64 (f + 4095), .int .i64 0] wr fun e w' => e = .returned (.bool true) ∧ QB B w' Q (lowX f (10 + m)) ∧ Below B wr w') := fun wr h1 h2 => qb_put h1 h2 (f + 4095) 0 ⟨by omega, by omega⟩ ⟨by omega, by omega⟩ (put_low f (10 + m) hm0)
      have HP3 : Hid (∀ wr, QB B wr Q (lessX f (10 + m)) → B ≤ wr.heap.size → Calls Try.prog 16 #[.pointer (some ⟨Q, 0, none⟩), .int .i64 (f + 4096), .int .i64 1] wr fun e w' => e = .returned (.bool true) ∧ QB B w' Q (lessX f (10 + m) ++ [(f + 4096, 1)]) ∧ Below B wr w') := fun wr h1 h2 => qb_put h1 h2 (f + 4096) 1 ⟨by omega, by omega⟩ ⟨by omega, by omega⟩ (put_less f (10 + m) hm0)
      have HP4 : Hid (∀ wr, QB B wr Q (lessX f (10 + m) ++ [(f + 4096, 1)]) → B ≤ wr.heap.size → Calls Try.prog 16 #[.pointer (some ⟨Q, 0, none⟩), .int .i64 (f + 5000), .int .i64 1] wr fun e w' => e = .returned (.bool false) ∧ QB B w' Q (lessX f (10 + m) ++ [(f + 4096, 1)]) ∧ Below B wr w') := fun wr h1 h2 => qb_put h1 h2 (f + 5000) 1 ⟨by omega, by omega⟩ ⟨by omega, by omega⟩ (put_again f (10 + m) hm0)
      have HT : Hid (∀ wr, QB B wr Q (lowX f (10 + m)) → B ≤ wr.heap.size → Calls Try.prog 10 #[.pointer (some ⟨Q, 0, none⟩)] wr fun e w' => e = .returned (.tuple #[.int .i64 (f + 4095), .int .i64 0, .bool true]) ∧ QB B w' Q (lessX f (10 + m)) ∧ Below B wr w') := fun wr h1 h2 => qb_take h1 h2 (f + 4095, 0) (least_lowX f (10 + m) hm0)
      have HL : Hid (∀ wr, QB B wr Q (lowX f (10 + m)) → Calls Try.prog 18 #[.pointer (some ⟨Q, 0, none⟩)] wr fun e w' => e = .returned (.int .i64 4096) ∧ w' = wr) := fun wr h1 => by have := qb_len h1; rw [lowX_len] at this; exact this
      clear hm hm0
      go_wp2_with (first | (go_at_call 16; refine (HP4.out _ H6.out.1 (Nat.le_trans HBs.out H6.out.2.size)).mono ?_; rintro e w7 ⟨rfl, hq7, hb7⟩; have H7 := hide (H6.out.2.trans hb7); clear hq7 hb7) | (go_at_call 16; refine (HP3.out _ H5.out.1 (Nat.le_trans HBs.out H5.out.2.size)).mono ?_; rintro e w6 ⟨rfl, hq6, hb6⟩; have H6 := hide (And.intro hq6 (H5.out.2.trans hb6)); clear hq6 hb6) | (go_at_call 16; refine (HP2.out _ H3.out.1 (Nat.le_trans HBs.out H3.out.2.size)).mono ?_; rintro e w4 ⟨rfl, hq4, hb4⟩; have H4 := hide (And.intro hq4 (H3.out.2.trans hb4)); clear hq4 hb4) | (go_at_call 16; refine HP1.out.mono ?_; rintro e w3 ⟨rfl, hq3, hb3⟩; have H3 := hide (And.intro hq3 (HR.out.2.trans hb3)); clear hq3 hb3) | (go_at_call 18; refine (HL.out _ H4.out.1).mono ?_; rintro e w5 ⟨rfl, rfl⟩) | (go_at_call 10; refine (HT.out _ H4.out.1 (Nat.le_trans HBs.out H4.out.2.size)).mono ?_; rintro e w5 ⟨rfl, hq5, hb5⟩; have H5 := hide (And.intro hq5 (H4.out.2.trans hb5)); clear hq5 hb5))
      go_ret
      exact ⟨rfl, H7.out⟩
end Go.Proofs.Ytbgolkkfpajkdaa
