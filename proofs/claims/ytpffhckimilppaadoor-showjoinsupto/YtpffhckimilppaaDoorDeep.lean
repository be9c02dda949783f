/-
  What show.deep does of a tree whose kids stand ahead.
-/
import Derived.Test.YtpffhckimilppaaDoorJoined
import Derived.BigRegion
namespace Go.Proofs.YtpffhckimilppaaDoor
open Go.RowKit

theorem getD_left {A C : List Int} {j : Nat} (h : j < A.length) : (A ++ C).getD j 0 = A.getD j 0 := by
  simp only [List.getD_eq_getElem?_getD, List.getElem?_append_left h]
theorem getD_out {A : List Int} {j : Nat} (h : A.length ≤ j) : A.getD j 0 = 0 := by
  simp only [List.getD_eq_getElem?_getD, List.getElem?_eq_none h, Option.getD_none]
/-- The greatest of these kids' depths. -/
def dpK (ds : List Int) (ks : List Int) : Int := ks.foldl (fun m k => max m (ds.getD k.toNat 0)) 0
def dpV1 (ds : List Int) (x : VI) : Int := if x.kind = 5 ∨ x.kind = 6 then dpK ds x.kids + 1 else 0
/-- The depths of a tree's values. -/
def dpT (T : List VI) : List Int := T.foldl (fun ds x => ds ++ [dpV1 ds x]) []
theorem dpT_next (A : List VI) (x : VI) : dpT (A ++ [x]) = dpT A ++ [dpV1 (dpT A) x] := by unfold dpT; rw [List.foldl_append]; rfl
theorem dpK_next (ds A : List Int) (k : Int) : dpK ds (A ++ [k]) = max (dpK ds A) (ds.getD k.toNat 0) := by unfold dpK; rw [List.foldl_append]; rfl
theorem dpK_le {ds : List Int} {n : Int} (h : ∀ j, 0 ≤ ds.getD j 0 ∧ ds.getD j 0 ≤ n) (ks : List Int) : ∀ m : Int, 0 ≤ m ∧ m ≤ n → 0 ≤ ks.foldl (fun m k => max m (ds.getD k.toNat 0)) m ∧ ks.foldl (fun m k => max m (ds.getD k.toNat 0)) m ≤ n := by
  induction ks with
  | nil => intro m hm; exact hm
  | cons k ks ih => intro m hm; rw [List.foldl_cons]; exact ih _ (by have := h k.toNat; omega)
theorem dpT_all (A : List VI) : (dpT A).length = A.length ∧ ∀ j, 0 ≤ (dpT A).getD j 0 ∧ (dpT A).getD j 0 ≤ (A.length : Int) := by
  have : ∀ R : List VI, (dpT R.reverse).length = R.length ∧ ∀ j, 0 ≤ (dpT R.reverse).getD j 0 ∧ (dpT R.reverse).getD j 0 ≤ (R.length : Int) := by
    intro R
    induction R with
    | nil => exact ⟨rfl, fun j => by simp [dpT]⟩
    | cons x R ih =>
      rw [List.reverse_cons, dpT_next]
      refine ⟨by simp [ih.1], fun j => ?_⟩
      have hx : 0 ≤ dpV1 (dpT R.reverse) x ∧ dpV1 (dpT R.reverse) x ≤ (R.length : Int) + 1 := by
        unfold dpV1
        have := dpK_le (n := (R.length : Int)) ih.2 x.kids 0 (by omega)
        unfold dpK
        split <;> omega
      by_cases hj : j < (dpT R.reverse).length
      · rw [getD_left hj]
        have := ih.2 j
        simp only [List.length_cons]; omega
      · by_cases e : j = (dpT R.reverse).length
        · subst e
          simp only [List.getD_eq_getElem?_getD, List.getElem?_append_right (Nat.le_refl _), Nat.sub_self, List.getElem?_cons_zero, Option.getD_some, List.length_cons]
          omega
        · rw [getD_out (by simp; omega)]
          simp only [List.length_cons]; omega
  have := this A.reverse
  simpa using this
def dpV (ds : List Int) : Nat → Value := fun j => .int .i64 (ds.getD j 0)
theorem dpV_set {A : List Int} {k : Nat} (hk : A.length = k) (c d : Int) (j : Nat) : (if j = k then Value.int .i64 d else dpV (A ++ [c]) j) = dpV (A ++ [d]) j := by
  subst hk
  unfold dpV
  by_cases e : j = A.length
  · subst e; simp
  · rw [if_neg e]
    congr 1
    by_cases h : j < A.length
    · rw [getD_left h, getD_left h]
    · rw [getD_out (by simp; omega), getD_out (by simp; omega)]
theorem dpV_pad {A : List Int} (j : Nat) : dpV A j = dpV (A ++ [0]) j := by
  unfold dpV
  congr 1
  by_cases h : j < A.length
  · rw [getD_left h]
  · by_cases e : j = A.length
    · subst e; simp
    · rw [getD_out (by omega), getD_out (by simp; omega)]
theorem dpV_last {A : List Int} {k : Nat} (hk : A.length = k) (c : Int) : dpV (A ++ [c]) k = .int .i64 c := by subst hk; simp [dpV]
theorem dpV_old {A : List Int} {k : Nat} (hk : k < A.length) (c : Int) : dpV (A ++ [c]) k = .int .i64 (A.getD k 0) := by
  unfold dpV
  rw [getD_left hk]
theorem InR.at {K : List (List Int)} : ∀ {i : Nat}, InR i K → ∀ {k : Nat} {ks : List Int}, K[k]? = some ks → ∀ y ∈ ks, 0 ≤ y ∧ y < ((i + k : Nat) : Int) := by
  induction K with
  | nil => intro i _ k ks h; simp at h
  | cons b K ih =>
    intro i h k ks hk y hy
    cases k with
    | zero => simp only [List.getElem?_cons_zero, Option.some.injEq] at hk; subst hk; exact h.1 y hy
    | succ k =>
      rw [List.getElem?_cons_succ] at hk
      have := ih h.2 hk y hy
      omega
theorem Cells.drew {w : World} {g n : Nat} {e : TypeId} {f : Nat → Value} (h : Cells w g n e f) : Cells w.drew g n e f := ⟨h.row⟩
theorem max_if (c d : Int) : max c d = if c < d then d else c := by split <;> omega
theorem info3 : (Tryd.prog.info? 3).map (fun i => (i.zero, i.size, i.bytes)) = some (some (.int .i64 0), 1, 8) := by kernel_rfl
theorem made_ints (n : Nat) (hn : n ≤ 10000) (w : World) : (Instr.makeSlice 40 (.int .i64 n) (.int .i64 n)).run Tryd.prog w = .ok (.slice (some ⟨w.heap.size, 0, none⟩) n n) (w.alloc (.cells (Array.replicate n (.int .i64 0)) 3)) := by
  obtain ⟨i0, hi0, hz0, hz1, hz2⟩ := info_parts info3
  have := run_makeSlice (P := Tryd.prog) w 40 3 i0 _ Tryd.underlying40 hi0 hz0 .i64 .i64 n n (by omega) (by omega) (by rw [hz1]; omega) (by rw [hz2]; omega) (by omega)
  rw [hz1] at this
  simp only [Int.toNat_natCast, Nat.mul_one] at this
  have e : madeCells (Value.int .i64 0).cells n = Array.replicate n (Value.int .i64 0) := by
    apply Array.ext
    · simp [madeCells]
    · intro i h1 h2
      simp [madeCells, Value.cells, Nat.mod_one]
  rw [e] at this
  exact this
set_option maxRecDepth 100000 in
set_option maxHeartbeats 3200000 in
theorem deep_any {T : List VI} {v : Value} {w : World} (hT : TreeAt w v T) (h1 : 0 < T.length) (hL : T.length ≤ 8192) (hin : InR 0 (T.map VI.kids)) : Calls Tryd.prog 24 #[v] w fun e w' => e = .returned (.int .i64 ((dpT T).getD (T.length - 1) 0)) ∧ Below w.heap.size w w' := by
  obtain ⟨a, ca, rfl, hl, ha⟩ := hT
  have HA : Hid (∀ i x, T[i]? = some x → ∃ g o nv kv, a = some ⟨g, o, none⟩ ∧ VAt w x nv kv ∧ ∀ j u, (aggI x nv kv)[j]? = some u → w.cell? ⟨g, o + i * 6 + j, none⟩ = some u) := ha
  clear ha
  have HIN := hide hin
  clear hin
  have r1 := made_ints T.length (by omega) w
  generalize hB : w.heap.size = B
  rw [hB] at r1
  have hc0 : Cells (w.alloc (.cells (Array.replicate T.length (.int .i64 0)) 3)) B T.length 3 (fun _ => .int .i64 0) := by rw [← hB]; exact cells_made _ _ _ _
  have hb0 : Below B w (w.alloc (.cells (Array.replicate T.length (.int .i64 0)) 3)) := (Below.refl B w).alloc (by omega) _
  generalize hw0 : w.alloc (.cells (Array.replicate T.length (.int .i64 0)) 3) = w0 at r1 hc0 hb0
  go_enter Tryd.func24, Tryd.ntmps24
  go_wp2
  go_loopw [13] (fun i wr => ∃ (k : Nat), k ≤ T.length ∧ i = .int .i64 k ∧ Cells wr B T.length 3 (dpV (dpT (T.take k))) ∧ Below B w wr) (fun i _ => T.length - (intOf i).toNat)
  case atStart => exact ⟨0, Nat.zero_le _, rfl, hc0.eq (fun j _ => by simp [dpV, dpT]), hb0⟩
  case round =>
    obtain ⟨k, hk, rfl, hcs, hbr⟩ := hrel
    by_cases hlt : k < T.length
    · obtain ⟨x, hx⟩ : ∃ x, T[k]? = some x := ⟨_, List.getElem?_eq_getElem hlt⟩
      obtain ⟨g, o, nv, kv, rfl, hva, hc⟩ := HA.out k x hx
      have hbr' : Below w.heap.size w wr := by rw [hB]; exact hbr
      obtain ⟨⟨na, nc, rfl, hnl, _⟩, ⟨ka, kc, rfl, hkl, hkk⟩⟩ := hva
      obtain ⟨c0, c1, c2, c3, c4, c5⟩ := six_cells (w := wr) (fun j u hj => (hbr'.cell (block_lt_of_cell (hc j u hj))).trans (hc j u hj))
      have hg1 : ¬ wr.heap.size = g := World.new_ne wr _ c0
      have hkl2 : x.kids.length ≤ 9223372036854775807 := by simpa using hkl
      have hBs : w.heap.size ≤ wr.heap.size := hbr.size
      have htk : T.take (k + 1) = T.take k ++ [x] := by rw [List.take_add_one, hx]; rfl
      have hall := dpT_all (T.take k)
      rw [List.length_take, Nat.min_eq_left hk] at hall
      have hkid : ∀ y ∈ x.kids, 0 ≤ y ∧ y < (k : Int) := by
        have := HIN.out.at (k := k) (ks := x.kids) (by rw [List.getElem?_map, hx]; rfl)
        simpa using this
      have HALL := hide hall
      have HKID := hide hkid
      have HCS := hide hcs
      have HBR := hide hbr
      have HKK := hide hkk
      clear hc hbr' hcs hbr hkk hall hkid
      by_cases hkd : x.kind = 5 ∨ x.kind = 6
      · have hone : dpV1 (dpT (T.take k)) x = dpK (dpT (T.take k)) x.kids + 1 := if_pos hkd
        have HON := hide hone
        clear hone
        rcases hkd with hkd | hkd
        all_goals
          go_wp2
          generalize hW : World.alloc wr _ = W0
          have hb1 : Below B w W0 := by rw [← hW]; exact HBR.out.alloc (by rw [← hB]; exact hBs) _
          have hc1 : Cells W0 B T.length 3 (dpV (dpT (T.take k) ++ [0])) := by rw [← hW]; exact (HCS.out.later ((Below.refl wr.heap.size wr).alloc (Nat.le_refl _) _) HCS.out.lt).eq (fun j _ => dpV_pad j)
          clear hW c0 c1 c2 c3 c4 c5 hg1
          go_loopw [29] (fun i wq => ∃ (m : Nat), m ≤ x.kids.length ∧ i = .int .i64 m ∧ Cells wq B T.length 3 (dpV (dpT (T.take k) ++ [dpK (dpT (T.take k)) (x.kids.take m)])) ∧ Below B w wq) (fun i _ => x.kids.length - (intOf i).toNat)
          case atStart => exact ⟨0, Nat.zero_le _, rfl, hc1, hb1⟩
          case round =>
            clear hc1 hb1
            obtain ⟨m, hm, rfl, hc2, hb2⟩ := hrel
            have hq1 := hc2.cell k hlt
            rw [dpV_last HALL.out.1] at hq1
            have hf := hc2.frozen k
            obtain ⟨c, hcE⟩ : ∃ c, dpK (dpT (T.take k)) (x.kids.take m) = c := ⟨_, rfl⟩
            rw [hcE] at hq1 hc2
            have hcB : 0 ≤ c ∧ c ≤ (k : Int) := by rw [← hcE]; exact dpK_le HALL.out.2 _ 0 (by omega)
            by_cases hlm : m < x.kids.length
            · obtain ⟨y, hy⟩ : ∃ y, x.kids[m]? = some y := ⟨_, List.getElem?_eq_getElem hlm⟩
              obtain ⟨gk, rfl, hck⟩ := HKK.out m (intv y) (by rw [List.getElem?_map, hy]; rfl)
              have e1 := (hb2.cell (by rw [← hB]; exact block_lt_of_cell hck)).trans hck
              unfold intv at e1
              clear hck
              have hyk := HKID.out y (List.mem_of_getElem? hy)
              obtain ⟨n, rfl⟩ : ∃ n : Nat, y = (n : Int) := ⟨y.toNat, by omega⟩
              have hnk : n < k := by omega
              have hnT : n < T.length := by omega
              have hne : ¬ n = k := by omega
              have hne2 : ¬ k = n := by omega
              have hq2 := hc2.cell n hnT
              rw [dpV_old (by rw [HALL.out.1]; exact hnk)] at hq2
              have hnx : dpK (dpT (T.take k)) (x.kids.take (m + 1)) = max c ((dpT (T.take k)).getD n 0) := by
                rw [List.take_add_one, hy]
                show dpK _ (x.kids.take m ++ [(n : Int)]) = _
                rw [dpK_next, hcE]
                rfl
              obtain ⟨d, hdE⟩ : ∃ d, (dpT (T.take k)).getD n 0 = d := ⟨_, rfl⟩
              rw [hdE] at hq2 hnx
              have HNX := hide hnx
              have HC2 := hide hc2
              have HB2 := hide hb2
              have HM : Hid (m + 1 ≤ x.kids.length) := hlm
              clear hc2 hb2 hnx hyk hy
              go_wp2
              go_region
              all_goals
                go_wp2
                go_roundw
                case rel => exact ⟨m + 1, HM.out, by go_num, by rw [HNX.out, max_if]; exact ((HC2.out.set k _).eq (fun j _ => dpV_set HALL.out.1 c _ j)).drew, (HB2.out.setCell (Nat.le_refl _) _).drew⟩
                case measure => have := HM.out; simp [intOf]; omega
            · have hm2 : m = x.kids.length := by omega
              rw [hm2, List.take_length] at hcE
              go_wp2
              go_roundw
              case rel => exact ⟨k + 1, by omega, by go_num, (hc2.set k (.int .i64 (c + 1))).eq (fun j _ => by rw [htk, dpT_next, HON.out, hcE]; exact dpV_set HALL.out.1 c (c + 1) j), hb2.setCell (Nat.le_refl _) _⟩
              case measure => simp [intOf]; omega
      · have hone : dpV1 (dpT (T.take k)) x = 0 := if_neg hkd
        have hk5 : ¬ x.kind = 5 := fun h => hkd (.inl h)
        have hk6 : ¬ x.kind = 6 := fun h => hkd (.inr h)
        have q5 : (x.kind == 5) = false := by simpa using hk5
        have q6 : (x.kind == 6) = false := by simpa using hk6
        have d5 : (x.kind != 5) = true := by simpa using hk5
        have d6 : (x.kind != 6) = true := by simpa using hk6
        have e5 : decide (x.kind = 5) = false := by simpa using hk5
        have e6 : decide (x.kind = 6) = false := by simpa using hk6
        go_wp2
        go_roundw
        case rel => exact ⟨k + 1, by omega, by go_num, (HCS.out.later ((Below.refl wr.heap.size wr).alloc (Nat.le_refl _) _) HCS.out.lt).eq (fun j _ => by rw [htk, dpT_next, hone]; exact dpV_pad j), HBR.out.alloc (by omega) _⟩
        case measure => simp [intOf]; omega
    · have hkT : k = T.length := by omega
      rw [hkT, List.take_of_length_le (Nat.le_refl _)] at hcs
      have hcl := hcs.cell (T.length - 1) (by omega)
      unfold dpV at hcl
      have i1 : ((T.length - 1 : Nat) : Int) = (T.length : Int) - 1 := by omega
      have i2 : ((T.length : Int) - 1).toNat = T.length - 1 := by omega
      have i3 : (0 : Int) ≤ (T.length : Int) - 1 := by omega
      have i4 : (T.length : Int) - 1 < (T.length : Int) := by omega
      have i5 : T.length - 1 < T.length := by omega
      have i6 : ¬ (T.length : Int) - 1 < 0 := by omega
      go_wp2
      go_ret
      exact ⟨rfl, hbr⟩
end Go.Proofs.YtpffhckimilppaaDoor
