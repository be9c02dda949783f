/-
  What the call of Turned does.
-/
import Derived.Test.YtojkdmkeankcgaaGreatAwake
namespace Go.Proofs.YtojkdmkeankcgaaGreat
open Go.RowKit Go.Sort

def trE (p : Nat) (x : Int × Int) : Leg := (x.1, (p : Int), x.2)
/-- The legs of the first k places, the other way round. -/
def turnTo (n : Nat) (W : Nat → Nat → Option Int) : Nat → List Leg
  | 0 => []
  | k + 1 => turnTo n W k ++ (rowM n W k).map (trE k)
theorem turn_len (n : Nat) (W : Nat → Nat → Option Int) : ∀ k, (turnTo n W k).length = sumLen n W k
  | 0 => rfl
  | k + 1 => by rw [turnTo, List.length_append, turn_len n W k, List.length_map]; rfl
theorem turn_mem (n : Nat) (W : Nat → Nat → Option Int) (l : Leg) : ∀ k, l ∈ turnTo n W k ↔ ∃ p q v, p < k ∧ q < n ∧ W p q = some v ∧ l = ((q : Int), (p : Int), v)
  | 0 => by simp [turnTo]
  | k + 1 => by
    rw [turnTo, List.mem_append, turn_mem n W l k, List.mem_map]
    constructor
    · rintro (⟨p, q, v, h1, h2⟩ | ⟨x, hx, rfl⟩)
      · exact ⟨p, q, v, by omega, h2⟩
      · obtain ⟨q, v, hq, hw, rfl⟩ := mem_rowM.1 hx
        exact ⟨k, q, v, by omega, hq, hw, rfl⟩
    · rintro ⟨p, q, v, h1, hq, hw, rfl⟩
      by_cases hp : p < k
      · exact .inl ⟨p, q, v, hp, hq, hw, rfl⟩
      · have : p = k := by omega
        subst this
        exact .inr ⟨((q : Int), v), mem_rowM.2 ⟨q, v, hq, hw, rfl⟩, rfl⟩
theorem turn_tab (n : Nat) (W : Nat → Nat → Option Int) (p q : Nat) (hp : p < n) (hq : q < n) : tab (turnTo n W n) q p = W p q := by
  cases hw : W p q with
  | some v =>
    rw [tab_some]
    refine ⟨⟨((q : Int), (p : Int), v), (turn_mem n W _ n).2 ⟨p, q, v, hp, hq, hw, rfl⟩, rfl, rfl, rfl⟩, fun l hl h1 h2 => ?_⟩
    obtain ⟨p2, q2, v2, _, _, hw2, rfl⟩ := (turn_mem n W l n).1 hl
    simp only at h1 h2
    have e1 : q2 = q := by omega
    have e2 : p2 = p := by omega
    subst e1 e2
    rw [hw] at hw2
    cases hw2
    exact Int.le_refl _
  | none =>
    rw [tab_none]
    rintro l hl ⟨h1, h2⟩
    obtain ⟨p2, q2, v2, _, _, hw2, rfl⟩ := (turn_mem n W l n).1 hl
    simp only at h1 h2
    have e1 : q2 = q := by omega
    have e2 : p2 = p := by omega
    subst e1 e2
    rw [hw] at hw2
    cases hw2
theorem turn_wt (n : Nat) (W : Nat → Nat → Option Int) (p q : Int) : wt n (tab (turnTo n W n)) q p = wt n W p q := by
  unfold wt
  by_cases h : 0 ≤ p ∧ p < n ∧ 0 ≤ q ∧ q < n
  · rw [if_pos h, if_pos ⟨h.2.2.1, h.2.2.2, h.1, h.2.1⟩, turn_tab n W p.toNat q.toNat (by omega) (by omega)]
  · rw [if_neg h, if_neg (by omega)]
theorem turn_in (n : Nat) (W : Nat → Nat → Option Int) : ∀ l ∈ turnTo n W n, 0 ≤ l.1 ∧ l.1 < n ∧ 0 ≤ l.2.1 ∧ l.2.1 < n := by
  intro l hl
  obtain ⟨p, q, v, hp, hq, _, rfl⟩ := (turn_mem n W l n).1 hl
  simp only
  omega
theorem turned_nil (w : World) : Calls Tryz.prog 22 #[.pointer none] w fun e w' => e = .returned (.pointer none) ∧ w' = w := by
  go_enter Tryz.func22, Tryz.ntmps22
  go_wp2
  go_ret
  exact ⟨rfl, rfl⟩
/-- Behind an append of a leg. -/
theorem turn_step {B2 : Nat} {w2 wr w3 : World} {L : List Leg} {v : Value} {g cap : Nat} (l : Leg) (o1 : Obj) (h : wr.ownsRow B2 102 3 v L.length (L.flatMap encL)) (hb : Below B2 w2 wr) (hB : B2 ≤ wr.heap.size)
    (hown : w3.ownsRow B2 102 3 (.slice (some ⟨g, 0, none⟩) (L.length + 1) cap) (L.length + 1) (L.flatMap encL ++ [.int .i64 l.1, .int .i64 l.2.1, .int .i64 l.2.2])) (hg : ((wr.alloc o1).alloc (.cells #[.int .i64 l.1, .int .i64 l.2.1, .int .i64 l.2.2] 102)).grownBy w3 v.ownBlock) :
    w3.ownsRow B2 102 3 (.slice (some ⟨g, 0, none⟩) (L.length + 1) cap) (L ++ [l]).length ((L ++ [l]).flatMap encL) ∧ Below B2 w2 w3 := by
  refine ⟨?_, ?_⟩
  · rw [List.flatMap_append, List.length_append]
    exact hown
  · exact ((hb.alloc hB o1).alloc (by simp; omega) _).grown hg (by simp; omega) fun k hk => (h.lt k hk).1
set_option maxRecDepth 100000 in
set_option maxHeartbeats 3200000 in
theorem turned_any {w : World} {g n : Nat} {W : Nat → Nat → Option Int} (h : GAt w g n W) (hn : 1 ≤ n ∧ n ≤ 32) (hl : sumLen n W n ≤ 300) :
    Calls Tryz.prog 22 #[.pointer (some ⟨g, 0, none⟩)] w fun e w' => ∃ g', e = .returned (.pointer (some ⟨g', 0, none⟩)) ∧ GAt w' g' n (tab (turnTo n W n)) ∧ Below w.heap.size w w' := by
  obtain ⟨O, h1, h2⟩ := h.out
  have H := hide h
  have H2 := hide h2
  clear h h2
  obtain ⟨B, hB⟩ : ∃ B, w.heap.size = B := ⟨_, rfl⟩
  have HB := hide hB
  rw [hB]
  clear hB
  obtain ⟨i0, hi0, hz0, hz1, hz2⟩ := info_parts info61
  have HI := hide (And.intro hi0 (And.intro hz0 (And.intro hz1 hz2)))
  clear hi0 hz0 hz1 hz2
  go_enter Tryz.func22, Tryz.ntmps22
  go_wp2
  go_loopw [3, 15] (fun vl vi wr => ∃ p : Nat, vi = .int .i64 p ∧ p ≤ n ∧ Hid (Below B w wr ∧ wr.ownsRow B 102 3 vl (turnTo n W p).length ((turnTo n W p).flatMap encL))) (fun _ vi _ => n - (intOf vi).toNat)
  case atStart => exact ⟨0, rfl, Nat.zero_le _, Below.refl _ _, World.ownsRow_nil _ _ _ _⟩
  case round =>
    obtain ⟨p, rfl, hp, HR⟩ := hrel
    obtain ⟨va, vc, hvl⟩ := own_nil_shape HR.out.2
    subst hvl
    have hBr : B ≤ wr.heap.size := by rw [← HB.out]; exact HR.out.1.size
    by_cases hlt : p < n
    · obtain ⟨v, c1, hv⟩ := H2.out p hlt
      have hOlt : O < B := by rw [← HB.out]; exact block_lt_of_cell c1
      have c1r := (HR.out.1.cell (p := ⟨O, p, none⟩) hOlt).trans c1
      obtain ⟨ra, rc, rfl⟩ : ∃ a c, v = .slice a (rowM n W p).length c := by
        rcases hv.2 with ⟨e, e2⟩ | ⟨g, cap, cur, e, _⟩
        · exact ⟨none, 0, by rw [e, e2]⟩
        · exact ⟨_, cap, e⟩
      have HV := hide hv
      have i1 : (p : Int) < (n : Int) := by omega
      have hT : Hid (turnTo n W (p + 1) = turnTo n W p ++ (rowM n W p).map (trE p)) := rfl
      have hTl : Hid ((turnTo n W p).length + (rowM n W p).length ≤ 1056) := by
        show _ ≤ _
        have a := sumLen_le n W p
        have b := rowM_len n W p
        have c : p * n ≤ 32 * 32 := Nat.mul_le_mul (by omega) hn.2
        rw [turn_len]
        omega
      clear c1 hv
      generalize rowM n W p = R at c1r HV hT hTl ⊢
      go_wp2
      go_loopw [3, 22] (fun vl vi wr => ∃ j : Nat, vi = .int .i64 j ∧ j ≤ R.length ∧ Hid (Below B w wr ∧ wr.ownsRow B 102 3 vl (turnTo n W p ++ (R.take j).map (trE p)).length ((turnTo n W p ++ (R.take j).map (trE p)).flatMap encL))) (fun _ vi _ => R.length - (intOf vi).toNat)
      case atStart => exact ⟨0, rfl, Nat.zero_le _, HR.out.1, by simpa using HR.out.2⟩
      case round =>
        clear HR c1r
        obtain ⟨j, rfl, hj, HR⟩ := hrel
        obtain ⟨va, vc, hvl⟩ := own_nil_shape HR.out.2
        subst hvl
        have hBr : B ≤ wr.heap.size := by rw [← HB.out]; exact HR.out.1.size
        by_cases hlt2 : j < R.length
        · rcases HV.out.2 with ⟨_, e2⟩ | ⟨gb, cap0, cur0, e0, _⟩
          · omega
          · cases e0
            have hgb : gb < B := by rw [← HB.out]; exact (HV.out.lt gb rfl).2
            obtain ⟨d0, d1⟩ := own_cells HV.out rfl j hlt2
            have q0 := (HR.out.1.cell (p := ⟨gb, j * 2, none⟩) hgb).trans d0
            have q1 := (HR.out.1.cell (p := ⟨gb, j * 2 + 1, none⟩) hgb).trans d1
            have HT : Hid ((R.take (j + 1)).map (trE p) = (R.take j).map (trE p) ++ [((R[j]!).1, (p : Int), (R[j]!).2)]) := by
              show _ = _
              rw [List.take_succ_eq_append_getElem hlt2, List.map_append, getElem!_pos R j hlt2]
              rfl
            have hLl : (turnTo n W p ++ (R.take j).map (trE p)).length ≤ 1056 := by
              have := hTl.out
              rw [List.length_append, List.length_map, List.length_take]
              omega
            obtain ⟨x, hx⟩ : ∃ x, R[j]! = x := ⟨_, rfl⟩
            rw [hx] at q0 q1 HT
            obtain ⟨x1, x2⟩ := x
            simp only at q0 q1 HT
            have HL : Hid (turnTo n W p ++ (R.take (j + 1)).map (trE p) = turnTo n W p ++ (R.take j).map (trE p) ++ [(x1, (p : Int), x2)]) := by show _ = _; rw [HT.out, List.append_assoc]
            generalize turnTo n W p ++ (R.take j).map (trE p) = L at HR HL hLl ⊢
            have hN1 : ((wr.alloc (.cells #[.int .i64 x1, .int .i64 x2] 75)).alloc (.cells #[.int .i64 x1, .int .i64 p, .int .i64 x2] 102)).heap[wr.heap.size + 1]? = some (.cells #[.int .i64 x1, .int .i64 p, .int .i64 x2] 102 (0, 0)) := by
              have := heap_alloc_new (wr.alloc (.cells #[.int .i64 x1, .int .i64 x2] 75)) (.cells #[.int .i64 x1, .int .i64 p, .int .i64 x2] 102)
              rw [show (wr.alloc (.cells #[.int .i64 x1, .int .i64 x2] 75)).heap.size = wr.heap.size + 1 by simp] at this
              exact this
            have HNW : Hid (∀ j u, [Value.int .i64 x1, Value.int .i64 p, Value.int .i64 x2][j]? = some u → ((wr.alloc (.cells #[.int .i64 x1, .int .i64 x2] 75)).alloc (.cells #[.int .i64 x1, .int .i64 p, .int .i64 x2] 102)).cell? ((⟨wr.heap.size + 1, 0, none⟩ : Addr).add j) = some u) := World.news_of_block (cs := #[.int .i64 x1, .int .i64 p, .int .i64 x2]) (t := 102) (fr := (0, 0)) hN1
            have HOW : Hid (((wr.alloc (.cells #[.int .i64 x1, .int .i64 x2] 75)).alloc (.cells #[.int .i64 x1, .int .i64 p, .int .i64 x2] 102)).ownsRow B 102 3 (.slice va L.length vc) L.length (L.flatMap encL)) := (HR.out.2.alloc _).alloc _
            have i2 : (j : Int) < (R.length : Int) := by omega
            have HJ := hide hlt2
            have hRl : R.length ≤ 1056 := by have := hTl.out; omega
            have hjl : j ≤ 1056 := by omega
            clear d0 d1 HT hx hN1
            go_wp2_with (at_builtin; refine wpList_append_lies _ rfl (.tmp 26) (.tmp 33) 98 rfl B 102 i0 (.agg #[.int .i64 0, .int .i64 0, .int .i64 0]) 3 24 Tryz.underlying98 HI.out.1 HI.out.2.1 HI.out.2.2.1 HI.out.2.2.2 rfl (by decide) (.slice va L.length vc) L.length (L.flatMap encL) rfl HOW.out ⟨wr.heap.size + 1, 0, none⟩ 1 1 [.int .i64 x1, .int .i64 p, .int .i64 x2] rfl rfl HNW.out (by simp [Value.oneCell']) (by decide) (by unfold maxLen; omega) (by omega) (by simp; omega) (wr.heap.size + 2) (by simp) ?_)
            intro gg cap w3 hown1 hgrow hat hlt3
            have HST := hide (turn_step (x1, (p : Int), x2) _ HR.out.2 HR.out.1 hBr hown1 hgrow)
            clear hown1 hgrow hat
            go_wp2
            go_roundw
            case rel => exact ⟨j + 1, by go_num, by have := HJ.out; omega, by show _ ∧ _; rw [HL.out]; exact ⟨HST.out.2, HST.out.1⟩⟩
            case measure => have := HJ.out; simp [intOf]; omega
        · have : j = R.length := by omega
          subst this
          have HE : Hid (Below B w wr ∧ wr.ownsRow B 102 3 (.slice va (turnTo n W p ++ (R.take R.length).map (trE p)).length vc) (turnTo n W (p + 1)).length ((turnTo n W (p + 1)).flatMap encL)) := by
            have := HR.out
            rw [List.take_length, ← hT.out] at this ⊢
            exact this
          clear HR
          go_wp2
          go_roundw
          case rel => exact ⟨p + 1, by go_num, by omega, HE.out⟩
          case measure => simp [intOf]; omega
    · have : p = n := by omega
      subst this
      have HG := hide (gather_any B p hn (turnTo p W p) (turn_in p W) (by rw [turn_len]; exact hl) (.slice va (turnTo p W p).length vc) wr HR.out.2 hBr)
      have HP := hide (places_any (H.out.later (by rw [HB.out]; exact HR.out.1)))
      go_wp2_with (first | (go_at_call 51; refine HP.out.mono ?_; rintro e w' ⟨rfl, rfl⟩) | (go_at_call 53; refine HG.out.mono ?_; rintro e w4 ⟨g, rfl, h4, h5, h6⟩; have H4 := hide (And.intro h4 h5); clear h4 h5 h6))
      go_ret
      exact ⟨_, rfl, H4.out.1, HR.out.1.trans H4.out.2⟩
end Go.Proofs.YtojkdmkeankcgaaGreat
