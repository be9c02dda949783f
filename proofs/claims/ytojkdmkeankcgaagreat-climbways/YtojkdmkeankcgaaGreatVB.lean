/-
  Several texts in one.
-/
import Derived.Test.YtojkdmkeankcgaaGreatVA
import Derived.Test.YtojkdmkeankcgaaGreatInts
import Derived.Test.YtojkdmkeankcgaaGreatOwn
import Derived.Test.YtojkdmkeankcgaaGreatZSd8
import Derived.Deep.RegionHeld3
import Derived.Deep.CutRange
/-  What the calls of slices.Clone and slices.Index of ints and of climb's joined do. -/
namespace Go.Proofs.YtojkdmkeankcgaaGreat
open Go.RowKit Go.Sort

theorem irow_made (w : World) : IRow (w.alloc (.cells #[] 3)) w.heap.size (.slice (some ⟨w.heap.size, 0, none⟩) 0 0) [] := World.ownsRow_made w #[] 0 (Nat.le_refl _) (by decide) rfl
theorem irow_take {w : World} {base g cap : Nat} {xs : List Int} (h : IRow w base (.slice (some ⟨g, 0, none⟩) xs.length cap) xs) (k : Nat) (hk : k ≤ xs.length) : IRow w base (.slice (some ⟨g, 0, none⟩) k cap) (xs.take k) := by
  have hl : (xs.take k).length = k := by rw [List.length_take]; omega
  unfold IRow at h ⊢
  rw [hl]
  refine ⟨by rw [intsV_len, hl]; omega, ?_⟩
  rcases h.2 with ⟨e, _⟩ | ⟨g', cap', cur, e, h1, h2, h3, h4, h5, h6⟩
  · cases e
  · cases e
    refine .inr ⟨g, cap, cur, rfl, h1, h2, by omega, h4, h5, ?_⟩
    have h7 : (cur.toList.take (xs.length * 1)).take (k * 1) = (intsV xs).take (k * 1) := by rw [h6]
    rw [List.take_take, show min (k * 1) (xs.length * 1) = k * 1 by omega] at h7
    rw [h7, Nat.mul_one]
    unfold intsV
    rw [List.map_take]
set_option maxRecDepth 100000 in
set_option maxHeartbeats 1600000 in
theorem cloneI_any {w : World} {base g cap : Nat} {xs : List Int} (h : IRow w base (.slice (some ⟨g, 0, none⟩) xs.length cap) xs) (hl : xs.length ≤ 100) :
    Calls Tryz.prog 69 #[.slice (some ⟨g, 0, none⟩) xs.length cap] w fun e w' => ∃ v, e = .returned v ∧ IRow w' w.heap.size v xs ∧ Below w.heap.size w w' := by
  obtain ⟨i0, hi0, hy0, hy1, hy2⟩ := info_parts info3
  have HI := hide (And.intro hi0 (And.intro hy0 (And.intro hy1 hy2)))
  have hq := fun w => Lib.run_eql_slice_nil (P := Tryz.prog) w 27 3 (some ⟨g, 0, none⟩) xs.length cap 0 0 Tryz.underlying27
  have HNW : Hid (∀ j u, (intsV xs)[j]? = some u → (w.alloc (.cells #[] 3)).cell? ((⟨g, 0, none⟩ : Addr).add j) = some u) := World.ownsRow.cells (h.alloc _) rfl
  have HL := hide hl
  clear h hi0 hy0 hy1 hy2
  go_enter Tryz.func69, Tryz.ntmps69
  go_wp2_with (at_builtin; refine wpList_append_own _ rfl (.tmp 5) (.tmp 6) 27 rfl w.heap.size 3 i0 _ 1 8 Tryz.underlying27 HI.out.1 HI.out.2.1 HI.out.2.2.1 HI.out.2.2.2 rfl (by decide) _ 0 [] rfl (irow_made w) ⟨g, 0, none⟩ xs.length cap (intsV xs) rfl (by rw [intsV_len]; omega) HNW.out (intsV_one xs) (by have := HL.out; unfold maxLen; omega) (by have := HL.out; omega) (by simp) ?_)
  intro v1 w2 hown1 hg1 _
  have hb2 : Below w.heap.size w w2 := ((Below.refl _ _).alloc (Nat.le_refl _) _).grown hg1 (by simp) fun k hk => by cases hk; exact Nat.le_refl _
  have HR : Hid (IRow w2 w.heap.size v1 xs ∧ Below w.heap.size w w2) := ⟨by first | exact hown1 | simpa using hown1, hb2⟩
  clear hown1 hg1 hb2
  go_wp2
  go_ret
  exact ⟨v1, rfl, HR.out.1, HR.out.2⟩
/-- None of the first k. -/
def NoneOf (xs : List Int) (x : Int) (k : Nat) : Prop := ∀ j, j < k → xs[j]! ≠ x
/-- The first is at k. -/
def FirstAt (xs : List Int) (x : Int) (k : Nat) : Prop := k < xs.length ∧ xs[k]! = x ∧ NoneOf xs x k
set_option maxRecDepth 100000 in
set_option maxHeartbeats 1600000 in
theorem indexI_any {w : World} {base g cap : Nat} {xs : List Int} (h : IRow w base (.slice (some ⟨g, 0, none⟩) xs.length cap) xs) (hl : xs.length ≤ 100) (x : Int) :
    Calls Tryz.prog 70 #[.slice (some ⟨g, 0, none⟩) xs.length cap, .int .i64 x] w fun e w' => w' = w ∧ ((e = .returned (.int .i64 (-1)) ∧ NoneOf xs x xs.length) ∨ ∃ k : Nat, e = .returned (.int .i64 k) ∧ FirstAt xs x k) := by
  have H := hide h
  clear h
  go_enter Tryz.func70, Tryz.ntmps70
  go_wp2
  go_loopw [8] (fun vi wr => ∃ i : Nat, vi = .int .i64 i ∧ i ≤ xs.length ∧ wr = w ∧ Hid (NoneOf xs x i)) (fun vi _ => xs.length - (intOf vi).toNat)
  case atStart => exact ⟨0, rfl, Nat.zero_le _, rfl, fun j hj => by omega⟩
  case round =>
    obtain ⟨i, rfl, hi, rfl, HR⟩ := hrel
    by_cases hil : i < xs.length
    · have i1 : (i : Int) < (xs.length : Int) := by omega
      have hc := H.out.cell i hil
      obtain ⟨y, hy⟩ : ∃ y, xs[i]! = y := ⟨_, rfl⟩
      rw [hy] at hc
      by_cases hxy : x = y
      · have e1 : (x == y) = true := by simp [hxy]
        replace hxy := hide hxy
        go_wp2
        go_ret
        exact ⟨rfl, .inr ⟨i, rfl, hil, hy.trans hxy.out.symm, HR.out⟩⟩
      · have e1 : (x == y) = false := by simp [hxy]
        have HR2 : Hid (NoneOf xs x (i + 1)) := fun j hj => by
          rcases Nat.lt_or_ge j i with h1 | h1
          · exact HR.out j h1
          · have : j = i := by omega
            subst this
            rw [hy]
            exact fun e => hxy e.symm
        replace hxy := hide hxy
        replace hy := hide hy
        go_wp2
        go_roundw
        case rel => exact ⟨i + 1, by go_num, by omega, trivial, HR2.out⟩
        case measure => simp [intOf]; omega
    · have i1 : ¬ (i : Int) < (xs.length : Int) := by omega
      have e : i = xs.length := by omega
      replace e := hide e
      go_wp2
      go_ret
      exact ⟨rfl, .inl ⟨rfl, by have := HR.out; rw [e.out] at this; exact this⟩⟩
theorem nats_get (L : List Nat) (j : Nat) (hj : j < L.length) : (natsI L)[j]! = ((L[j]! : Nat) : Int) := by
  rw [getElem!_pos (natsI L) j (by simp [natsI]; exact hj), getElem!_pos L j hj]
  simp [natsI]
theorem nats_len (L : List Nat) : (natsI L).length = L.length := by simp [natsI]
theorem take_first {p : Nat} : ∀ (L : List Nat) (k : Nat), k < L.length → L[k]! = p → (∀ j, j < k → L[j]! ≠ p) → L.takeWhile (fun q => decide (q ≠ p)) = L.take k
  | [], k, h, _, _ => by simp at h
  | a :: r, 0, _, h, _ => by
    have : a = p := h
    simp [this]
  | a :: r, k + 1, hk, h, h0 => by
    have e : a ≠ p := h0 0 (by omega)
    rw [List.takeWhile_cons, if_pos (by simpa using e), List.take_succ_cons, take_first r k (by simpa using hk) (by simpa using h) fun j hj => by have := h0 (j + 1) (by omega); simpa using this]
theorem first_join {L : List Nat} {p k : Nat} (h : FirstAt (natsI L) (p : Int) k) : joinS L p = L.take k ++ [p] := by
  obtain ⟨h1, h2, h3⟩ := h
  rw [nats_len] at h1
  unfold joinS
  rw [take_first L k h1 (by rw [nats_get L k h1] at h2; omega) fun j hj => by have := h3 j hj; rw [nats_get L j (by omega)] at this; exact fun e => this (by omega)]
theorem none_join {L : List Nat} {p : Nat} (h : NoneOf (natsI L) (p : Int) (natsI L).length) : joinS L p = L ++ [p] := by
  unfold joinS
  rw [take_none fun hm => by
    obtain ⟨j, hj, e⟩ := List.mem_iff_getElem.1 hm
    have := h j (by rw [nats_len]; exact hj)
    rw [nats_get L j hj, getElem!_pos L j hj, e] at this
    exact this rfl]
theorem joinS_len (L : List Nat) (p : Nat) : (joinS L p).length ≤ L.length + 1 := by
  unfold joinS
  have := (List.takeWhile_sublist (l := L) (fun q => decide (q ≠ p))).length_le
  rw [List.length_append, List.length_singleton]
  omega
theorem joinS_pos (L : List Nat) (p : Nat) : 0 < (joinS L p).length := by unfold joinS; simp
theorem first_or_none (xs : List Int) (x : Int) : NoneOf xs x xs.length ∨ ∃ k, FirstAt xs x k := by
  suffices h : ∀ m, m ≤ xs.length → NoneOf xs x m ∨ ∃ k, FirstAt xs x k from h _ (Nat.le_refl _)
  intro m
  induction m with
  | zero => exact fun _ => .inl fun j hj => by omega
  | succ m ih =>
    intro hm
    rcases ih (by omega) with h | h
    · by_cases e : xs[m]! = x
      · exact .inr ⟨m, by omega, e, h⟩
      · refine .inl fun j hj => ?_
        rcases Nat.lt_or_ge j m with h1 | h1
        · exact h j h1
        · have : j = m := by omega
          subst this
          exact e
    · exact .inr h
theorem cloneI_len {w : World} {base g cap m : Nat} {xs : List Int} (hm : xs.length = m) (h : IRow w base (.slice (some ⟨g, 0, none⟩) m cap) xs) (hl : m ≤ 100) :
    Calls Tryz.prog 69 #[.slice (some ⟨g, 0, none⟩) m cap] w fun e w' => ∃ v, e = .returned v ∧ IRow w' w.heap.size v xs ∧ Below w.heap.size w w' := by
  subst hm
  exact cloneI_any h hl
theorem indexI_none {w : World} {base g cap m : Nat} {xs : List Int} (hm : xs.length = m) (h : IRow w base (.slice (some ⟨g, 0, none⟩) m cap) xs) (hl : m ≤ 100) {x : Int} (hx : NoneOf xs x xs.length) :
    Calls Tryz.prog 70 #[.slice (some ⟨g, 0, none⟩) m cap, .int .i64 x] w fun e w' => e = .returned (.int .i64 (-1)) ∧ w' = w := by
  subst hm
  refine (indexI_any h hl x).mono ?_
  rintro e w' ⟨rfl, ⟨rfl, _⟩ | ⟨k, rfl, h1, h2, _⟩⟩
  · exact ⟨rfl, rfl⟩
  · exact absurd h2 (hx k h1)
theorem indexI_first {w : World} {base g cap m k : Nat} {xs : List Int} (hm : xs.length = m) (h : IRow w base (.slice (some ⟨g, 0, none⟩) m cap) xs) (hl : m ≤ 100) {x : Int} (hx : FirstAt xs x k) :
    Calls Tryz.prog 70 #[.slice (some ⟨g, 0, none⟩) m cap, .int .i64 x] w fun e w' => e = .returned (.int .i64 k) ∧ w' = w := by
  subst hm
  refine (indexI_any h hl x).mono ?_
  rintro e w' ⟨rfl, ⟨rfl, h0⟩ | ⟨k', rfl, h1, h2, h3⟩⟩
  · exact absurd hx.2.1 (h0 k hx.1)
  · have : k' = k := by
      rcases Nat.lt_trichotomy k' k with h4 | h4 | h4
      · exact absurd h2 (hx.2.2 k' h4)
      · exact h4
      · exact absurd hx.2.1 (h3 k h4)
    subst this
    exact ⟨rfl, rfl⟩
/-- The way in the making. -/
structure Jn (w : World) (a b : List Nat) (i : Nat) (L : List Nat) (v : Value) (wr : World) : Prop where
  eq : L = (b.take i).foldl joinS a
  pos : 0 < L.length
  len : L.length ≤ a.length + i
  row : IRow wr w.heap.size v (natsI L)
  below : Below w.heap.size w wr
theorem Jn.next {w wr w2 : World} {a b L : List Nat} {i m g k : Nat} {v v' : Value} (h : Jn w a b i L v wr) (hi : i < b.length) (hj : joinS L b[i]! = L.take k ++ [b[i]!])
    (hv : v.ownBlock = some g) (hm : m = k + 1) (ho : w2.ownsRow w.heap.size 3 1 v' m (intsV (natsI (L.take k)) ++ [.int .i64 (b[i]! : Nat)])) (hgr : (wr.alloc (.cells #[.int .i64 (b[i]! : Nat)] 3)).grownBy w2 (some g)) (hk : k ≤ L.length) : Jn w a b (i + 1) (joinS L b[i]!) v' w2 := by
  have hf := h.below.alloc h.below.size (.cells #[.int .i64 (b[i]! : Nat)] 3)
  refine ⟨?_, joinS_pos _ _, by have := joinS_len L b[i]!; have := h.len; omega, ?_, hf.grown hgr hf.size fun q hq => by cases hq; exact (h.row.lt g hv).1⟩
  · rw [List.take_succ_eq_append_getElem hi, List.foldl_append, ← h.eq, getElem!_pos b i hi]
    rfl
  · unfold IRow
    rw [hj]
    have e1 : (natsI (L.take k ++ [b[i]!])).length = m := by rw [nats_len]; simp; omega
    have e2 : intsV (natsI (L.take k ++ [b[i]!])) = intsV (natsI (L.take k)) ++ [.int .i64 (b[i]! : Nat)] := by simp [natsI, intsV]
    rw [e1, e2]
    exact ho
set_option maxRecDepth 100000 in
set_option maxHeartbeats 3200000 in
theorem joined_any {w : World} {B1 B2 ga ca gb cb : Nat} {a b : List Nat} (ha : IRow w B1 (.slice (some ⟨ga, 0, none⟩) a.length ca) (natsI a)) (hb : IRow w B2 (.slice (some ⟨gb, 0, none⟩) b.length cb) (natsI b)) (hla : 0 < a.length ∧ a.length ≤ 32) (hlb : b.length ≤ 32) :
    Calls Tryz.prog 47 #[.slice (some ⟨ga, 0, none⟩) a.length ca, .slice (some ⟨gb, 0, none⟩) b.length cb] w fun e w' => ∃ v, e = .returned v ∧ IRow w' w.heap.size v (natsI (joinM a b)) ∧ Below w.heap.size w w' := by
  obtain ⟨i0, hi0, hy0, hy1, hy2⟩ := info_parts info3
  have HI := hide (And.intro hi0 (And.intro hy0 (And.intro hy1 hy2)))
  have HA := hide (cloneI_len (nats_len a) ha (by omega))
  have HB := hide hb
  have HLA := hide hla
  clear ha hb hi0 hy0 hy1 hy2
  go_enter Tryz.func47, Tryz.ntmps47
  go_wp2_with (go_at_call 69; refine HA.out.mono ?_; rintro e w1 ⟨v1, rfl, h1, h2⟩; have H1 : Hid (Jn w a b 0 a v1 w1) := ⟨by rfl, HLA.out.1, by omega, h1, h2⟩; clear h1 h2)
  go_loopw [5, 13] (fun v vi wr => ∃ (i : Nat) (u : Value), u = v ∧ vi = .int .i64 i ∧ i ≤ b.length ∧ Hid (∃ L, Jn w a b i L u wr)) (fun _ vi _ => b.length - (intOf vi).toNat)
  case atStart => exact ⟨0, _, rfl, rfl, Nat.zero_le _, _, H1.out⟩
  case round =>
    clear H1
    obtain ⟨i, u, rfl, rfl, hi, HR⟩ := hrel
    obtain ⟨L, hJ⟩ := HR.out
    have HJ := hide hJ
    clear hJ HR
    by_cases hib : i < b.length
    · have i1 : (i : Int) < (b.length : Int) := by omega
      have HB2 : Hid (IRow wr B2 (.slice (some ⟨gb, 0, none⟩) b.length cb) (natsI b)) := HB.out.later (Nat.le_refl _) HJ.out.below
      have hc := HB2.out.cell i (by rw [nats_len]; exact hib)
      rw [nats_get b i hib] at hc
      obtain ⟨p, hp⟩ : ∃ p, b[i]! = p := ⟨_, rfl⟩
      rw [hp] at hc
      replace hp := hide hp
      obtain ⟨g, cap, rfl, hg1, hg2, hcap, _⟩ := HJ.out.row.form (by rw [nats_len]; exact HJ.out.pos)
      rw [nats_len] at hcap
      have HRW : Hid (IRow wr w.heap.size (.slice (some ⟨g, 0, none⟩) L.length cap) (natsI L)) := by have := HJ.out.row; rw [nats_len] at this; exact this
      try rw [nats_len] at HJ ⊢
      have HLL : Hid (L.length ≤ 64) := by have := HJ.out.len; have := HLA.out; show _ ≤ _; omega
      have HCP := hide hcap
      clear hcap hg1 hg2 HB2
      rcases first_or_none (natsI L) (p : Int) with hx | ⟨k, hx⟩
      ·
        have HIX := hide (indexI_none (nats_len L) HRW.out (by have := HLL.out; omega) hx)
        have HJS : Hid (joinS L p = L.take L.length ++ [p]) := by show _ = _; rw [List.take_length]; exact none_join hx
        have HOW : Hid ((wr.alloc (.cells #[.int .i64 p] 3)).ownsRow w.heap.size 3 1 (.slice (some ⟨g, 0, none⟩) L.length cap) L.length (intsV (natsI L))) := by have := World.ownsRow.alloc HRW.out (.cells #[.int .i64 p] 3); rw [nats_len] at this; exact this
        have HKK : Hid (L.length ≤ 90) := by have := HLL.out; show _ ≤ _; omega
        have HNW : Hid (∀ j u, [Value.int .i64 (p : Int)][j]? = some u → (wr.alloc (.cells #[.int .i64 p] 3)).cell? ((⟨wr.heap.size, 0, none⟩ : Addr).add j) = some u) := World.news_of_block (cs := #[.int .i64 p]) (t := 3) (fr := (0, 0)) (heap_alloc_new wr _)
        have HBB : Hid (w.heap.size ≤ (wr.alloc (.cells #[.int .i64 p] 3)).heap.size) := by have := HJ.out.below.size; show _ ≤ _; simp; omega
        replace hx := hide hx
        go_wp2_with (first
          | (go_at_call 70; refine HIX.out.mono ?_; rintro e wr ⟨rfl, rfl⟩)
          | (at_builtin; refine wpList_append_own _ rfl (.tmp 25) (.tmp 27) 27 rfl w.heap.size 3 i0 _ 1 8 Tryz.underlying27 HI.out.1 HI.out.2.1 HI.out.2.2.1 HI.out.2.2.2 rfl (by decide) (.slice (some ⟨g, 0, none⟩) L.length cap) L.length (intsV (natsI L)) rfl HOW.out ⟨wr.heap.size, 0, none⟩ 1 1 [.int .i64 p] rfl rfl HNW.out (by simp [Value.oneCell']) (by have := HKK.out; unfold maxLen; omega) (by have := HKK.out; omega) HBB.out ?_))
        intro v3 w3 hown3 hgrow3 _
        have HST : Hid (∃ v, v = v3 ∧ Jn w a b (i + 1) (joinS L p) v w3) := ⟨_, rfl, by have h1 := HJ.out; rw [← hp.out] at HJS hown3 hgrow3 ⊢; exact h1.next hib HJS.out rfl rfl (by rw [List.take_length]; exact hown3) hgrow3 (Nat.le_refl _)⟩
        clear hown3 hgrow3
        go_wp2
        go_roundw
        case rel => exact ⟨i + 1, _, rfl, by go_num, by omega, _, by obtain ⟨v, e, h⟩ := HST.out; subst e; exact h⟩
        case measure => simp [intOf]; omega

      ·
        have hkL : k < L.length := by have := hx.1; rw [nats_len] at this; exact this
        have HIX := hide (indexI_first (nats_len L) HRW.out (by have := HLL.out; omega) hx)
        have HJS : Hid (joinS L p = L.take k ++ [p]) := first_join hx
        have HOW : Hid ((wr.alloc (.cells #[.int .i64 p] 3)).ownsRow w.heap.size 3 1 (.slice (some ⟨g, 0, none⟩) k cap) k (intsV (natsI (L.take k)))) := by
          have h1 := irow_take (w := wr) (base := w.heap.size) (g := g) (cap := cap) (xs := natsI L) (by rw [nats_len]; exact HRW.out) k (by rw [nats_len]; omega)
          have h2 := World.ownsRow.alloc h1 (.cells #[.int .i64 p] 3)
          have e : (natsI L).take k = natsI (L.take k) := by simp [natsI, List.map_take]
          rw [e] at h2
          have e2 : (natsI (L.take k)).length = k := by rw [nats_len, List.length_take]; omega
          rw [e2] at h2
          exact h2
        have HKK : Hid (k ≤ 90) := by have := HLL.out; show _ ≤ _; omega
        have k0 : (0 : Int) ≤ (k : Int) := by omega
        have k1 : (k : Int) ≤ (cap : Int) := by have := HCP.out; omega
        have k2 : k ≤ cap := by omega
        have HNW : Hid (∀ j u, [Value.int .i64 (p : Int)][j]? = some u → (wr.alloc (.cells #[.int .i64 p] 3)).cell? ((⟨wr.heap.size, 0, none⟩ : Addr).add j) = some u) := World.news_of_block (cs := #[.int .i64 p]) (t := 3) (fr := (0, 0)) (heap_alloc_new wr _)
        have HBB : Hid (w.heap.size ≤ (wr.alloc (.cells #[.int .i64 p] 3)).heap.size) := by have := HJ.out.below.size; show _ ≤ _; simp; omega
        replace hx := hide hx
        go_wp2_with (first
          | (go_at_call 70; refine HIX.out.mono ?_; rintro e wr ⟨rfl, rfl⟩)
          | (at_builtin; refine wpList_append_own _ rfl (.tmp 25) (.tmp 27) 27 rfl w.heap.size 3 i0 _ 1 8 Tryz.underlying27 HI.out.1 HI.out.2.1 HI.out.2.2.1 HI.out.2.2.2 rfl (by decide) (.slice (some ⟨g, 0, none⟩) k cap) k (intsV (natsI (L.take k))) rfl HOW.out ⟨wr.heap.size, 0, none⟩ 1 1 [.int .i64 p] rfl rfl HNW.out (by simp [Value.oneCell']) (by have := HKK.out; unfold maxLen; omega) (by have := HKK.out; omega) HBB.out ?_))
        intro v3 w3 hown3 hgrow3 _
        have HST : Hid (∃ v, v = v3 ∧ Jn w a b (i + 1) (joinS L p) v w3) := ⟨_, rfl, by have h1 := HJ.out; rw [← hp.out] at HJS hown3 hgrow3 ⊢; exact h1.next hib HJS.out rfl rfl hown3 hgrow3 (by omega)⟩
        clear hown3 hgrow3
        go_wp2
        go_roundw
        case rel => exact ⟨i + 1, _, rfl, by go_num, by omega, _, by obtain ⟨v, e, h⟩ := HST.out; subst e; exact h⟩
        case measure => simp [intOf]; omega

    · have i1 : ¬ (i : Int) < (b.length : Int) := by omega
      have HE : Hid (IRow wr w.heap.size u (natsI (joinM a b)) ∧ Below w.heap.size w wr) := by
        have h1 := HJ.out
        have e := h1.eq
        rw [List.take_of_length_le (by omega)] at e
        exact ⟨by rw [show joinM a b = L from e.symm]; exact h1.row, h1.below⟩
      go_wp2
      go_ret
      exact ⟨_, rfl, HE.out.1, HE.out.2⟩
end Go.Proofs.YtojkdmkeankcgaaGreat
/-  What the call of climb's lightest does where one link alone has the place at that end. -/
namespace Go.Proofs.YtojkdmkeankcgaaGreat
open Go.RowKit Go.Sort

theorem set_four {w : World} {b : Nat} {c0 c1 c2 c3 x y z u : Value} {t : TypeId} (h : w.heap[b]? = some (.cells #[c0, c1, c2, c3] t (0, 0))) : ((((w.setCell ⟨b, 0, none⟩ x).setCell ⟨b, 1, none⟩ y).setCell ⟨b, 2, none⟩ z).setCell ⟨b, 3, none⟩ u).heap[b]? = some (.cells #[x, y, z, u] t (0, 0)) := by
  have h1 := heap_setCell_same w b 0 _ _ x h
  have h2 := heap_setCell_same _ b 1 _ _ y h1
  have h3 := heap_setCell_same _ b 2 _ _ z h2
  have h4 := heap_setCell_same _ b 3 _ _ u h3
  exact h4
/-- The two boxes: the result's, and the best so far. -/
structure Lg (w : World) (c0 c1 c2 c3 : Int) (wr : World) : Prop where
  below : Below w.heap.size w wr
  b6 : wr.heap[w.heap.size]? = some (.cells #[.int .i64 0, .int .i64 0, .int .i64 0, .int .i64 0] 46 (0, 0))
  b7 : wr.heap[w.heap.size + 1]? = some (.cells #[.int .i64 c0, .int .i64 c1, .int .i64 c2, .int .i64 c3] 46 (0, 0))
section
variable {w wr w' : World} {c0 c1 c2 c3 : Int}
theorem Lg.later (h : Lg w c0 c1 c2 c3 wr) (f : Below wr.heap.size wr w') : Lg w c0 c1 c2 c3 w' := ⟨h.below.trans (f.mono h.below.size), (f.block _ (Array.getElem?_eq_some_iff.1 h.b6).1).trans h.b6, (f.block _ (Array.getElem?_eq_some_iff.1 h.b7).1).trans h.b7⟩
theorem Lg.put (h : Lg w c0 c1 c2 c3 wr) (x y z u : Int) : Lg w x y z u ((((wr.setCell ⟨w.heap.size + 1, 0, none⟩ (.int .i64 x)).setCell ⟨w.heap.size + 1, 1, none⟩ (.int .i64 y)).setCell ⟨w.heap.size + 1, 2, none⟩ (.int .i64 z)).setCell ⟨w.heap.size + 1, 3, none⟩ (.int .i64 u)) := by
  refine ⟨(((h.below.setCell (by show w.heap.size ≤ w.heap.size + 1; omega) _).setCell (by show w.heap.size ≤ w.heap.size + 1; omega) _).setCell (by show w.heap.size ≤ w.heap.size + 1; omega) _).setCell (by show w.heap.size ≤ w.heap.size + 1; omega) _, ?_, set_four h.b7⟩
  rw [heap_setCell_other _ _ _ _ (by show w.heap.size ≠ w.heap.size + 1; omega), heap_setCell_other _ _ _ _ (by show w.heap.size ≠ w.heap.size + 1; omega), heap_setCell_other _ _ _ _ (by show w.heap.size ≠ w.heap.size + 1; omega), heap_setCell_other _ _ _ _ (by show w.heap.size ≠ w.heap.size + 1; omega)]
  exact h.b6
theorem Lg.c (h : Lg w c0 c1 c2 c3 wr) : wr.cell? ⟨w.heap.size + 1, 0, none⟩ = some (.int .i64 c0) ∧ wr.cell? ⟨w.heap.size + 1, 1, none⟩ = some (.int .i64 c1) ∧ wr.cell? ⟨w.heap.size + 1, 2, none⟩ = some (.int .i64 c2) ∧ wr.cell? ⟨w.heap.size + 1, 3, none⟩ = some (.int .i64 c3) :=
  ⟨by rw [cell_of_row _ _ 0 _ _ _ h.b7]; rfl, by rw [cell_of_row _ _ 1 _ _ _ h.b7]; rfl, by rw [cell_of_row _ _ 2 _ _ _ h.b7]; rfl, by rw [cell_of_row _ _ 3 _ _ _ h.b7]; rfl⟩
theorem lg_start (w : World) : Lg w 0 0 (-1) (-1) ((w.alloc (.cells #[.int .i64 0, .int .i64 0, .int .i64 0, .int .i64 0] 46)).alloc (.cells #[.int .i64 0, .int .i64 0, .int .i64 (-1), .int .i64 (-1)] 46)) := by
  have h1 := heap_alloc_new (w.alloc (.cells #[.int .i64 0, .int .i64 0, .int .i64 0, .int .i64 0] 46)) (.cells #[.int .i64 0, .int .i64 0, .int .i64 (-1), .int .i64 (-1)] 46)
  rw [show (w.alloc (.cells #[.int .i64 0, .int .i64 0, .int .i64 0, .int .i64 0] 46)).heap.size = w.heap.size + 1 by simp] at h1
  refine ⟨below_two (Below.refl _ _) (Nat.le_refl _) _ _, ?_, h1⟩
  rw [Below.heap_alloc _ _ _ (by simp)]
  exact heap_alloc_new _ _
end
set_option maxRecDepth 100000 in
set_option maxHeartbeats 3200000 in
theorem lightest_tail {w : World} {base g cap k : Nat} {R : List Lnk} (h : LRow w base (.slice (some ⟨g, 0, none⟩) R.length cap) R) (hl : R.length ≤ 64) (pl : Nat) (hk : k < R.length) (he : R[k]!.1 = pl) (hu : ∀ j, j < R.length → j ≠ k → R[j]!.1 ≠ pl) :
    Calls Tryz.prog 71 #[.slice (some ⟨g, 0, none⟩) R.length cap, .func (.func 66) #[] #[], .int .i64 pl] w fun e w' => e = .returned (.agg #[.int .i64 R[k]!.1, .int .i64 R[k]!.2.1, .int .i64 R[k]!.2.2.1, .int .i64 R[k]!.2.2.2]) ∧ Below w.heap.size w w' := by
  have HS := hide (lg_start w)
  have HR := hide h
  have HU := hide hu
  have HE := hide he
  obtain ⟨k0, k1, k2, k3, hke⟩ : ∃ (k0 k1 : Nat) (k2 k3 : Int), R[k]! = (k0, k1, (k2, k3)) := ⟨_, _, _, _, rfl⟩
  rw [hke] at HE ⊢
  replace hke := hide hke
  clear h hu he
  go_enter Tryz.func71, Tryz.ntmps71
  go_wp2
  generalize (w.alloc (.cells #[.int .i64 0, .int .i64 0, .int .i64 0, .int .i64 0] 46)).alloc (.cells #[.int .i64 0, .int .i64 0, .int .i64 (-1), .int .i64 (-1)] 46) = W0 at HS ⊢
  go_loopw [13] (fun vi wr => ∃ i : Nat, vi = .int .i64 i ∧ i ≤ R.length ∧ Hid ((i ≤ k ∧ Lg w 0 0 (-1) (-1) wr) ∨ (k < i ∧ Lg w k0 k1 k2 k3 wr))) (fun vi _ => R.length - (intOf vi).toNat)
  case atStart => exact ⟨0, rfl, Nat.zero_le _, .inl ⟨Nat.zero_le _, HS.out⟩⟩
  case round =>
    clear HS
    obtain ⟨i, rfl, hi, HL⟩ := hrel
    by_cases hil : i < R.length
    · have i1 : (i : Int) < (R.length : Int) := by omega
      have HB : Hid (Below w.heap.size w wr) := by rcases HL.out with h | h; exact h.2.below; exact h.2.below
      have hc := (HR.out.later (Nat.le_refl _) HB.out).cells i hil
      obtain ⟨z0, z1, y2, y3, hy⟩ : ∃ (y0 y1 : Nat) (y2 y3 : Int), R[i]! = (y0, y1, (y2, y3)) := ⟨_, _, _, _, rfl⟩
      rw [hy] at hc
      obtain ⟨q0, q1, q2, q3⟩ := hc
      obtain ⟨y0, hy0⟩ : ∃ y0 : Int, (z0 : Int) = y0 := ⟨_, rfl⟩
      obtain ⟨y1, hy1⟩ : ∃ y1 : Int, (z1 : Int) = y1 := ⟨_, rfl⟩
      simp only [hy0, hy1] at q0 q1 q2 q3
      have hf : Below wr.heap.size wr ((wr.alloc (.cells #[.int .i64 y0, .int .i64 y1, .int .i64 y2, .int .i64 y3] 46)).alloc (.cells #[.int .i64 y0, .int .i64 y1, .int .i64 y2, .int .i64 y3] 46)) := below_two (Below.refl _ _) (Nat.le_refl _) _ _
      have hnew : ((wr.alloc (.cells #[.int .i64 y0, .int .i64 y1, .int .i64 y2, .int .i64 y3] 46)).alloc (.cells #[.int .i64 y0, .int .i64 y1, .int .i64 y2, .int .i64 y3] 46)).heap[wr.heap.size]? = some (.cells #[.int .i64 y0, .int .i64 y1, .int .i64 y2, .int .i64 y3] 46 (0, 0)) := by rw [Below.heap_alloc _ _ _ (by simp)]; exact heap_alloc_new _ _
      have v2 := cell_of_row _ wr.heap.size 2 _ _ _ hnew
      have v0 := cell_of_row _ wr.heap.size 0 _ _ _ hnew
      have v1 := cell_of_row _ wr.heap.size 1 _ _ _ hnew
      have v3 : ((wr.alloc (.cells #[.int .i64 y0, .int .i64 y1, .int .i64 y2, .int .i64 y3] 46)).alloc (.cells #[.int .i64 y0, .int .i64 y1, .int .i64 y2, .int .i64 y3] 46)).cell? ⟨wr.heap.size, 3, none⟩ = some (.int .i64 y3) := cell_of_row _ wr.heap.size 3 _ _ _ hnew
      have v2 : ((wr.alloc (.cells #[.int .i64 y0, .int .i64 y1, .int .i64 y2, .int .i64 y3] 46)).alloc (.cells #[.int .i64 y0, .int .i64 y1, .int .i64 y2, .int .i64 y3] 46)).cell? ⟨wr.heap.size, 2, none⟩ = some (.int .i64 y2) := cell_of_row _ wr.heap.size 2 _ _ _ hnew
      simp only [List.getElem?_toArray, List.getElem?_cons_succ, List.getElem?_cons_zero] at v0 v1
      by_cases hik : i = k
      · have HG : Hid (Lg w 0 0 (-1) (-1) ((wr.alloc (.cells #[.int .i64 y0, .int .i64 y1, .int .i64 y2, .int .i64 y3] 46)).alloc (.cells #[.int .i64 y0, .int .i64 y1, .int .i64 y2, .int .i64 y3] 46))) := by
          rcases HL.out with h | h
          · exact h.2.later hf
          · omega
        have e1 : (y0 == (pl : Int)) = true := by
          have h1 : k0 = pl := HE.out
          have h2 := hke.out
          rw [← hik, hy] at h2
          cases h2
          simp; omega
        have HK : Hid (y0 = (k0 : Int) ∧ y1 = (k1 : Int) ∧ y2 = k2 ∧ y3 = k3) := by
          have h2 := hke.out
          rw [← hik, hy] at h2
          cases h2
          exact ⟨hy0.symm, hy1.symm, rfl, rfl⟩
        obtain ⟨s0, s1, s2, s3⟩ := HG.out.c
        have f0 := frozen_of_row _ (w.heap.size + 1) 0 _ _ HG.out.b7
        have f1 := frozen_of_row _ (w.heap.size + 1) 1 _ _ HG.out.b7
        have f2 := frozen_of_row _ (w.heap.size + 1) 2 _ _ HG.out.b7
        have f3 := frozen_of_row _ (w.heap.size + 1) 3 _ _ HG.out.b7
        replace hik := hide hik
        replace hy := hide hy
        replace hy0 := hide hy0
        replace hy1 := hide hy1
        clear hf hnew HL
        go_wp2_with (first
          | (go_at_call 66; refine (tail_any _ _ _ _ _).mono ?_; rintro e w2 ⟨rfl, hw⟩; rw [hw]; clear hw)
          | (go_at_call 41; refine (lighter_any y2 (-1) _).mono ?_; rintro e w2 ⟨rfl, hw⟩; rw [hw]; clear hw))
        have HST : Hid (Lg w k0 k1 k2 k3 (((((wr.alloc (.cells #[.int .i64 y0, .int .i64 y1, .int .i64 y2, .int .i64 y3] 46)).alloc (.cells #[.int .i64 y0, .int .i64 y1, .int .i64 y2, .int .i64 y3] 46)).setCell ⟨w.heap.size + 1, 0, none⟩ (.int .i64 y0)).setCell ⟨w.heap.size + 1, 1, none⟩ (.int .i64 y1)).setCell ⟨w.heap.size + 1, 2, none⟩ (.int .i64 y2) |>.setCell ⟨w.heap.size + 1, 3, none⟩ (.int .i64 y3))) := by
          obtain ⟨g0, g1, g2, g3⟩ := HK.out
          have := HG.out.put y0 y1 y2 y3
          rw [g0, g1, g2, g3] at this ⊢
          exact this
        go_roundw
        case rel => exact ⟨i + 1, by go_num, by omega, .inr ⟨by have := hik.out; omega, HST.out⟩⟩
        case measure => simp [intOf]; omega
      · have e1 : (y0 == (pl : Int)) = false := by
          have h1 := HU.out i hil hik
          rw [hy] at h1
          have h1 : z0 ≠ pl := h1
          simp; omega
        have HST : Hid ((i + 1 ≤ k ∧ Lg w 0 0 (-1) (-1) ((wr.alloc (.cells #[.int .i64 y0, .int .i64 y1, .int .i64 y2, .int .i64 y3] 46)).alloc (.cells #[.int .i64 y0, .int .i64 y1, .int .i64 y2, .int .i64 y3] 46))) ∨ (k < i + 1 ∧ Lg w k0 k1 k2 k3 ((wr.alloc (.cells #[.int .i64 y0, .int .i64 y1, .int .i64 y2, .int .i64 y3] 46)).alloc (.cells #[.int .i64 y0, .int .i64 y1, .int .i64 y2, .int .i64 y3] 46)))) := by
          rcases HL.out with h | h
          · exact .inl ⟨by omega, h.2.later hf⟩
          · exact .inr ⟨by omega, h.2.later hf⟩
        replace hik := hide hik
        replace hy := hide hy
        replace hy0 := hide hy0
        replace hy1 := hide hy1
        clear hf hnew HL
        go_wp2_with (first
          | (go_at_call 66; refine (tail_any _ _ _ _ _).mono ?_; rintro e w2 ⟨rfl, hw⟩; rw [hw]; clear hw))
        go_roundw
        case rel => exact ⟨i + 1, by go_num, by omega, HST.out⟩
        case measure => simp [intOf]; omega
    · have i1 : ¬ (i : Int) < (R.length : Int) := by omega
      have HG : Hid (Lg w k0 k1 k2 k3 wr) := by
        rcases HL.out with h | h
        · omega
        · exact h.2
      obtain ⟨s0, s1, s2, s3⟩ := HG.out.c
      have t0 := cell_of_row _ w.heap.size 0 _ _ _ HG.out.b6
      have t1 := cell_of_row _ w.heap.size 1 _ _ _ HG.out.b6
      have t2 : wr.cell? ⟨w.heap.size, 2, none⟩ = some (.int .i64 0) := cell_of_row _ w.heap.size 2 _ _ _ HG.out.b6
      have t3 : wr.cell? ⟨w.heap.size, 3, none⟩ = some (.int .i64 0) := cell_of_row _ w.heap.size 3 _ _ _ HG.out.b6
      simp only [List.getElem?_toArray, List.getElem?_cons_succ, List.getElem?_cons_zero] at t0 t1
      have f0 := frozen_of_row _ w.heap.size 0 _ _ HG.out.b6
      have f1 := frozen_of_row _ w.heap.size 1 _ _ HG.out.b6
      have f2 := frozen_of_row _ w.heap.size 2 _ _ HG.out.b6
      have f3 := frozen_of_row _ w.heap.size 3 _ _ HG.out.b6
      have HBF : Hid (Below w.heap.size w ((((wr.setCell ⟨w.heap.size, 0, none⟩ (.int .i64 k0)).setCell ⟨w.heap.size, 1, none⟩ (.int .i64 k1)).setCell ⟨w.heap.size, 2, none⟩ (.int .i64 k2)).setCell ⟨w.heap.size, 3, none⟩ (.int .i64 k3))) := (((HG.out.below.setCell (Nat.le_refl _) _).setCell (Nat.le_refl _) _).setCell (Nat.le_refl _) _).setCell (Nat.le_refl _) _
      clear HL
      have HBX := hide (set_four (x := .int .i64 k0) (y := .int .i64 k1) (z := .int .i64 k2) (u := .int .i64 k3) HG.out.b6)
      go_wp2
      refine bodyPost_ret (results_cell_row rfl _ _ w.heap.size 46 _ (0, 0) _ rfl HBX.out Tryz.underlying46 rfl (by kernel_rfl)) rfl ?_
      exact ⟨rfl, HBF.out⟩
set_option maxRecDepth 100000 in
set_option maxHeartbeats 3200000 in
theorem lightest_head {w : World} {base g cap k : Nat} {R : List Lnk} (h : LRow w base (.slice (some ⟨g, 0, none⟩) R.length cap) R) (hl : R.length ≤ 64) (pl : Nat) (hk : k < R.length) (he : R[k]!.2.1 = pl) (hu : ∀ j, j < R.length → j ≠ k → R[j]!.2.1 ≠ pl) :
    Calls Tryz.prog 71 #[.slice (some ⟨g, 0, none⟩) R.length cap, .func (.func 67) #[] #[], .int .i64 pl] w fun e w' => e = .returned (.agg #[.int .i64 R[k]!.1, .int .i64 R[k]!.2.1, .int .i64 R[k]!.2.2.1, .int .i64 R[k]!.2.2.2]) ∧ Below w.heap.size w w' := by
  have HS := hide (lg_start w)
  have HR := hide h
  have HU := hide hu
  have HE := hide he
  obtain ⟨k0, k1, k2, k3, hke⟩ : ∃ (k0 k1 : Nat) (k2 k3 : Int), R[k]! = (k0, k1, (k2, k3)) := ⟨_, _, _, _, rfl⟩
  rw [hke] at HE ⊢
  replace hke := hide hke
  clear h hu he
  go_enter Tryz.func71, Tryz.ntmps71
  go_wp2
  generalize (w.alloc (.cells #[.int .i64 0, .int .i64 0, .int .i64 0, .int .i64 0] 46)).alloc (.cells #[.int .i64 0, .int .i64 0, .int .i64 (-1), .int .i64 (-1)] 46) = W0 at HS ⊢
  go_loopw [13] (fun vi wr => ∃ i : Nat, vi = .int .i64 i ∧ i ≤ R.length ∧ Hid ((i ≤ k ∧ Lg w 0 0 (-1) (-1) wr) ∨ (k < i ∧ Lg w k0 k1 k2 k3 wr))) (fun vi _ => R.length - (intOf vi).toNat)
  case atStart => exact ⟨0, rfl, Nat.zero_le _, .inl ⟨Nat.zero_le _, HS.out⟩⟩
  case round =>
    clear HS
    obtain ⟨i, rfl, hi, HL⟩ := hrel
    by_cases hil : i < R.length
    · have i1 : (i : Int) < (R.length : Int) := by omega
      have HB : Hid (Below w.heap.size w wr) := by rcases HL.out with h | h; exact h.2.below; exact h.2.below
      have hc := (HR.out.later (Nat.le_refl _) HB.out).cells i hil
      obtain ⟨z0, z1, y2, y3, hy⟩ : ∃ (y0 y1 : Nat) (y2 y3 : Int), R[i]! = (y0, y1, (y2, y3)) := ⟨_, _, _, _, rfl⟩
      rw [hy] at hc
      obtain ⟨q0, q1, q2, q3⟩ := hc
      obtain ⟨y0, hy0⟩ : ∃ y0 : Int, (z0 : Int) = y0 := ⟨_, rfl⟩
      obtain ⟨y1, hy1⟩ : ∃ y1 : Int, (z1 : Int) = y1 := ⟨_, rfl⟩
      simp only [hy0, hy1] at q0 q1 q2 q3
      have hf : Below wr.heap.size wr ((wr.alloc (.cells #[.int .i64 y0, .int .i64 y1, .int .i64 y2, .int .i64 y3] 46)).alloc (.cells #[.int .i64 y0, .int .i64 y1, .int .i64 y2, .int .i64 y3] 46)) := below_two (Below.refl _ _) (Nat.le_refl _) _ _
      have hnew : ((wr.alloc (.cells #[.int .i64 y0, .int .i64 y1, .int .i64 y2, .int .i64 y3] 46)).alloc (.cells #[.int .i64 y0, .int .i64 y1, .int .i64 y2, .int .i64 y3] 46)).heap[wr.heap.size]? = some (.cells #[.int .i64 y0, .int .i64 y1, .int .i64 y2, .int .i64 y3] 46 (0, 0)) := by rw [Below.heap_alloc _ _ _ (by simp)]; exact heap_alloc_new _ _
      have v2 := cell_of_row _ wr.heap.size 2 _ _ _ hnew
      have v0 := cell_of_row _ wr.heap.size 0 _ _ _ hnew
      have v1 := cell_of_row _ wr.heap.size 1 _ _ _ hnew
      have v3 : ((wr.alloc (.cells #[.int .i64 y0, .int .i64 y1, .int .i64 y2, .int .i64 y3] 46)).alloc (.cells #[.int .i64 y0, .int .i64 y1, .int .i64 y2, .int .i64 y3] 46)).cell? ⟨wr.heap.size, 3, none⟩ = some (.int .i64 y3) := cell_of_row _ wr.heap.size 3 _ _ _ hnew
      have v2 : ((wr.alloc (.cells #[.int .i64 y0, .int .i64 y1, .int .i64 y2, .int .i64 y3] 46)).alloc (.cells #[.int .i64 y0, .int .i64 y1, .int .i64 y2, .int .i64 y3] 46)).cell? ⟨wr.heap.size, 2, none⟩ = some (.int .i64 y2) := cell_of_row _ wr.heap.size 2 _ _ _ hnew
      simp only [List.getElem?_toArray, List.getElem?_cons_succ, List.getElem?_cons_zero] at v0 v1
      by_cases hik : i = k
      · have HG : Hid (Lg w 0 0 (-1) (-1) ((wr.alloc (.cells #[.int .i64 y0, .int .i64 y1, .int .i64 y2, .int .i64 y3] 46)).alloc (.cells #[.int .i64 y0, .int .i64 y1, .int .i64 y2, .int .i64 y3] 46))) := by
          rcases HL.out with h | h
          · exact h.2.later hf
          · omega
        have e1 : (y1 == (pl : Int)) = true := by
          have h1 : k1 = pl := HE.out
          have h2 := hke.out
          rw [← hik, hy] at h2
          cases h2
          simp; omega
        have HK : Hid (y0 = (k0 : Int) ∧ y1 = (k1 : Int) ∧ y2 = k2 ∧ y3 = k3) := by
          have h2 := hke.out
          rw [← hik, hy] at h2
          cases h2
          exact ⟨hy0.symm, hy1.symm, rfl, rfl⟩
        obtain ⟨s0, s1, s2, s3⟩ := HG.out.c
        have f0 := frozen_of_row _ (w.heap.size + 1) 0 _ _ HG.out.b7
        have f1 := frozen_of_row _ (w.heap.size + 1) 1 _ _ HG.out.b7
        have f2 := frozen_of_row _ (w.heap.size + 1) 2 _ _ HG.out.b7
        have f3 := frozen_of_row _ (w.heap.size + 1) 3 _ _ HG.out.b7
        replace hik := hide hik
        replace hy := hide hy
        replace hy0 := hide hy0
        replace hy1 := hide hy1
        clear hf hnew HL
        go_wp2_with (first
          | (go_at_call 67; refine (head_any _ _ _ _ _).mono ?_; rintro e w2 ⟨rfl, hw⟩; rw [hw]; clear hw)
          | (go_at_call 41; refine (lighter_any y2 (-1) _).mono ?_; rintro e w2 ⟨rfl, hw⟩; rw [hw]; clear hw))
        have HST : Hid (Lg w k0 k1 k2 k3 (((((wr.alloc (.cells #[.int .i64 y0, .int .i64 y1, .int .i64 y2, .int .i64 y3] 46)).alloc (.cells #[.int .i64 y0, .int .i64 y1, .int .i64 y2, .int .i64 y3] 46)).setCell ⟨w.heap.size + 1, 0, none⟩ (.int .i64 y0)).setCell ⟨w.heap.size + 1, 1, none⟩ (.int .i64 y1)).setCell ⟨w.heap.size + 1, 2, none⟩ (.int .i64 y2) |>.setCell ⟨w.heap.size + 1, 3, none⟩ (.int .i64 y3))) := by
          obtain ⟨g0, g1, g2, g3⟩ := HK.out
          have := HG.out.put y0 y1 y2 y3
          rw [g0, g1, g2, g3] at this ⊢
          exact this
        go_roundw
        case rel => exact ⟨i + 1, by go_num, by omega, .inr ⟨by have := hik.out; omega, HST.out⟩⟩
        case measure => simp [intOf]; omega
      · have e1 : (y1 == (pl : Int)) = false := by
          have h1 := HU.out i hil hik
          rw [hy] at h1
          have h1 : z1 ≠ pl := h1
          simp; omega
        have HST : Hid ((i + 1 ≤ k ∧ Lg w 0 0 (-1) (-1) ((wr.alloc (.cells #[.int .i64 y0, .int .i64 y1, .int .i64 y2, .int .i64 y3] 46)).alloc (.cells #[.int .i64 y0, .int .i64 y1, .int .i64 y2, .int .i64 y3] 46))) ∨ (k < i + 1 ∧ Lg w k0 k1 k2 k3 ((wr.alloc (.cells #[.int .i64 y0, .int .i64 y1, .int .i64 y2, .int .i64 y3] 46)).alloc (.cells #[.int .i64 y0, .int .i64 y1, .int .i64 y2, .int .i64 y3] 46)))) := by
          rcases HL.out with h | h
          · exact .inl ⟨by omega, h.2.later hf⟩
          · exact .inr ⟨by omega, h.2.later hf⟩
        replace hik := hide hik
        replace hy := hide hy
        replace hy0 := hide hy0
        replace hy1 := hide hy1
        clear hf hnew HL
        go_wp2_with (first
          | (go_at_call 67; refine (head_any _ _ _ _ _).mono ?_; rintro e w2 ⟨rfl, hw⟩; rw [hw]; clear hw))
        go_roundw
        case rel => exact ⟨i + 1, by go_num, by omega, HST.out⟩
        case measure => simp [intOf]; omega
    · have i1 : ¬ (i : Int) < (R.length : Int) := by omega
      have HG : Hid (Lg w k0 k1 k2 k3 wr) := by
        rcases HL.out with h | h
        · omega
        · exact h.2
      obtain ⟨s0, s1, s2, s3⟩ := HG.out.c
      have t0 := cell_of_row _ w.heap.size 0 _ _ _ HG.out.b6
      have t1 := cell_of_row _ w.heap.size 1 _ _ _ HG.out.b6
      have t2 : wr.cell? ⟨w.heap.size, 2, none⟩ = some (.int .i64 0) := cell_of_row _ w.heap.size 2 _ _ _ HG.out.b6
      have t3 : wr.cell? ⟨w.heap.size, 3, none⟩ = some (.int .i64 0) := cell_of_row _ w.heap.size 3 _ _ _ HG.out.b6
      simp only [List.getElem?_toArray, List.getElem?_cons_succ, List.getElem?_cons_zero] at t0 t1
      have f0 := frozen_of_row _ w.heap.size 0 _ _ HG.out.b6
      have f1 := frozen_of_row _ w.heap.size 1 _ _ HG.out.b6
      have f2 := frozen_of_row _ w.heap.size 2 _ _ HG.out.b6
      have f3 := frozen_of_row _ w.heap.size 3 _ _ HG.out.b6
      have HBF : Hid (Below w.heap.size w ((((wr.setCell ⟨w.heap.size, 0, none⟩ (.int .i64 k0)).setCell ⟨w.heap.size, 1, none⟩ (.int .i64 k1)).setCell ⟨w.heap.size, 2, none⟩ (.int .i64 k2)).setCell ⟨w.heap.size, 3, none⟩ (.int .i64 k3))) := (((HG.out.below.setCell (Nat.le_refl _) _).setCell (Nat.le_refl _) _).setCell (Nat.le_refl _) _).setCell (Nat.le_refl _) _
      clear HL
      have HBX := hide (set_four (x := .int .i64 k0) (y := .int .i64 k1) (z := .int .i64 k2) (u := .int .i64 k3) HG.out.b6)
      go_wp2
      refine bodyPost_ret (results_cell_row rfl _ _ w.heap.size 46 _ (0, 0) _ rfl HBX.out Tryz.underlying46 rfl (by kernel_rfl)) rfl ?_
      exact ⟨rfl, HBF.out⟩
end Go.Proofs.YtojkdmkeankcgaaGreat
/-  The opener's memory: the map of ways that are known, beside the lifted graph. -/
namespace Go.Proofs.YtojkdmkeankcgaaGreat
open Go.RowKit Go.Sort

theorem fr_below {b : Nat} {w w' : World} (h : Below w.heap.size w w') : Fr b w w' := ⟨h.os, h.tape, h.output, h.size, fun k hk _ => h.block k hk⟩
theorem map_tag {n mb : Nat} {w : World} {F : Nat → Option Value} (h : MapAt2 n w mb F) : ∃ es c, w.heap[mb]? = some (.map es c) := by
  obtain ⟨D, ⟨es, clock, hb, _⟩, _⟩ := h
  exact ⟨es, clock, hb⟩
theorem row_tag {w : World} {base g : Nat} {v : Value} {xs : List Int} (h : IRow w base v xs) (hg : v.ownBlock = some g) : ∃ cur, w.heap[g]? = some (.cells cur 3 (0, 0)) := by
  rcases h.2 with ⟨e, _⟩ | ⟨g', cap, cur, e, _, hb, _⟩
  · rw [e] at hg; cases hg
  · rw [e] at hg; cases hg; exact ⟨cur, hb⟩
/-- A row of numbers stays while the map alone turns. -/
theorem irow_fr {n mb base : Nat} {w w' : World} {F : Nat → Option Value} {v : Value} {xs : List Int} (h : IRow w base v xs) (hm : MapAt2 n w mb F) (f : Fr mb w w') : IRow w' base v xs :=
  own_of_block h fun g hg => by
    obtain ⟨cur, hc⟩ := row_tag h hg
    obtain ⟨es, c, hb⟩ := map_tag hm
    refine f.block g (h.lt g hg).2 fun e => ?_
    rw [e, hb] at hc
    cases hc
theorem known_pos {n : Nat} {W : Nat → Nat → Option Int} {K : Mx} {p q : Nat} {L : List Nat} (h : Known n W K p q L) : 0 < L.length ∧ L.length ≤ n := by
  obtain ⟨x, _, hw⟩ := h
  refine ⟨?_, hw.len⟩
  cases L with
  | nil => have := hw.first; cases this
  | cons a r => simp
/-- The lifted graph, the map of known ways, apart. -/
structure OpA (n : Nat) (W : Nat → Nat → Option Int) (K : Mx) (rk : Nat → Nat) (rv : Nat → Int) (b : LfB) (mb : Nat) (w : World) : Prop where
  lf : LfA n w b rv (upM K rk) (dnM K rk)
  apart : ¬ b.S n mb
  map : ∃ F, MapAt2 n w mb F ∧ ∀ c v, c < n * n → F c = some v → ∃ L, IRow w 0 v (natsI L) ∧ Known n W K (c / n) (c % n) L
section
variable {n mb : Nat} {W : Nat → Nat → Option Int} {K : Mx} {rk : Nat → Nat} {rv : Nat → Int} {b : LfB} {w w' : World}
theorem OpA.later (h : OpA n W K rk rv b mb w) (f : Below w.heap.size w w') : OpA n W K rk rv b mb w' := by
  obtain ⟨F, h1, h2⟩ := h.map
  exact ⟨h.lf.later f, h.apart, F, h1.of_block (f.block mb h1.lt), fun c v hc hv => by
    obtain ⟨L, h3, h4⟩ := h2 c v hc hv
    exact ⟨L, h3.later (Nat.le_refl _) f, h4⟩⟩
theorem OpA.lt (h : OpA n W K rk rv b mb w) : mb < w.heap.size := by
  obtain ⟨F, h1, _⟩ := h.map
  exact h1.lt
theorem OpA.tag (h : OpA n W K rk rv b mb w) : ∃ es c, w.heap[mb]? = some (.map es c) := by
  obtain ⟨F, h1, _⟩ := h.map
  exact map_tag h1
theorem OpA.ne (h : OpA n W K rk rv b mb w) {g : Nat} {cs : Array Value} {t : TypeId} {z : Nat × Nat} (hg : w.heap[g]? = some (.cells cs t z)) : g ≠ mb := fun e => by
  obtain ⟨es, c, hb⟩ := h.tag
  rw [e, hb] at hg
  cases hg
theorem OpA.row (h : OpA n W K rk rv b mb w) {base : Nat} {v : Value} {xs : List Int} (hr : IRow w base v xs) (f : Fr mb w w') : IRow w' base v xs := by
  obtain ⟨F, h1, _⟩ := h.map
  exact irow_fr hr h1 f
theorem zero27 (w : World) : (zeroValue 27).run Tryz.prog w = .ok (.slice none 0 0) w := by kernel_rfl
/-- What is looked up: a way that is known, or nothing. -/
theorem OpA.look (h : OpA n W K rk rv b mb w) (hn : n ≤ 32) {p q : Nat} (hp : p < n) (hq : q < n) :
    ((Instr.lookup 82 (.map (some mb)) (.agg #[.int .i64 p, .int .i64 q]) true).run Tryz.prog w = .ok (.tuple #[.slice none 0 0, .bool false]) w) ∨
    ∃ g k L, (Instr.lookup 82 (.map (some mb)) (.agg #[.int .i64 p, .int .i64 q]) true).run Tryz.prog w = .ok (.tuple #[.slice (some ⟨g, 0, none⟩) L.length k, .bool true]) w ∧ IRow w 0 (.slice (some ⟨g, 0, none⟩) L.length k) (natsI L) ∧ Known n W K p q L := by
  obtain ⟨F, h1, h2⟩ := h.map
  obtain ⟨e1, e2⟩ := cell_div (p := p) hq
  have hc := cell_lt hp hq
  have hl := h1.look (t := 82) (e := 27) Tryz.underlying82 (zero27 w) hn hc
  rw [e1, e2] at hl
  cases hF : F (p * n + q) with
  | none =>
    rw [hF] at hl
    exact .inl hl
  | some v =>
    rw [hF] at hl
    obtain ⟨L, h3, h4⟩ := h2 _ v hc hF
    rw [e1, e2] at h4
    have h5 := (known_pos h4).1
    obtain ⟨g, k, rfl, _⟩ := h3.form (by rw [natsI_len]; exact h5)
    rw [natsI_len] at h3 hl
    exact .inr ⟨g, k, L, hl, h3, h4⟩
theorem OpA.store (h : OpA n W K rk rv b mb w) (hn : n ≤ 32) {p q : Nat} (hp : p < n) (hq : q < n) {v : Value} {L : List Nat} (hr : IRow w 0 v (natsI L)) (hk : Known n W K p q L) :
    ∃ w', (Instr.mapUpdate 82 (.map (some mb)) (.agg #[.int .i64 p, .int .i64 q]) v).run Tryz.prog w = .ok () w' ∧ OpA n W K rk rv b mb w' ∧ Fr mb w w' ∧ IRow w' 0 v (natsI L) := by
  obtain ⟨F, h1, h2⟩ := h.map
  obtain ⟨e1, e2⟩ := cell_div (p := p) hq
  have hc := cell_lt hp hq
  obtain ⟨w', r1, r2, r3⟩ := h1.store (t := 82) (e := 27) Tryz.underlying82 hn hc v
  rw [e1, e2] at r1
  have r4 := r3.grown
  have f : Fr mb w w' := ⟨r4.os, r4.tape, r4.output, r4.size, fun k hk hne => r4.block k hk (fun e => hne (Option.some.inj e))⟩
  refine ⟨w', r1, ⟨?_, h.apart, _, r2, fun c u hc' hu => ?_⟩, f, irow_fr hr h1 f⟩
  · exact h.lf.of_blocks fun k hk => f.block k (h.lf.lt hk) fun e => h.apart (e ▸ hk)
  · by_cases e : c = p * n + q
    · subst e
      unfold upd at hu
      rw [if_pos rfl] at hu
      cases hu
      rw [e1, e2]
      exact ⟨L, irow_fr hr h1 f, hk⟩
    · unfold upd at hu
      rw [if_neg e] at hu
      obtain ⟨L', h3, h4⟩ := h2 c u hc' hu
      exact ⟨L', irow_fr h3 h1 f, h4⟩
end
end Go.Proofs.YtojkdmkeankcgaaGreat
/-  What the call of climb's open does: a link opened into a way of edges. -/
namespace Go.Proofs.YtojkdmkeankcgaaGreat
open Go.RowKit Go.Sort

theorem bl_on {w w' w'' : World} (h : Below w.heap.size w w') (k : Below w'.heap.size w' w'') : Below w.heap.size w w'' := h.trans (k.mono h.size)
theorem bl_drew {w w' : World} (h : Below w.heap.size w w') : Below w.heap.size w w'.drew := h.drew
theorem bl_alloc {w w' : World} {o : Obj} (h : Below w.heap.size w w') : Below w.heap.size w (w'.alloc o) := h.alloc h.size o
abbrev box4 : Obj := .cells #[.int .i64 0, .int .i64 0, .int .i64 0, .int .i64 0] 46 (0, 0)
theorem bx4_on {w w' : World} {p : Nat} (h : Below w.heap.size w w') (hp : w.heap[p]? = some box4) : w'.heap[p]? = some box4 := (h.block p (Array.getElem?_eq_some_iff.1 hp).1).trans hp
theorem bx4_facts {w : World} {p : Nat} (h : w.heap[p]? = some box4) : w.cell? ⟨p, 0, none⟩ = some (.int .i64 0) ∧ w.cell? ⟨p, 1, none⟩ = some (.int .i64 0) ∧ w.cell? ⟨p, 2, none⟩ = some (.int .i64 0) ∧ w.cell? ⟨p, 3, none⟩ = some (.int .i64 0) ∧ w.frozen? ⟨p, 0, none⟩ = false ∧ w.frozen? ⟨p, 1, none⟩ = false ∧ w.frozen? ⟨p, 2, none⟩ = false ∧ w.frozen? ⟨p, 3, none⟩ = false ∧ p < w.heap.size := by
  refine ⟨?_, ?_, ?_, ?_, frozen_of_row w p 0 _ _ h, frozen_of_row w p 1 _ _ h, frozen_of_row w p 2 _ _ h, frozen_of_row w p 3 _ _ h, (Array.getElem?_eq_some_iff.1 h).1⟩
  · rw [cell_of_row w p 0 _ _ _ h]; rfl
  · rw [cell_of_row w p 1 _ _ _ h]; rfl
  · rw [cell_of_row w p 2 _ _ _ h]; rfl
  · rw [cell_of_row w p 3 _ _ _ h]; rfl
theorem bl_set4 {w w' : World} {g : Nat} {x y z u : Value} (h : Below w.heap.size w w') (hg : w.heap.size ≤ g) : Below w.heap.size w ((((w'.setCell ⟨g, 0, none⟩ x).setCell ⟨g, 1, none⟩ y).setCell ⟨g, 2, none⟩ z).setCell ⟨g, 3, none⟩ u) := (((h.setCell hg _).setCell hg _).setCell hg _).setCell hg _
theorem ne4 {a b : Nat} (h : a + 2 < b) : ¬ a = b ∧ ¬ b = a ∧ ¬ a + 1 = b ∧ ¬ b = a + 1 := by omega
theorem lrow_alloc {w : World} {b : Nat} {v : Value} {L : List Lnk} {o : Obj} (h : LRow w b v L) : LRow (w.alloc o) b v L := h.later (Nat.le_refl _) ((Below.refl _ _).alloc (Nat.le_refl _) o)
theorem lrow_drew {w : World} {b : Nat} {v : Value} {L : List Lnk} (h : LRow w b v L) : LRow w.drew b v L := h.later (Nat.le_refl _) (Below.refl _ _).drew
theorem LRow.slc {w : World} {base : Nat} {v : Value} {L : List Lnk} (h : LRow w base v L) (hn : 0 < L.length) : ∃ g k, v = .slice (some ⟨g, 0, none⟩) L.length k := by
  rcases h.2 with ⟨_, h0⟩ | ⟨g, cap, cur, hv, _⟩
  · omega
  · exact ⟨g, cap, hv⟩
theorem down_c {n c j d : Nat} {w : World} {b : LfB} {rv : Nat → Int} {U V : Mx} (h : LfA n w b rv U V) (hn : n ≤ 32) (hc : c < n) (hj : j < d) (hd : (dnL n V c).length = d) :
    Calls Tryz.prog 19 #[.pointer (some ⟨b.l, 0, none⟩), .int .i64 c] w fun e w' => ∃ g k, e = .returned (.slice (some ⟨g, 0, none⟩) d k) ∧ LRow w' 0 (.slice (some ⟨g, 0, none⟩) d k) (dnL n V c) ∧ Below w.heap.size w w' := by
  refine (ldown_any h hn hc).mono ?_
  rintro e w' ⟨v, rfl, h1, h2⟩
  obtain ⟨g, k, rfl⟩ := h1.slc (by omega)
  rw [hd] at h1 ⊢
  exact ⟨g, k, rfl, h1.mono (Nat.zero_le _), h2⟩
theorem up_c {n c j d : Nat} {w : World} {b : LfB} {rv : Nat → Int} {U V : Mx} (h : LfA n w b rv U V) (hn : n ≤ 32) (hc : c < n) (hj : j < d) (hd : (upL n U c).length = d) :
    Calls Tryz.prog 18 #[.pointer (some ⟨b.l, 0, none⟩), .int .i64 c] w fun e w' => ∃ g k, e = .returned (.slice (some ⟨g, 0, none⟩) d k) ∧ LRow w' 0 (.slice (some ⟨g, 0, none⟩) d k) (upL n U c) ∧ Below w.heap.size w w' := by
  refine (lup_any h hn hc).mono ?_
  rintro e w' ⟨v, rfl, h1, h2⟩
  obtain ⟨g, k, rfl⟩ := h1.slc (by omega)
  rw [hd] at h1 ⊢
  exact ⟨g, k, rfl, h1.mono (Nat.zero_le _), h2⟩
theorem light_t {w : World} {g k j d a c : Nat} {y m : Int} {R : List Lnk} (h : LRow w 0 (.slice (some ⟨g, 0, none⟩) d k) R) (hd : R.length = d) (hl : d ≤ 64) (hj : j < d) (hr : R[j]! = (a, c, (y, m))) (hu : ∀ i, i < R.length → i ≠ j → R[i]!.1 ≠ a) :
    Calls Tryz.prog 71 #[.slice (some ⟨g, 0, none⟩) d k, .func (.func 66) #[] #[], .int .i64 a] w fun e w' => e = .returned (.agg #[.int .i64 a, .int .i64 c, .int .i64 y, .int .i64 m]) ∧ Below w.heap.size w w' := by
  subst hd
  have := lightest_tail h hl a hj (by rw [hr]) hu
  rw [hr] at this
  exact this
theorem light_h {w : World} {g k j d a c : Nat} {y m : Int} {R : List Lnk} (h : LRow w 0 (.slice (some ⟨g, 0, none⟩) d k) R) (hd : R.length = d) (hl : d ≤ 64) (hj : j < d) (hr : R[j]! = (a, c, (y, m))) (hu : ∀ i, i < R.length → i ≠ j → R[i]!.2.1 ≠ c) :
    Calls Tryz.prog 71 #[.slice (some ⟨g, 0, none⟩) d k, .func (.func 67) #[] #[], .int .i64 c] w fun e w' => e = .returned (.agg #[.int .i64 a, .int .i64 c, .int .i64 y, .int .i64 m]) ∧ Below w.heap.size w w' := by
  subst hd
  have := lightest_head h hl c hj (by rw [hr]) hu
  rw [hr] at this
  exact this
/-- Behind the opener's boxes. -/
structure OnA (n : Nat) (W : Nat → Nat → Option Int) (K : Mx) (rk : Nat → Nat) (rv : Nat → Int) (b : LfB) (mb p q : Nat) (x m : Int) (B : Nat) (w wr : World) : Prop where
  op : OpA n W K rk rv b mb wr
  fr : Fr mb w wr
  b0 : wr.heap[B]? = some (.cells #[.func (.func 18) #[.pointer (some ⟨b.l, 0, none⟩)] #[], .func (.func 19) #[.pointer (some ⟨b.l, 0, none⟩)] #[], .map (some mb)] 84 (0, 0))
  b1 : wr.heap[B + 1]? = some (.cells #[.int .i64 p, .int .i64 q, .int .i64 x, .int .i64 m] 46 (0, 0))
  b2 : wr.heap[B + 2]? = some (.cells #[.int .i64 p, .int .i64 q] 126 (0, 0))
section
variable {n mb p q B : Nat} {W : Nat → Nat → Option Int} {K : Mx} {rk : Nat → Nat} {rv : Nat → Int} {b : LfB} {x m : Int} {w wr w' : World}
theorem OnA.turn (h : OnA n W K rk rv b mb p q x m B w wr) (ho : OpA n W K rk rv b mb w') (f : Fr mb wr w') : OnA n W K rk rv b mb p q x m B w w' :=
  ⟨ho, h.fr.trans f, (f.block B (Array.getElem?_eq_some_iff.1 h.b0).1 (h.op.ne h.b0)).trans h.b0, (f.block _ (Array.getElem?_eq_some_iff.1 h.b1).1 (h.op.ne h.b1)).trans h.b1, (f.block _ (Array.getElem?_eq_some_iff.1 h.b2).1 (h.op.ne h.b2)).trans h.b2⟩
theorem OnA.later (h : OnA n W K rk rv b mb p q x m B w wr) (f : Below wr.heap.size wr w') : OnA n W K rk rv b mb p q x m B w w' := h.turn (h.op.later f) (fr_below f)
theorem OnA.c (h : OnA n W K rk rv b mb p q x m B w wr) : wr.cell? ⟨B, 0, none⟩ = some (.func (.func 18) #[.pointer (some ⟨b.l, 0, none⟩)] #[]) ∧ wr.cell? ⟨B, 1, none⟩ = some (.func (.func 19) #[.pointer (some ⟨b.l, 0, none⟩)] #[]) ∧ wr.cell? ⟨B, 2, none⟩ = some (.map (some mb)) ∧ wr.cell? ⟨B + 1, 0, none⟩ = some (.int .i64 p) ∧ wr.cell? ⟨B + 1, 1, none⟩ = some (.int .i64 q) ∧ wr.cell? ⟨B + 1, 3, none⟩ = some (.int .i64 m) ∧ wr.cell? ⟨B + 2, 0, none⟩ = some (.int .i64 p) ∧ wr.cell? ⟨B + 2, 1, none⟩ = some (.int .i64 q) := by
  refine ⟨?_, ?_, ?_, ?_, ?_, ?_, ?_, ?_⟩
  · rw [cell_of_row _ B 0 _ _ _ h.b0]; rfl
  · rw [cell_of_row _ B 1 _ _ _ h.b0]; rfl
  · rw [cell_of_row _ B 2 _ _ _ h.b0]; rfl
  · rw [cell_of_row _ _ 0 _ _ _ h.b1]; rfl
  · rw [cell_of_row _ _ 1 _ _ _ h.b1]; rfl
  · rw [cell_of_row _ _ 3 _ _ _ h.b1]; rfl
  · rw [cell_of_row _ _ 0 _ _ _ h.b2]; rfl
  · rw [cell_of_row _ _ 1 _ _ _ h.b2]; rfl
end
/-- Behind the two links' boxes too. -/
structure On9 (n : Nat) (W : Nat → Nat → Option Int) (K : Mx) (rk : Nat → Nat) (rv : Nat → Int) (b : LfB) (mb p q : Nat) (x m : Int) (B : Nat) (w : World) (g9 g10 c : Nat) (y m1 z m2 : Int) (wr : World) : Prop where
  on : OnA n W K rk rv b mb p q x m B w wr
  b9 : wr.heap[g9]? = some (.cells #[.int .i64 p, .int .i64 c, .int .i64 y, .int .i64 m1] 46 (0, 0))
  b10 : wr.heap[g10]? = some (.cells #[.int .i64 c, .int .i64 q, .int .i64 z, .int .i64 m2] 46 (0, 0))
section
variable {n mb p q B g9 g10 c : Nat} {W : Nat → Nat → Option Int} {K : Mx} {rk : Nat → Nat} {rv : Nat → Int} {b : LfB} {x m y m1 z m2 : Int} {w wr w' : World}
theorem On9.turn (h : On9 n W K rk rv b mb p q x m B w g9 g10 c y m1 z m2 wr) (ho : OpA n W K rk rv b mb w') (f : Fr mb wr w') : On9 n W K rk rv b mb p q x m B w g9 g10 c y m1 z m2 w' :=
  ⟨h.on.turn ho f, (f.block _ (Array.getElem?_eq_some_iff.1 h.b9).1 (h.on.op.ne h.b9)).trans h.b9, (f.block _ (Array.getElem?_eq_some_iff.1 h.b10).1 (h.on.op.ne h.b10)).trans h.b10⟩
theorem On9.later (h : On9 n W K rk rv b mb p q x m B w g9 g10 c y m1 z m2 wr) (f : Below wr.heap.size wr w') : On9 n W K rk rv b mb p q x m B w g9 g10 c y m1 z m2 w' := h.turn (h.on.op.later f) (fr_below f)
theorem On9.cs (h : On9 n W K rk rv b mb p q x m B w g9 g10 c y m1 z m2 wr) : wr.cell? ⟨B, 0, none⟩ = some (.func (.func 18) #[.pointer (some ⟨b.l, 0, none⟩)] #[]) ∧ wr.cell? ⟨B, 1, none⟩ = some (.func (.func 19) #[.pointer (some ⟨b.l, 0, none⟩)] #[]) ∧ wr.cell? ⟨B, 2, none⟩ = some (.map (some mb)) ∧
    wr.cell? ⟨g9, 0, none⟩ = some (.int .i64 p) ∧ wr.cell? ⟨g9, 1, none⟩ = some (.int .i64 c) ∧ wr.cell? ⟨g9, 2, none⟩ = some (.int .i64 y) ∧ wr.cell? ⟨g9, 3, none⟩ = some (.int .i64 m1) ∧
    wr.cell? ⟨g10, 0, none⟩ = some (.int .i64 c) ∧ wr.cell? ⟨g10, 1, none⟩ = some (.int .i64 q) ∧ wr.cell? ⟨g10, 2, none⟩ = some (.int .i64 z) ∧ wr.cell? ⟨g10, 3, none⟩ = some (.int .i64 m2) := by
  obtain ⟨a0, a1, a2, _⟩ := h.on.c
  refine ⟨a0, a1, a2, ?_, ?_, ?_, ?_, ?_, ?_, ?_, ?_⟩
  · rw [cell_of_row _ _ 0 _ _ _ h.b9]; rfl
  · rw [cell_of_row _ _ 1 _ _ _ h.b9]; rfl
  · rw [cell_of_row _ _ 2 _ _ _ h.b9]; rfl
  · rw [cell_of_row _ _ 3 _ _ _ h.b9]; rfl
  · rw [cell_of_row _ _ 0 _ _ _ h.b10]; rfl
  · rw [cell_of_row _ _ 1 _ _ _ h.b10]; rfl
  · rw [cell_of_row _ _ 2 _ _ _ h.b10]; rfl
  · rw [cell_of_row _ _ 3 _ _ _ h.b10]; rfl
end
theorem on_start {n mb p q : Nat} {W : Nat → Nat → Option Int} {K : Mx} {rk : Nat → Nat} {rv : Nat → Int} {b : LfB} {x m : Int} {w : World} (h : OpA n W K rk rv b mb w) :
    OnA n W K rk rv b mb p q x m w.heap.size w (((w.alloc (.cells #[.func (.func 18) #[.pointer (some ⟨b.l, 0, none⟩)] #[], .func (.func 19) #[.pointer (some ⟨b.l, 0, none⟩)] #[], .map (some mb)] 84)).alloc (.cells #[.int .i64 p, .int .i64 q, .int .i64 x, .int .i64 m] 46)).alloc (.cells #[.int .i64 p, .int .i64 q] 126)) := by
  have f1 : Below w.heap.size w (w.alloc (.cells #[.func (.func 18) #[.pointer (some ⟨b.l, 0, none⟩)] #[], .func (.func 19) #[.pointer (some ⟨b.l, 0, none⟩)] #[], .map (some mb)] 84)) := (Below.refl _ _).alloc (Nat.le_refl _) _
  have f2 := bl_alloc (o := .cells #[.int .i64 p, .int .i64 q, .int .i64 x, .int .i64 m] 46) f1
  have f3 := bl_alloc (o := .cells #[.int .i64 p, .int .i64 q] 126) f2
  have h1 := heap_alloc_new w (.cells #[.func (.func 18) #[.pointer (some ⟨b.l, 0, none⟩)] #[], .func (.func 19) #[.pointer (some ⟨b.l, 0, none⟩)] #[], .map (some mb)] 84)
  have h2 := heap_alloc_new (w.alloc (.cells #[.func (.func 18) #[.pointer (some ⟨b.l, 0, none⟩)] #[], .func (.func 19) #[.pointer (some ⟨b.l, 0, none⟩)] #[], .map (some mb)] 84)) (.cells #[.int .i64 p, .int .i64 q, .int .i64 x, .int .i64 m] 46)
  have h3 := heap_alloc_new ((w.alloc (.cells #[.func (.func 18) #[.pointer (some ⟨b.l, 0, none⟩)] #[], .func (.func 19) #[.pointer (some ⟨b.l, 0, none⟩)] #[], .map (some mb)] 84)).alloc (.cells #[.int .i64 p, .int .i64 q, .int .i64 x, .int .i64 m] 46)) (.cells #[.int .i64 p, .int .i64 q] 126)
  rw [show (w.alloc (.cells #[.func (.func 18) #[.pointer (some ⟨b.l, 0, none⟩)] #[], .func (.func 19) #[.pointer (some ⟨b.l, 0, none⟩)] #[], .map (some mb)] 84)).heap.size = w.heap.size + 1 by simp] at h2
  rw [show ((w.alloc (.cells #[.func (.func 18) #[.pointer (some ⟨b.l, 0, none⟩)] #[], .func (.func 19) #[.pointer (some ⟨b.l, 0, none⟩)] #[], .map (some mb)] 84)).alloc (.cells #[.int .i64 p, .int .i64 q, .int .i64 x, .int .i64 m] 46)).heap.size = w.heap.size + 2 by simp] at h3
  refine ⟨h.later f3, fr_below f3, ?_, ?_, h3⟩
  · rw [Below.heap_alloc _ _ _ (by simp; omega), Below.heap_alloc _ _ _ (by simp)]; exact h1
  · rw [Below.heap_alloc _ _ _ (by simp)]; exact h2
theorem row_pq (w : World) (p q : Nat) {B : Nat} (hB : w.heap.size = B) : IRow (w.alloc (.cells #[.int .i64 p, .int .i64 q] 3)) 0 (.slice (some ⟨B, 0, none⟩) 2 2) (natsI [p, q]) := by
  subst hB
  exact ⟨rfl, .inr ⟨w.heap.size, 2, #[.int .i64 p, .int .i64 q], rfl, Nat.zero_le _, heap_alloc_new _ _, Nat.le_refl _, by decide, rfl, rfl⟩⟩
/-- What open does with links of lesser rank than t at one end. -/
def OpenC (n : Nat) (W : Nat → Nat → Option Int) (K : Mx) (rk : Nat → Nat) (rv : Nat → Int) (b : LfB) (mb t : Nat) : Prop :=
  ∀ (p q : Nat) (x m : Int) (w : World), K p q = some (x, m) → (rk p < t ∨ rk q < t) → OpA n W K rk rv b mb w →
    Calls Tryz.prog 48 #[.agg #[.func (.func 18) #[.pointer (some ⟨b.l, 0, none⟩)] #[], .func (.func 19) #[.pointer (some ⟨b.l, 0, none⟩)] #[], .map (some mb)], .agg #[.int .i64 p, .int .i64 q, .int .i64 x, .int .i64 m]] w fun e w' => ∃ g k L, e = .returned (.slice (some ⟨g, 0, none⟩) L.length k) ∧ IRow w' 0 (.slice (some ⟨g, 0, none⟩) L.length k) (natsI L) ∧ Known n W K p q L ∧ OpA n W K rk rv b mb w' ∧ Fr mb w w'
theorem OpenC.use {n mb t p q : Nat} {W : Nat → Nat → Option Int} {K : Mx} {rk : Nat → Nat} {rv : Nat → Int} {b : LfB} {x m : Int} {w : World} (h : OpenC n W K rk rv b mb t) (hK : K p q = some (x, m)) (ht : rk p < t ∨ rk q < t) (hO : OpA n W K rk rv b mb w) :
    Calls Tryz.prog 48 #[.agg #[.func (.func 18) #[.pointer (some ⟨b.l, 0, none⟩)] #[], .func (.func 19) #[.pointer (some ⟨b.l, 0, none⟩)] #[], .map (some mb)], .agg #[.int .i64 p, .int .i64 q, .int .i64 x, .int .i64 m]] w fun e w' => ∃ g k L, e = .returned (.slice (some ⟨g, 0, none⟩) L.length k) ∧ IRow w' 0 (.slice (some ⟨g, 0, none⟩) L.length k) (natsI L) ∧ Known n W K p q L ∧ OpA n W K rk rv b mb w' ∧ Fr mb w w' := h p q x m w hK ht hO
set_option maxRecDepth 100000 in
set_option maxHeartbeats 6400000 in
theorem open_step {n mb t : Nat} {W : Nat → Nat → Option Int} {K : Mx} {rk : Nat → Nat} {rv : Nat → Int} {b : LfB} (hn : n ≤ 32) (hL : Lft n W n K rk) (hpos : ∀ a b x, W a b = some x → 0 ≤ x) (IH : OpenC n W K rk rv b mb t) : OpenC n W K rk rv b mb (t + 1) := by
  intro p q x m w hK ht hO
  obtain ⟨hp, hq, hne, hx0, _⟩ := hL.lk p q x m hK
  have HN := hide hn
  have HO := hide hO
  have HLf := hide hL
  have HPO := hide hpos
  have HIH := hide IH
  have HK := hide hK
  have HT := hide ht
  have HPQ := hide (And.intro hp hq)
  have HON := hide (on_start (p := p) (q := q) (x := x) (m := m) hO)
  obtain ⟨B, hB⟩ : ∃ B, w.heap.size = B := ⟨_, rfl⟩
  rw [hB] at HON
  have HW0 := hide HON.out.fr
  rcases HON.out.op.look hn hp hq with hlook | ⟨g, k, L, hlook, hrow, hkn⟩
  · have HRW := hide (row_pq (((w.alloc (.cells #[.func (.func 18) #[.pointer (some ⟨b.l, 0, none⟩)] #[], .func (.func 19) #[.pointer (some ⟨b.l, 0, none⟩)] #[], .map (some mb)] 84)).alloc (.cells #[.int .i64 p, .int .i64 q, .int .i64 x, .int .i64 m] 46)).alloc (.cells #[.int .i64 p, .int .i64 q] 126)) p q (B := B + 3) (by simp [hB]))
    have HO4 := hide (HON.out.later (bl_alloc (o := .cells #[.int .i64 p, .int .i64 q] 3) (Below.refl _ _)))
    rcases hL.mid p q x m hK with ⟨rfl, hWx⟩ | ⟨c, hc, rfl, hcp, hcq, _, y, z, hy, hz, hxs⟩
    · obtain ⟨w5, r1, r2, r3, r4⟩ := HO4.out.op.store hn hp hq HRW.out (known_edge hK hp hq hne hWx)
      have HE := hide (And.intro r4 (And.intro (known_edge hK hp hq hne hWx) (And.intro r2 (HO4.out.fr.trans r3))))
      clear hL hpos IH hK ht hO hn r2 r3 r4 HON HW0 HO4 HRW hWx
      go_enter Tryz.func48, Tryz.ntmps48
      go_wp2
      go_ret
      exact ⟨B + 3, 2, [p, q], rfl, HE.out⟩
    · obtain ⟨m1, hK1⟩ := wtM_some.1 hy
      obtain ⟨m2, hK2⟩ := wtM_some.1 hz
      obtain ⟨j1, hj1, hr1, hu1⟩ := dnL_one (V := dnM K rk) (q := c) hp (show dnM K rk p c = some (y, m1) by unfold dnM; rw [if_pos (by omega)]; exact hK1)
      obtain ⟨j2, hj2, hr2, hu2⟩ := upL_one (U := upM K rk) (p := c) hq (show upM K rk c q = some (z, m2) by unfold upM; rw [if_pos (by omega)]; exact hK2)
      obtain ⟨d1, hd1⟩ : ∃ d, (dnL n (dnM K rk) c).length = d := ⟨_, rfl⟩
      obtain ⟨d2, hd2⟩ : ∃ d, (upL n (upM K rk) c).length = d := ⟨_, rfl⟩
      have l1 : d1 ≤ 64 := by have := dnL_len n (dnM K rk) c; omega
      have l2 : d2 ≤ 64 := by have := upL_len n (upM K rk) c; omega
      rw [hd1] at hj1
      rw [hd2] at hj2
      have H1 := hide (And.intro hj1 (And.intro hd1 (And.intro hr1 hu1)))
      have H2 := hide (And.intro hj2 (And.intro hd2 (And.intro hr2 hu2)))
      have HC := hide hc
      have HLL := hide (And.intro l1 l2)
      have HKK := hide (And.intro hK1 (And.intro hK2 (And.intro hy (And.intro hz (And.intro hxs (And.intro hcp hcq))))))
      clear hL hpos IH hK ht hO hn hj1 hd1 hr1 hu1 hj2 hd2 hr2 hu2 hK1 hK2 hy hz hxs l1 l2 HON HW0 HRW
      go_enter Tryz.func48, Tryz.ntmps48
      go_wp2
      try rw [hB]
      clear hlook hB
      generalize (((w.alloc (.cells #[.func (.func 18) #[.pointer (some ⟨b.l, 0, none⟩)] #[], .func (.func 19) #[.pointer (some ⟨b.l, 0, none⟩)] #[], .map (some mb)] 84)).alloc (.cells #[.int .i64 p, .int .i64 q, .int .i64 x, .int .i64 (c : Int)] 46)).alloc (.cells #[.int .i64 p, .int .i64 q] 126)).alloc (.cells #[.int .i64 p, .int .i64 q] 3) = W0 at HO4 ⊢
      obtain ⟨x0, x1, x2, x3, x4, x5, _, _⟩ := HO4.out.c
      have HBB : Hid (B + 2 < W0.heap.size) := (Array.getElem?_eq_some_iff.1 HO4.out.b2).1
      obtain ⟨_, _, _, _⟩ := ne4 HBB.out
      go_cut [9] from 33 to 40 (fun v9 wx => ∃ g9, v9 = .pointer (some ⟨g9, 0, none⟩) ∧ Hid (Below W0.heap.size W0 wx ∧ wx.heap[g9]? = some (.cells #[.int .i64 p, .int .i64 c, .int .i64 y, .int .i64 m1] 46 (0, 0))))
      case first =>
        first | (go_region_held3 (fun w' => w'.cell? ⟨B, 1, none⟩ = some (.func (.func 19) #[.pointer (some ⟨b.l, 0, none⟩)] #[]) ∧ w'.cell? ⟨B + 1, 3, none⟩ = some (.int .i64 c) ∧ w'.cell? ⟨B + 1, 0, none⟩ = some (.int .i64 p)) (first | (simp [go_sem, *]; done) | go_keep) (first
          | (go_at_call 19; refine (down_c (HO4.out.op.lf.later (by repeat first | exact Below.refl _ _ | exact HB6.out | exact HB5.out | refine bl_drew ?_ | refine bl_alloc ?_)) HN.out HC.out H1.out.1 H1.out.2.1).mono ?_; rintro e w5 ⟨g5, k5, rfl, h1, h2⟩; have HB5 := hide (bl_on (w := W0) (by repeat first | exact Below.refl _ _ | exact HB6.out | exact HB5.out | refine bl_drew ?_ | refine bl_alloc ?_) h2); have HL5 := hide h1; obtain ⟨_, y1, _, y3, _, y5, _, _⟩ := (HO4.out.later HB5.out).c; obtain ⟨_, _, _, _⟩ := ne4 (Nat.lt_of_lt_of_le HBB.out HB5.out.size); (try (have g := bx4_on h2 (p := W0.heap.size) (by first | exact heap_alloc_new _ _ | exact HG.out); obtain ⟨_, _, _, _, _, _, _, _, _⟩ := bx4_facts g; have HG := hide g; clear g)); clear h1 h2)
          | (go_at_call 71; have HV := HL5; clear HV; refine (light_t (by repeat first | exact HL5.out | refine lrow_drew ?_ | refine lrow_alloc ?_) H1.out.2.1 HLL.out.1 H1.out.1 H1.out.2.2.1 H1.out.2.2.2).mono ?_; rintro e w6 ⟨rfl, h2⟩; have HB6 := hide (bl_on (w := W0) (by repeat first | exact Below.refl _ _ | exact HB6.out | exact HB5.out | refine bl_drew ?_ | refine bl_alloc ?_) h2); obtain ⟨_, u1, _, u3, _, u5, _, _⟩ := (HO4.out.later HB6.out).c; obtain ⟨_, _, _, _⟩ := ne4 (Nat.lt_of_lt_of_le HBB.out HB6.out.size); (try (have g := bx4_on h2 (p := W0.heap.size) (by first | exact heap_alloc_new _ _ | exact HG.out); obtain ⟨_, _, _, _, _, _, _, _, _⟩ := bx4_facts g; have HG := hide g; clear g)); (try (have g := bx4_on h2 (p := w5.heap.size) (by first | exact heap_alloc_new _ _ | exact HG.out); obtain ⟨_, _, _, _, _, _, _, _, _⟩ := bx4_facts g; have HG := hide g; clear g)); clear h2))) | fail
        all_goals
          go_wp2_with fail
          go_meet
          case rel => first | exact ⟨_, rfl, bl_alloc HB6.out, heap_alloc_new _ _⟩ | exact ⟨_, rfl, bl_set4 HB6.out HB5.out.size, set_four HG.out⟩ | exact ⟨_, rfl, bl_set4 HB6.out (Nat.le_refl _), set_four HG.out⟩
      case rest =>
        obtain ⟨g9, rfl, HC1⟩ := hcut
        have HO5 := hide (HO4.out.later HC1.out.1)
        clear x0 x1 x2 x3 x4 x5 HO4 HBB
        obtain ⟨x0, x1, x2, x3, x4, x5, _, _⟩ := HO5.out.c
        have HBB : Hid (B + 2 < wc.heap.size) := (Array.getElem?_eq_some_iff.1 HO5.out.b2).1
        obtain ⟨_, _, _, _⟩ := ne4 HBB.out
        go_wp2_with fail
        go_cut [10] from 41 to 48 (fun v10 wx => ∃ g10, v10 = .pointer (some ⟨g10, 0, none⟩) ∧ Hid (Below wc.heap.size wc wx ∧ wx.heap[g10]? = some (.cells #[.int .i64 c, .int .i64 q, .int .i64 z, .int .i64 m2] 46 (0, 0))))
        case first =>
          first | (go_region_held3 (fun w' => w'.cell? ⟨B, 0, none⟩ = some (.func (.func 18) #[.pointer (some ⟨b.l, 0, none⟩)] #[]) ∧ w'.cell? ⟨B + 1, 3, none⟩ = some (.int .i64 c) ∧ w'.cell? ⟨B + 1, 1, none⟩ = some (.int .i64 q)) (first | (simp [go_sem, *]; done) | go_keep) (first
            | (go_at_call 18; refine (up_c (HO5.out.op.lf.later (by repeat first | exact Below.refl _ _ | exact HB6.out | exact HB5.out | refine bl_drew ?_ | refine bl_alloc ?_)) HN.out HC.out H2.out.1 H2.out.2.1).mono ?_; rintro e w5 ⟨g5, k5, rfl, h1, h2⟩; have HB5 := hide (bl_on (w := wc) (by repeat first | exact Below.refl _ _ | exact HB6.out | exact HB5.out | refine bl_drew ?_ | refine bl_alloc ?_) h2); have HL5 := hide h1; obtain ⟨y1, _, _, _, y3, y5, _, _⟩ := (HO5.out.later HB5.out).c; obtain ⟨_, _, _, _⟩ := ne4 (Nat.lt_of_lt_of_le HBB.out HB5.out.size); (try (have g := bx4_on h2 (p := wc.heap.size) (by first | exact heap_alloc_new _ _ | exact HG.out); obtain ⟨_, _, _, _, _, _, _, _, _⟩ := bx4_facts g; have HG := hide g; clear g)); clear h1 h2)
            | (go_at_call 71; have HV := HL5; clear HV; refine (light_h (by repeat first | exact HL5.out | refine lrow_drew ?_ | refine lrow_alloc ?_) H2.out.2.1 HLL.out.2 H2.out.1 H2.out.2.2.1 H2.out.2.2.2).mono ?_; rintro e w6 ⟨rfl, h2⟩; have HB6 := hide (bl_on (w := wc) (by repeat first | exact Below.refl _ _ | exact HB6.out | exact HB5.out | refine bl_drew ?_ | refine bl_alloc ?_) h2); obtain ⟨u1, _, _, _, u3, u5, _, _⟩ := (HO5.out.later HB6.out).c; obtain ⟨_, _, _, _⟩ := ne4 (Nat.lt_of_lt_of_le HBB.out HB6.out.size); (try (have g := bx4_on h2 (p := wc.heap.size) (by first | exact heap_alloc_new _ _ | exact HG.out); obtain ⟨_, _, _, _, _, _, _, _, _⟩ := bx4_facts g; have HG := hide g; clear g)); (try (have g := bx4_on h2 (p := w5.heap.size) (by first | exact heap_alloc_new _ _ | exact HG.out); obtain ⟨_, _, _, _, _, _, _, _, _⟩ := bx4_facts g; have HG := hide g; clear g)); clear h2))) | fail
          all_goals
            go_wp2_with fail
            go_meet
            case rel => first | exact ⟨_, rfl, bl_alloc HB6.out, heap_alloc_new _ _⟩ | exact ⟨_, rfl, bl_set4 HB6.out HB5.out.size, set_four HG.out⟩ | exact ⟨_, rfl, bl_set4 HB6.out (Nat.le_refl _), set_four HG.out⟩
        case rest =>
          obtain ⟨g10, rfl, HC2⟩ := hcut
          have HN6 : Hid (On9 n W K rk rv b mb p q x (c : Int) B w g9 g10 c y m1 z m2 wc) := ⟨HO5.out.later HC2.out.1, (HC2.out.1.block g9 (Array.getElem?_eq_some_iff.1 HC1.out.2).1).trans HC1.out.2, HC2.out.2⟩
          have HN6D := hide (HN6.out.later (Below.refl _ _).drew)
          clear x0 x1 x2 x3 x4 x5 HO5 HBB HC1 HC2
          obtain ⟨s0, s1, s2, s3, s4, s5, s6, s7, s8, s9, s10⟩ := HN6.out.cs
          have HT1 : Hid (rk c < t) := by
            have h1 := HT.out
            have h2 := HKK.out.2.2.2.2.2
            show rk c < t
            omega
          go_wp2_with fail
          go_cut [8] from 49 to 55 (fun v8 wx => ∃ g8 k8 L, v8 = .slice (some ⟨g8, 0, none⟩) (List.length L) k8 ∧ Hid (IRow wx 0 (.slice (some ⟨g8, 0, none⟩) L.length k8) (natsI L) ∧ Known n W K p q L ∧ OnA n W K rk rv b mb p q x (c : Int) B w wx))
          case first =>
            go_region_held3 (fun w' => w'.cell? ⟨B, 0, none⟩ = some (.func (.func 18) #[.pointer (some ⟨b.l, 0, none⟩)] #[]) ∧ w'.cell? ⟨B, 1, none⟩ = some (.func (.func 19) #[.pointer (some ⟨b.l, 0, none⟩)] #[]) ∧ w'.cell? ⟨B, 2, none⟩ = some (.map (some mb)) ∧ w'.cell? ⟨g9, 0, none⟩ = some (.int .i64 p) ∧ w'.cell? ⟨g9, 1, none⟩ = some (.int .i64 c) ∧ w'.cell? ⟨g9, 2, none⟩ = some (.int .i64 y) ∧ w'.cell? ⟨g9, 3, none⟩ = some (.int .i64 m1) ∧ w'.cell? ⟨g10, 0, none⟩ = some (.int .i64 c) ∧ w'.cell? ⟨g10, 1, none⟩ = some (.int .i64 q) ∧ w'.cell? ⟨g10, 2, none⟩ = some (.int .i64 z) ∧ w'.cell? ⟨g10, 3, none⟩ = some (.int .i64 m2)) (first | (simp [go_sem, *]; done) | go_keep) (first
              | (go_at_call 48; with_reducible refine (OpenC.use HIH.out HKK.out.1 (.inr HT1.out) (On9.on (by first | exact HN8.out | exact HN7.out | exact HN6D.out | exact HN6.out)).op).mono ?_; rintro e w7 ⟨g7, k7, L7, rfl, h1, h2, h3, h4⟩; have HN7 := hide (On9.turn (by first | exact HN8.out | exact HN7.out | exact HN6D.out | exact HN6.out) h3 h4); have HR7 := hide (And.intro h1 h2); (try (have HR8b := hide (And.intro (HN8.out.on.op.row HR8.out.1 h4) HR8.out.2))); obtain ⟨_, _, _, _, _, _, _, _, _, _, _⟩ := HN7.out.cs; clear h1 h2 h3 h4)
              | (go_at_call 48; with_reducible refine (OpenC.use HIH.out HKK.out.2.1 (.inl HT1.out) (On9.on (by first | exact HN8.out | exact HN7.out | exact HN6D.out | exact HN6.out)).op).mono ?_; rintro e w8 ⟨g8, k8, L8, rfl, h1, h2, h3, h4⟩; have HN8 := hide (On9.turn (by first | exact HN8.out | exact HN7.out | exact HN6D.out | exact HN6.out) h3 h4); have HR8 := hide (And.intro h1 h2); (try (have HR7b := hide (And.intro (HN7.out.on.op.row HR7.out.1 h4) HR7.out.2))); obtain ⟨_, _, _, _, _, _, _, _, _, _, _⟩ := HN8.out.cs; clear h1 h2 h3 h4)
              | (go_at_call 47; refine (joined_any (by first | exact HR7b.out.1 | exact HR7.out.1) (by first | exact HR8b.out.1 | exact HR8.out.1) (by have h := known_pos HR7.out.2; have h' := HN.out; exact ⟨h.1, Nat.le_trans h.2 h'⟩) (by have h := known_pos HR8.out.2; have h' := HN.out; exact Nat.le_trans h.2 h')).mono ?_; rintro e w9 ⟨v9, rfl, h1, h2⟩; have HJ := hide (And.intro h1 (On9.later (by first | exact HN8.out | exact HN7.out | exact HN6D.out | exact HN6.out) h2)); obtain ⟨_, _, _, _, _, _, _, _, _, _, _⟩ := HJ.out.2.cs; clear h1 h2))
            have HKN := hide (known_join HPO.out HK.out HKK.out.2.2.1 HKK.out.2.2.2.1 HKK.out.2.2.2.2.1 HR7.out.2 HR8.out.2)
            obtain ⟨ga, ka, ea, _⟩ := HJ.out.1.form (by rw [natsI_len]; exact (known_pos HKN.out).1)
            rw [natsI_len] at ea
            subst ea
            go_wp2_with fail
            go_meet
            case rel => exact ⟨ga, ka, joinM L7 L8, rfl, HJ.out.1.mono (Nat.zero_le _), HKN.out, HJ.out.2.on⟩
          case rest =>
            obtain ⟨g8, k8, L, rfl, HE⟩ := hcut
            obtain ⟨w11, r1, r2, r3, r4⟩ := HE.out.2.2.op.store HN.out HPQ.out.1 HPQ.out.2 HE.out.1 HE.out.2.1
            have HF := hide (And.intro r4 (And.intro HE.out.2.1 (And.intro r2 (HE.out.2.2.fr.trans r3))))
            clear s0 s1 s2 s3 s4 s5 s6 s7 s8 s9 s10 r2 r3 r4
            obtain ⟨_, _, x2, _, _, _, x6, x7⟩ := HE.out.2.2.c
            have z6 : wc.cell? ⟨B + 1 + 1, 0, none⟩ = some (.int .i64 p) := x6
            have z7 : wc.cell? ⟨B + 1 + 1, 1, none⟩ = some (.int .i64 q) := x7
            go_wp2
            go_ret
            exact ⟨g8, k8, L, rfl, HF.out⟩
  · have HR := hide (And.intro hrow hkn)
    clear hrow hkn hL hpos IH hK ht hO hn
    go_enter Tryz.func48, Tryz.ntmps48
    go_wp2
    go_ret
    exact ⟨g, k, L, rfl, HR.out.1, HR.out.2, HON.out.op, HW0.out⟩
theorem open_all {n mb : Nat} {W : Nat → Nat → Option Int} {K : Mx} {rk : Nat → Nat} {rv : Nat → Int} {b : LfB} (hn : n ≤ 32) (hL : Lft n W n K rk) (hpos : ∀ a b x, W a b = some x → 0 ≤ x) : ∀ t, OpenC n W K rk rv b mb t
  | 0 => fun p q x m w _ ht => absurd ht (by omega)
  | t + 1 => open_step hn hL hpos (open_all hn hL hpos t)
theorem open_any {n mb p q : Nat} {W : Nat → Nat → Option Int} {K : Mx} {rk : Nat → Nat} {rv : Nat → Int} {b : LfB} {x m : Int} {w : World} (hn : n ≤ 32) (hL : Lft n W n K rk) (hpos : ∀ a b x, W a b = some x → 0 ≤ x) (hK : K p q = some (x, m)) (hO : OpA n W K rk rv b mb w) :
    Calls Tryz.prog 48 #[.agg #[.func (.func 18) #[.pointer (some ⟨b.l, 0, none⟩)] #[], .func (.func 19) #[.pointer (some ⟨b.l, 0, none⟩)] #[], .map (some mb)], .agg #[.int .i64 p, .int .i64 q, .int .i64 x, .int .i64 m]] w fun e w' => ∃ g k L, e = .returned (.slice (some ⟨g, 0, none⟩) L.length k) ∧ IRow w' 0 (.slice (some ⟨g, 0, none⟩) L.length k) (natsI L) ∧ Known n W K p q L ∧ OpA n W K rk rv b mb w' ∧ Fr mb w w' :=
  open_all hn hL hpos (rk p + 1) p q x m w hK (.inl (by omega)) hO
end Go.Proofs.YtojkdmkeankcgaaGreat
