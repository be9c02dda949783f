/-
  What the law of dropping (QueueDrops) does.
-/
import Derived.Test.YtbgolkkfpajkdaaDropsA
import Derived.Deep.LoopGhost
namespace Go.Proofs.Ytbgolkkfpajkdaa
open Go.RowKit Go.Maps

theorem zero4 (w : World) : (zeroValue 4).run Try.prog w = .ok (.bool false) w := by kernel_rfl
theorem plainElem_bool_inv {v : Value} {z : DataW Unit × List MemPlace} (h : plainElem Try.prog 4 v = some z) : ∃ b, v = .bool b ∧ z = (.lit (.bool b), []) := by
  unfold plainElem at h
  rw [Try.underlying4] at h
  cases v <;> simp at h
  exact ⟨_, rfl, h.symm⟩
def dB (b : Bool) : DataW Unit := .lit (.bool b)
/-- D holds true at just the numbers of G. -/
def GoneIn (D : DataW Unit) (G : List Int) : Prop := ∀ x, D.atKey (ki x) (dB false) = dB (decide (x ∈ G))
theorem gone_put {D : DataW Unit} {G : List Int} (h : GoneIn D G) (ht : Tidy D) (d : Int) : GoneIn (D.put (ki d) (dB true)) (G ++ [d]) := by
  intro x
  by_cases e : x = d
  · subst e
    rw [atKey_put_same ht.isMap (ki_key _)]
    simp
  · rw [atKey_put_other (ki_ne e), h x]
    simp [e]
abbrev BR (mb n : Nat) (D : DataW Unit) := MapR 4 mb n D
section
variable {B qa qb mb n : Nat} {w w' w0 : World} {X Y : List Pr} {D : DataW Unit} {G : List Int}
theorem look_gone (h : Two B (TwoR qb Y (BR mb n D)) w qa X) (hG : GoneIn D G) (x : Int) (hx : I64 x) : (Instr.lookup 43 (.map (some mb)) (.int .i64 x) false).run Try.prog w = .ok (.bool (decide (x ∈ G))) w := by
  obtain ⟨T, ⟨rfl, hD⟩⟩ := TwoR.get h
  obtain ⟨v, ps, hr, hv⟩ := World.ownsMap.lookup hD law Try.underlying43 (zero4 w) (plainElem_bool Try.underlying4 false) (keyOf3 hx)
  obtain ⟨b, rfl, hb⟩ := plainElem_bool_inv hv
  have := hG x
  unfold dB at this
  rw [this] at hb
  simp at hb
  rw [hr, ← hb.1]
theorem store_gone (h : Two B (TwoR qb Y (BR mb n D)) w qa X) (hB : B ≤ w.heap.size) (hn : n < 9223372036854775807) (x : Int) (hx : I64 x) : ∃ w', (Instr.mapUpdate 43 (.map (some mb)) (.int .i64 x) (.bool true)).run Try.prog w = .ok () w' ∧ Two B (TwoR qb Y (BR mb (n + 1) (D.put (ki x) (dB true)))) w' qa X ∧ Below B w w' ∧ Tidy D := by
  obtain ⟨T, ⟨rfl, hD⟩⟩ := TwoR.get h
  obtain ⟨w', hrun, hD2, hturn⟩ := World.ownsMap.store (w := w) (t := 43) (e := 4) hD law Try.underlying43 (by unfold maxLen; omega) (keyOf3 hx) (plainElem_bool Try.underlying4 true)
  obtain ⟨g1, g2⟩ := TwoR.third (R' := BR mb (n + 1) (D.put (ki x) (dB true))) (w' := w') h hB (fun T hT hl => by
    obtain ⟨rfl, _⟩ := hT
    exact ⟨Fr.of_grown hturn.grown (fun k e => by cases e; rfl), rfl, hD2⟩)
  exact ⟨w', hrun, g1, g2, hD.tidy law⟩
theorem start_drops {w1 w2 w3 : World} (hb1 : Below B w w1) (hB : w.heap.size = B) (hq : QAt w2 w1.heap.size [] (fun b => b = w1.heap.size)) (hb : Below w1.heap.size w1 w2) (hz : w2.heap.size = w1.heap.size + 1)
    (hq3 : QAt w3 w2.heap.size [] (fun b => b = w2.heap.size)) (hb3 : Below w2.heap.size w2 w3) (hz3 : w3.heap.size = w2.heap.size + 1) :
    Two B (TwoR w2.heap.size [] (BR w3.heap.size 0 (.map []))) (w3.alloc (.map #[] 0)) w1.heap.size [] ∧ Below B w (w3.alloc (.map #[] 0)) := by
  have h1 : B ≤ w1.heap.size := by rw [← hB]; exact hb1.size
  have hA : Below w3.heap.size w3 (w3.alloc (.map #[] 0)) := (Below.refl _ _).alloc (Nat.le_refl _) _
  refine ⟨⟨_, fun k => k = w2.heap.size ∨ k = w3.heap.size, (hq.later hb3).later hA, ⟨_, _, hq3.later hA, ⟨rfl, World.ownsMap_made _ _ _ _⟩, fun k e => by subst e; simp, fun k e e2 => by omega, fun k => Iff.rfl⟩, fun k e => by simp; omega, fun k e e2 => by omega, fun k e => by omega, fun k e => by omega⟩, ?_⟩
  exact ((hb1.trans (hb.mono h1)).trans (hb3.mono (by omega))).alloc (by omega) _
theorem TwoR.keeps : Keeps (TwoR qb Y (BR mb n D)) := keeps_two (keeps_map 4 mb n D)
/-- What stands behind so many drops: the map. -/
def D1 (B qa qb mb : Nat) (w0 w : World) (n : Nat) (G : List Int) : Prop := ∃ D, Two B (TwoR qb [] (BR mb n D)) w qa [] ∧ GoneIn D G ∧ Below B w0 w
/-- What stands behind so many puts: two queues. -/
def D2 (B qa qb mb : Nat) (w0 w : World) (m : Nat) (G : List Int) : Prop := ∃ n D X, Two B (TwoR qb (less G X) (BR mb n D)) w qa X ∧ GoneIn D G ∧ X.length ≤ m ∧ Below B w0 w
/-- .. and of the first so many are gone. -/
def D3 (B qa qb mb : Nat) (w0 w : World) (k : Nat) (G : List Int) : Prop := ∃ n D X, Two B (TwoR qb (less G X) (BR mb n D)) w qa X ∧ (∀ p ∈ X, p.1 ∉ G.take k) ∧ X.length ≤ 200 ∧ Below B w0 w

theorem Two.drew2 (h : Two B (TwoR qb Y (BR mb n D)) w qa X) : Two B (TwoR qb Y (BR mb n D)) w.drew qa X := h.later TwoR.keeps ((Below.refl _ _).drew)
theorem below_drew {w3 : World} (h : Below B w.drew w3) : Below B w w3 := ((Below.refl B w).drew).trans h
theorem round_in {m : Nat} (h : D2 B qa qb mb w0 w m G) (hB : B ≤ w.heap.size) (x k : Int) (hx : I64 x) (hk : I64 k) (hG : x ∈ G) :
    Calls Try.prog 16 #[.pointer (some ⟨qa, 0, none⟩), .int .i64 x, .int .i64 k] w.drew fun e w3 => ∃ b, e = .returned (.bool b) ∧ Below B w w3 ∧ (Instr.lookup 43 (.map (some mb)) (.int .i64 x) false).run Try.prog w3 = .ok (.bool true) w3 ∧ D2 B qa qb mb w0 w3 (m + 1) G := by
  obtain ⟨n, D, X, hT, hgo, hl, hb⟩ := h
  refine (two_put TwoR.keeps hT.drew2 hB x k hx hk).mono ?_
  rintro e w3 ⟨rfl, h3, hb3⟩
  have hr := look_gone h3 hgo x hx
  rw [decide_eq_true hG] at hr
  refine ⟨_, rfl, below_drew hb3, hr, n, D, (putM X x k).1, ?_, hgo, by have := put_len2 X x k; omega, hb.trans (below_drew hb3)⟩
  rw [put_less_in hG]
  exact h3
theorem round_out {m : Nat} (h : D2 B qa qb mb w0 w m G) (hm : m < 200) (hB : B ≤ w.heap.size) (x k : Int) (hx : I64 x) (hk : I64 k) (hG : x ∉ G) :
    Calls Try.prog 16 #[.pointer (some ⟨qa, 0, none⟩), .int .i64 x, .int .i64 k] w.drew fun e w3 => ∃ b, e = .returned (.bool b) ∧ Below B w w3 ∧ (Instr.lookup 43 (.map (some mb)) (.int .i64 x) false).run Try.prog w3 = .ok (.bool false) w3 ∧
      Calls Try.prog 16 #[.pointer (some ⟨qb, 0, none⟩), .int .i64 x, .int .i64 k] w3.drew fun e w4 => ∃ b, e = .returned (.bool b) ∧ D2 B qa qb mb w0 w4 (m + 1) G := by
  obtain ⟨n, D, X, hT, hgo, hl, hb⟩ := h
  refine (two_put TwoR.keeps hT.drew2 hB x k hx hk).mono ?_
  rintro e w3 ⟨rfl, h3, hb3⟩
  have hr := look_gone h3 hgo x hx
  rw [decide_eq_false hG] at hr
  have hb3' := below_drew hb3
  refine ⟨_, rfl, hb3', hr, (twoB_put (keeps_map 4 mb n D) h3.drew2 (Nat.le_trans hB hb3'.size) x k hx hk).mono ?_⟩
  rintro e w4 ⟨rfl, h4, hb4⟩
  refine ⟨_, rfl, n, D, (putM X x k).1, ?_, hgo, by have := put_len2 X x k; omega, hb.trans (hb3'.trans (below_drew hb4))⟩
  rw [put_less_out hG (by omega)]
  exact h4
theorem start3 (h : D2 B qa qb mb w0 w 200 G) : D3 B qa qb mb w0 w 0 G := by
  obtain ⟨n, D, X, hT, hgo, hl, hb⟩ := h
  exact ⟨n, D, X, hT, fun p _ => by simp, hl, hb⟩
theorem D2.up {m m' : Nat} (h : D2 B qa qb mb w0 w m G) (hm : m ≤ m') : D2 B qa qb mb w0 w m' G := by
  obtain ⟨n, D, X, hT, hgo, hl, hb⟩ := h
  exact ⟨n, D, X, hT, hgo, by omega, hb⟩
theorem round_drop {k : Nat} (h : D3 B qa qb mb w0 w k G) (hk : k < G.length) (hB : B ≤ w.heap.size) (d : Int) (hd : I64 d) (e : G.getD k 0 = d) :
    ∃ (b : Bool) (c : Int), Calls Try.prog 14 #[.pointer (some ⟨qa, 0, none⟩), .int .i64 d] w (fun e w' => e = .returned (.tuple #[.int .i64 c, .bool b]) ∧ w' = w) ∧
      Calls Try.prog 12 #[.pointer (some ⟨qa, 0, none⟩), .int .i64 d] w fun e w3 => e = .returned (.bool b) ∧
        Calls Try.prog 12 #[.pointer (some ⟨qa, 0, none⟩), .int .i64 d] w3 fun e w4 => e = .returned (.bool false) ∧ D3 B qa qb mb w0 w4 (k + 1) G := by
  obtain ⟨n, D, X, hT, hn, hl, hb⟩ := h
  have hmem : d ∈ G := by
    have e2 : G.getD k 0 = G[k] := by simp [List.getD, hk]
    rw [← e, e2]; exact List.getElem_mem _
  refine ⟨(look X d).isSome, (keyM X d).1, by have := two_key hT d hd; rw [keyM_some] at this; exact this, (two_drop TwoR.keeps hT hB d hd).mono ?_⟩
  rintro e3 w3 ⟨rfl, h3, hb3⟩
  have H := two_drop TwoR.keeps h3 (Nat.le_trans hB hb3.size) d hd
  rw [look_drop_same] at H
  refine ⟨rfl, H.mono ?_⟩
  rintro e4 w4 ⟨rfl, h4, hb4⟩
  rw [drop_none (look_drop_same X d)] at h4
  refine ⟨rfl, n, D, dropM X d, by rw [less_drop hmem]; exact h4, fun p hp => ?_, Nat.le_trans (List.length_filter_le _ _) hl, hb.trans (hb3.trans hb4)⟩
  have hp2 := List.mem_filter.1 hp
  have ht : G.take (k + 1) = G.take k ++ [d] := by
    rw [List.take_succ_eq_append_getElem hk, ← e]
    simp [List.getD, hk]
  rw [ht]
  have h5 := hn p hp2.1
  have h6 : p.1 ≠ d := by simpa using hp2.2
  simp [h5, h6]
/-- Both queues hold the same. -/
def D4 (B qa qb mb : Nat) (w0 w : World) (X : List Pr) : Prop := ∃ n D, Two B (TwoR qb X (BR mb n D)) w qa X ∧ Below B w0 w
theorem start4 {k : Nat} (h : D3 B qa qb mb w0 w k G) (hk : G.length ≤ k) : ∃ X, D4 B qa qb mb w0 w X := by
  obtain ⟨n, D, X, hT, hn, hl, hb⟩ := h
  rw [List.take_of_length_le hk] at hn
  rw [less_all hn] at hT
  exact ⟨X, n, D, hT, hb⟩
theorem round_take (h : D4 B qa qb mb w0 w X) (hB : B ≤ w.heap.size) (p : Pr) (hp : Least X p) :
    Calls Try.prog 10 #[.pointer (some ⟨qa, 0, none⟩)] w fun e w3 => e = .returned (.tuple #[.int .i64 p.1, .int .i64 p.2, .bool true]) ∧
      Calls Try.prog 10 #[.pointer (some ⟨qb, 0, none⟩)] w3 fun e w4 => e = .returned (.tuple #[.int .i64 p.1, .int .i64 p.2, .bool true]) ∧ D4 B qa qb mb w0 w4 (dropM X p.1) := by
  obtain ⟨n, D, hT, hb⟩ := h
  refine (two_take TwoR.keeps hT hB p hp).mono ?_
  rintro e3 w3 ⟨rfl, h3, hb3⟩
  refine ⟨rfl, (twoB_take (keeps_map 4 mb n D) h3 (Nat.le_trans hB hb3.size) p hp).mono ?_⟩
  rintro e4 w4 ⟨rfl, h4, hb4⟩
  exact ⟨rfl, n, D, h4, hb.trans (hb3.trans hb4)⟩

set_option maxRecDepth 100000 in
set_option maxHeartbeats 12800000 in
theorem drops_any (xa ya za : Option Addr) (xc yc zc : Nat) (xs ys zs : List Int) (w : World) (hx : Ints w xa xs) (hy : Ints w ya ys) (hz : Ints w za zs) (hzl : zs.length ≤ 9223372036854775807) :
    Calls Try.prog 7 #[.slice xa xs.length xc, .slice ya ys.length yc, .slice za zs.length zc] w fun e w' => e = .returned (.bool true) ∧ Below w.heap.size w w' := by
  obtain ⟨B, hB⟩ : ∃ B, w.heap.size = B := ⟨_, rfl⟩
  have HA := hide (awake_any w)
  rw [hB] at HA ⊢
  have HB := hide hB
  have HX := hide hx
  have HY := hide hy
  have HZ := hide hz
  clear hB hx hy hz
  have hmm := @run_makeMap Try.prog
  go_enter Try.func7, Try.ntmps7
  go_wp2_with (first | (go_at_call 8; refine HA.out.mono ?_; rintro e w1 ⟨rfl, hb1⟩; have H1 := hide hb1; clear hb1) | (go_at_call 9; refine (new_any w2).mono ?_; rintro e w3 ⟨rfl, hq, hb, hz⟩; have H3 := hide (And.intro hq (And.intro hb hz)); clear hq hb hz) | (go_at_call 9; refine (new_any w1).mono ?_; rintro e w2 ⟨rfl, hq, hb, hz⟩; have H2 := hide (And.intro hq (And.intro hb hz)); clear hq hb hz))
  have HS := hide (start_drops H1.out HB.out H2.out.1 H2.out.2.1 H2.out.2.2 H3.out.1 H3.out.2.1 H3.out.2.2)
  obtain ⟨qa, hqa⟩ : ∃ Q, w1.heap.size = Q := ⟨_, rfl⟩
  obtain ⟨qb, hqb⟩ : ∃ Q, w2.heap.size = Q := ⟨_, rfl⟩
  obtain ⟨mb, hmb⟩ : ∃ mb, w3.heap.size = mb := ⟨_, rfl⟩
  rw [hqa, hqb, hmb] at HS
  rw [hqa, hqb, hmb]
  generalize w3.alloc (.map #[] 0) = W0 at HS ⊢
  clear H1 H2 H3 hqa hqb hmb hmm HA
  go_loopw [30] (fun i wr => ∃ k : Nat, i = .int .i64 k ∧ k ≤ zs.length ∧ Hid (D1 B qa qb mb w wr k (zs.take k))) (fun i _ => zs.length - (intOf i).toNat)
  case atStart => exact ⟨0, rfl, Nat.zero_le _, .map [], HS.out.1, fun x => rfl, HS.out.2⟩
  case round =>
    obtain ⟨k, rfl, hkz, HR⟩ := hrel
    clear HS
    obtain ⟨D, hTwo, hG, hbw⟩ := HR.out
    have hBr : B ≤ wr.heap.size := Nat.le_trans (Nat.le_of_eq HB.out.symm) hbw.size
    by_cases hlt : k < zs.length
    · obtain ⟨bz, oz, rfl, cz⟩ := (HZ.out.later HB.out hbw).cell k hlt
      have wz := HZ.out.wf k hlt
      obtain ⟨z, hz⟩ : ∃ z, zs.getD k 0 = z := ⟨_, rfl⟩
      rw [hz] at cz wz
      obtain ⟨w4, hr4, h4, hb4, hT⟩ := store_gone hTwo hBr (by omega) z wz
      have HE : Hid (D1 B qa qb mb w w4 (k + 1) (zs.take (k + 1))) := by
        refine ⟨_, h4, ?_, hbw.trans hb4⟩
        have e : zs.take (k + 1) = zs.take k ++ [z] := by
          rw [List.take_succ_eq_append_getElem hlt, ← hz]
          simp [List.getD, hlt]
        rw [e]
        exact gone_put hG hT z
      have i1 : (k : Int) < (zs.length : Int) := by omega
      clear hTwo hG hbw h4 hb4 hT hz HR
      go_wp2
      go_roundw
      case rel => exact ⟨k + 1, by go_num, by omega, HE.out⟩
      case measure => simp [intOf]; omega
    · have hG' : GoneIn D zs := by rw [List.take_of_length_le (by omega)] at hG; exact hG
      have HS : Hid (D2 B qa qb mb w wr 0 zs) := ⟨k, D, [], hTwo, hG', by simp, hbw⟩
      clear hTwo hG hbw hG' HR hBr
      go_wp2
      go_loopw [12] (fun i wr => ∃ k : Nat, i = .int .i64 k ∧ k ≤ 200 ∧ Hid (D2 B qa qb mb w wr k zs)) (fun i _ => 200 - (intOf i).toNat)
      case atStart => exact ⟨0, rfl, by omega, HS.out⟩
      case round =>
        clear HS
        obtain ⟨k, rfl, hk2, HR⟩ := hrel
        have hbw : Below B w wr := by obtain ⟨_, _, _, _, _, _, h⟩ := HR.out; exact h
        have hBr : B ≤ wr.heap.size := Nat.le_trans (Nat.le_of_eq HB.out.symm) hbw.size
        by_cases hlt : k < xs.length ∧ k < ys.length ∧ k < 200
        · obtain ⟨h1, h2, h3⟩ := hlt
          obtain ⟨bx, ox, rfl, cx⟩ := (HX.out.later HB.out hbw).cell k h1
          obtain ⟨bY, oy, rfl, cy⟩ := (HY.out.later HB.out hbw).cell k h2
          have wx := HX.out.wf k h1
          have wy := HY.out.wf k h2
          obtain ⟨x, hx⟩ : ∃ x, xs.getD k 0 = x := ⟨_, rfl⟩
          obtain ⟨y, hy⟩ : ∃ y, ys.getD k 0 = y := ⟨_, rfl⟩
          rw [hx] at cx wx
          rw [hy] at cy wy
          have HC : Hid (∀ w3, Below B wr w3 → w3.cell? ⟨bx, ox + k, none⟩ = some (.int .i64 x) ∧ w3.cell? ⟨bY, oy + k, none⟩ = some (.int .i64 y)) := fun w3 hb => by
            obtain ⟨_, _, e1, g1⟩ := (HX.out.later HB.out (hbw.trans hb)).cell k h1
            obtain ⟨_, _, e2, g2⟩ := (HY.out.later HB.out (hbw.trans hb)).cell k h2
            cases e1; cases e2
            rw [hx] at g1; rw [hy] at g2
            exact ⟨g1, g2⟩
          have i1 : (k : Int) < (xs.length : Int) := by omega
          have i2 : (k : Int) < (ys.length : Int) := by omega
          have i3 : (k : Int) < 200 := by omega
          by_cases hg : x ∈ zs
          · have HP := hide (round_in HR.out hBr x y wx wy hg)
            clear hg hx hy hbw hBr HR
            go_wp2
            go_region_with (go_at_call 16; refine HP.out.mono ?_; rintro e w3 ⟨b, rfl, hb3, hr3, hse⟩; obtain ⟨dx, dy⟩ := HC.out w3 hb3; have HSE := hide hse; clear hse)
            all_goals
              go_wp2
              go_roundw
              case rel => exact ⟨k + 1, by go_num, by omega, HSE.out⟩
              case measure => simp [intOf]; omega
          · have HP := hide (round_out HR.out h3 hBr x y wx wy hg)
            clear hg hx hy hbw hBr HR
            go_wp2
            go_region_with (go_at_call 16; refine HP.out.mono ?_; rintro e w3 ⟨b, rfl, hb3, hr3, hse⟩; obtain ⟨dx, dy⟩ := HC.out w3 hb3; have HSE := hide hse; clear hse)
            all_goals
              go_wp2
              go_region_with (go_at_call 16; refine HSE.out.mono ?_; rintro e w4 ⟨b4, rfl, hse4⟩; have HSE4 := hide hse4; clear hse4)
              all_goals
                go_wp2
                go_roundw
                case rel => exact ⟨k + 1, by go_num, by omega, HSE4.out⟩
                case measure => simp [intOf]; omega
        · have h3 : ¬ k < xs.length ∨ (k < xs.length ∧ ¬ k < ys.length) ∨ (k < xs.length ∧ k < ys.length ∧ ¬ (k : Int) < 200) := by omega
          have HS3 := hide (start3 (HR.out.up hk2))
          clear hlt hbw hBr HR
          rcases h3 with h3 | ⟨h1, h3⟩ | ⟨h1, h2, h3⟩
          all_goals
            go_wp2
            clear h3
            go_loopw [82] (fun i wr => ∃ k : Nat, i = .int .i64 k ∧ k ≤ zs.length ∧ Hid (D3 B qa qb mb w wr k zs)) (fun i _ => zs.length - (intOf i).toNat)
            case atStart => exact ⟨0, rfl, by omega, HS3.out⟩
            case round =>
              clear HS3
              obtain ⟨j, rfl, hj2, HR⟩ := hrel
              have hbw : Below B w wr := by obtain ⟨_, _, _, _, _, _, h⟩ := HR.out; exact h
              have hBr : B ≤ wr.heap.size := Nat.le_trans (Nat.le_of_eq HB.out.symm) hbw.size
              by_cases hlt : j < zs.length
              · obtain ⟨bz, oz, rfl, cz⟩ := (HZ.out.later HB.out hbw).cell j hlt
                have wz := HZ.out.wf j hlt
                obtain ⟨z, hz⟩ : ∃ z, zs.getD j 0 = z := ⟨_, rfl⟩
                rw [hz] at cz wz
                obtain ⟨b, c, g1, g2⟩ := round_drop HR.out hlt hBr z wz hz
                have H1 := hide g1
                have H2 := hide g2
                have i1 : (j : Int) < (zs.length : Int) := by omega
                clear g1 g2 hz hbw hBr HR
                have hbb : (b != b) = false := by cases b <;> rfl
                go_wp2_with (first | (go_at_call 14; refine H1.out.mono ?_; rintro e w3 ⟨rfl, rfl⟩) | (go_at_call 12; refine H3.out.mono ?_; rintro e w4 ⟨rfl, h4⟩; have H4 := hide h4; clear h4) | (go_at_call 12; refine H2.out.mono ?_; rintro e w3 ⟨rfl, h3⟩; have H3 := hide h3; clear h3))
                go_roundw
                case rel => exact ⟨j + 1, by go_num, by omega, H4.out⟩
                case measure => simp [intOf]; omega
              · obtain ⟨X, hX⟩ := start4 HR.out (by omega)
                have HX4 := hide hX
                clear hX hbw hBr HR
                have hXl : X.length ≤ 4096 := by obtain ⟨_, _, h, _⟩ := HX4.out; exact h.len
                go_wp2
                go_loopg [17] X.length (fun g _ wr => ∃ X : List Pr, X.length ≤ g ∧ X.length ≤ 4096 ∧ Hid (D4 B qa qb mb w wr X))
                case atStart => exact ⟨X, Nat.le_refl _, hXl, HX4.out⟩
                case round =>
                  clear HX4 hXl
                  obtain ⟨Y, hYg, hYl, HR⟩ := hrel
                  have hbw : Below B w wr := by obtain ⟨_, _, _, h⟩ := HR.out; exact h
                  have hBr : B ≤ wr.heap.size := Nat.le_trans (Nat.le_of_eq HB.out.symm) hbw.size
                  have HL : Hid (Calls Try.prog 18 #[.pointer (some ⟨qa, 0, none⟩)] wr (fun e w' => e = .returned (.int .i64 Y.length) ∧ w' = wr) ∧ Calls Try.prog 18 #[.pointer (some ⟨qb, 0, none⟩)] wr (fun e w' => e = .returned (.int .i64 Y.length) ∧ w' = wr)) := by
                    obtain ⟨_, _, hT, _⟩ := HR.out
                    exact ⟨two_len hT, twoB_len hT⟩
                  by_cases hY : Y = []
                  · subst hY
                    have HBw := hide hbw
                    clear hbw hBr HR
                    simp only [List.length_nil] at HL
                    have HL1 := hide HL.out.1
                    go_wp2_with (first | (go_at_call 18; refine HL2.out.mono ?_; rintro e w6 ⟨rfl, rfl⟩) | (go_at_call 18; refine HL1.out.mono ?_; rintro e w5 ⟨rfl, rfl⟩; have HL2 := hide HL.out.2))
                    go_ret
                    exact ⟨by simp, HBw.out⟩
                  · obtain ⟨p, hp⟩ := least_ex hY
                    have hY0 : (0 : Int) < (Y.length : Int) := by have := List.length_pos_of_mem hp.1; omega
                    have HT := hide (round_take HR.out hBr p hp)
                    have hdl : (dropM Y p.1).length + 1 = Y.length := by
                      obtain ⟨_, _, hT, _⟩ := HR.out
                      exact filter_one hT.dis ⟨p, hp.1, rfl⟩
                    have HD := hide hdl
                    obtain ⟨x, y⟩ := p
                    clear hbw hBr HR hp hY hdl
                    simp only at HT HD
                    have hx0 : (x != x) = false := by simp
                    have hy0 : (y != y) = false := by simp
                    go_wp2_with (first | (go_at_call 18; refine HL.out.1.mono ?_; rintro e w5 ⟨rfl, rfl⟩) | (go_at_call 10; refine HT3.out.mono ?_; rintro e w4 ⟨rfl, h4⟩; have H4 := hide h4; clear h4) | (go_at_call 10; refine HT.out.mono ?_; rintro e w3 ⟨rfl, h3⟩; have HT3 := hide h3; clear h3))
                    go_roundg ((dropM Y x).length)
                    case measure => have := HD.out; omega
                    case rel => exact ⟨_, Nat.le_refl _, by have := HD.out; omega, H4.out⟩
end
end Go.Proofs.Ytbgolkkfpajkdaa
