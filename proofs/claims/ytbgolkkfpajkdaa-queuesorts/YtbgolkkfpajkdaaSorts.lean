/-
  What the law of sorting (QueueSorts) does.
-/
import Derived.Test.YtbgolkkfpajkdaaTwo
namespace Go.Proofs.Ytbgolkkfpajkdaa
open Go.RowKit Go.Maps

/-- D holds the keys of X's items. -/
structure KeysIn (D : DataW Unit) (X : List Pr) : Prop where
  here : ∀ p ∈ X, Maps.has D (ki p.1) = true ∧ D.atKey (ki p.1) (dI 0) = dI p.2
  none : ∀ x, look X x = none → Maps.has D (ki x) = false
  size : Maps.size D = X.length
theorem keys_nil : KeysIn (.map []) [] := ⟨fun _ hp => (List.not_mem_nil hp).elim, fun _ _ => rfl, rfl⟩
theorem keys_new {D : DataW Unit} {X : List Pr} (h : KeysIn D X) (ht : Tidy D) {x k : Int} (hl : look X x = none) : KeysIn (D.put (ki x) (dI k)) (X ++ [(x, k)]) := by
  have hm := ht.isMap
  refine ⟨fun p hp => ?_, fun y hy => ?_, ?_⟩
  · rcases List.mem_append.1 hp with hp | hp
    · have hne : p.1 ≠ x := look_none.1 hl p hp
      rw [has_put_other (ki_ne hne), atKey_put_other (ki_ne hne)]
      exact h.here p hp
    · simp at hp
      subst hp
      exact ⟨has_put_same hm (ki_key _) _, atKey_put_same hm (ki_key _) _ _⟩
  · have hy2 := look_none.1 hy
    have hne : y ≠ x := fun e => hy2 (x, k) (by simp) e.symm
    rw [has_put_other (ki_ne hne)]
    exact h.none y (look_none.2 fun p hp => hy2 p (by simp [hp]))
  · rw [size_put ht, h.none x hl, h.size]; simp
theorem keys_low {D : DataW Unit} {X : List Pr} (h : KeysIn D X) (ht : Tidy D) (hd : Dis X) {x k : Int} {p : Pr} (hl : look X x = some p) : KeysIn (D.put (ki x) (dI k)) (X.map (repl x k)) := by
  have hm := ht.isMap
  obtain ⟨hp, hpx⟩ := (look_some hd).1 hl
  refine ⟨fun r hr => ?_, fun y hy => ?_, ?_⟩
  · obtain ⟨s, hs, rfl⟩ := List.mem_map.1 hr
    unfold repl
    split
    · exact ⟨has_put_same hm (ki_key _) _, atKey_put_same hm (ki_key _) _ _⟩
    · rename_i hne
      rw [has_put_other (ki_ne hne), atKey_put_other (ki_ne hne)]
      exact h.here s hs
  · have hy2 := look_none.1 hy
    have hit : ∀ s ∈ X, s.1 ≠ y := fun s hs e => by
      have : (repl x k s).1 = s.1 := by unfold repl; split <;> simp_all
      exact hy2 _ (List.mem_map.2 ⟨s, hs, rfl⟩) (this.trans e)
    have hne : y ≠ x := fun e => hit p hp (hpx.trans e.symm)
    rw [has_put_other (ki_ne hne)]
    exact h.none y (look_none.2 hit)
  · have h1 := (h.here p hp).1
    rw [hpx] at h1
    rw [size_put ht, h1, h.size]; simp
theorem put_len (X : List Pr) (x k : Int) : (putM X x k).1.length ≤ X.length + 1 := by
  unfold putM
  split
  · split <;> simp
  · split <;> simp
theorem lt_total {p q : Pr} (h : lt q p = false) (hne : q.1 ≠ p.1) : lt p q = true := by
  simp only [lt, decide_eq_false_iff_not, decide_eq_true_eq] at *; omega
/-- What is left behind the n-th: all of X0, above the last one. -/
structure Left (X0 Y : List Pr) (n : Nat) (last lastKey : Int) : Prop where
  sub : ∀ p ∈ Y, p ∈ X0
  cnt : n + Y.length = X0.length
  above : 0 < n → ∀ p ∈ Y, lt (last, lastKey) p = true
theorem Left.step {X0 Y : List Pr} {n : Nat} {l k : Int} (h : Left X0 Y n l k) (hd : Dis Y) {p : Pr} (hp : Least Y p) : Left X0 (dropM Y p.1) (n + 1) p.1 p.2 := by
  refine ⟨fun r hr => h.sub r (List.mem_filter.1 hr).1, ?_, fun _ r hr => ?_⟩
  · have := filter_one hd ⟨p, hp.1, rfl⟩
    have := h.cnt
    omega
  · have h1 := List.mem_filter.1 hr
    exact lt_total (hp.2 r h1.1) (by simpa using h1.2)

section
variable {B q mb n : Nat} {w w' : World} {X : List Pr} {D : DataW Unit}
abbrev MR (mb n : Nat) (D : DataW Unit) := MapR 3 mb n D
/-- What a look-up in the map of least keys yields. -/
theorem look_map (h : Two B (MR mb n D) w q X) (x : Int) (hx : I64 x) : ∃ c, (Instr.lookup 41 (.map (some mb)) (.int .i64 x) true).run Try.prog w = .ok (.tuple #[.int .i64 c, .bool (Maps.has D (ki x))]) w ∧ D.atKey (ki x) (dI 0) = dI c := by
  obtain ⟨T, ⟨rfl, hD⟩, _⟩ := h.get
  obtain ⟨u, ps, h1, h2⟩ := World.ownsMap.look_ok hD law Try.underlying41 (zero3 w) (plainElem_int Try.underlying3 (by decide)) (keyOf3 hx)
  obtain ⟨c, rfl, hc, _⟩ := plainElem_int_inv Try.underlying3 h2
  exact ⟨c, h1, congrArg Prod.fst hc⟩
theorem tidy_two (h : Two B (MR mb n D) w q X) : Tidy D := by obtain ⟨T, ⟨rfl, hD⟩, _⟩ := h.get; exact hD.tidy law
theorem store_map (h : Two B (MR mb n D) w q X) (hB : B ≤ w.heap.size) (hn : n < 4096) (x k : Int) (hx : I64 x) (hk : I64 k) : ∃ w', (Instr.mapUpdate 41 (.map (some mb)) (.int .i64 x) (.int .i64 k)).run Try.prog w.drew = .ok () w' ∧ Two B (MR mb (n + 1) (D.put (ki x) (dI k))) w' q X ∧ Below B w w' := by
  obtain ⟨T, ⟨rfl, hD⟩, hlt⟩ := h.get
  obtain ⟨w', hrun, hD2, hturn⟩ := World.ownsMap.store (w := w.drew) (t := 41) (e := 3) hD law Try.underlying41 (by unfold maxLen; omega) (keyOf3 hx) (plainElem_int Try.underlying3 hk.wf)
  refine ⟨w', hrun, h.second hB (fun T hT hl => ?_)⟩
  obtain ⟨rfl, _⟩ := hT
  have hF : Fr (fun k => k = mb) w w' := (Fr.refl _ w).drew.trans0 (Fr.of_grown hturn.grown (fun k e => by cases e; rfl))
  exact ⟨hF, _, ⟨rfl, hD2⟩, fun k e => .inl e, fun k e => by subst e; exact Nat.lt_of_lt_of_le (hl _ rfl) hF.size⟩
theorem Two.drew {R : World → (Nat → Prop) → Prop} (hR : Keeps R) (h : Two B R w q X) : Two B R w.drew q X := h.later hR ((Below.refl _ _).drew)

theorem dI_inj {a b : Int} (h : dI a = dI b) : a = b := by unfold dI at h; simpa using h
theorem two_wf {R : World → (Nat → Prop) → Prop} (h : Two B R w q X) : ∀ p ∈ X, I64 p.1 ∧ I64 p.2 := by
  obtain ⟨S, T, h1, _⟩ := h
  intro p hp
  rcases h1.has with ⟨_, rfl⟩ | ⟨ob, mb, _, v, L, hO, hpm, _⟩
  · cases hp
  · obtain ⟨i, hi, rfl⟩ := mem_at.1 (hpm.mem_iff.2 hp)
    exact hO.wf i hi
theorem take_look (h : Two B (MR mb n D) w q X) (hB : B ≤ w.heap.size) (p : Pr) (hp : Least X p) (hD : Maps.has D (ki p.1) = true ∧ D.atKey (ki p.1) (dI 0) = dI p.2) :
    Calls Try.prog 10 #[.pointer (some ⟨q, 0, none⟩)] w fun e w' => e = .returned (.tuple #[.int .i64 p.1, .int .i64 p.2, .bool true]) ∧ (Instr.lookup 41 (.map (some mb)) (.int .i64 p.1) true).run Try.prog w' = .ok (.tuple #[.int .i64 p.2, .bool true]) w' ∧ Two B (MR mb n D) w' q (dropM X p.1) ∧ Below B w w' := by
  refine (two_take (keeps_map 3 mb n D) h hB p hp).mono ?_
  rintro e w' ⟨rfl, h1, h2⟩
  obtain ⟨c, hr, hc⟩ := look_map h1 p.1 (two_wf h p hp.1).1
  rw [hD.2] at hc
  rw [hD.1, ← dI_inj hc] at hr
  exact ⟨rfl, hr, h1, h2⟩
theorem Two.more {m : Nat} (h : Two B (MR mb n D) w q X) (hm : n ≤ m) : Two B (MR mb m D) w q X := by
  obtain ⟨S, T, h1, ⟨h2, h2b⟩, r⟩ := h
  exact ⟨S, T, h1, ⟨h2, h2b.mono hm⟩, r⟩
/-- What stands at a round's end. -/
def SE (B mb q : Nat) (w0 w' : World) (n : Nat) : Prop := ∃ D X, Two B (MR mb n D) w' q X ∧ KeysIn D X ∧ X.length ≤ n ∧ Below B w0 w'
theorem put_low_some {x k : Int} {p : Pr} (hl : look X x = some p) (hk : k < p.2) : putM X x k = (X.map (repl x k), true) := by unfold putM; rw [hl]; simp [hk]
theorem put_not {x k : Int} {p : Pr} (hl : look X x = some p) (hk : ¬ k < p.2) : putM X x k = (X, false) := by unfold putM; rw [hl]; simp [hk]
theorem put_new {x k : Int} (hl : look X x = none) (h : X.length < 4096) : putM X x k = (X ++ [(x, k)], true) := by unfold putM; rw [hl]; simp [h]
theorem has_of {x : Int} {p : Pr} (hK : KeysIn D X) (hd : Dis X) (hl : look X x = some p) : Maps.has D (ki x) = true ∧ D.atKey (ki x) (dI 0) = dI p.2 := by
  obtain ⟨hp, rfl⟩ := (look_some hd).1 hl
  exact hK.here p hp
variable {w0 : World}
theorem round_new (h : Two B (MR mb n D) w q X) (hK : KeysIn D X) (hn : X.length ≤ n) (hn3 : n < 300) (hb : Below B w0 w) (hB : B ≤ w.heap.size) (x k : Int) (hx : I64 x) (hk : I64 k) (hl : look X x = none) :
    Calls Try.prog 16 #[.pointer (some ⟨q, 0, none⟩), .int .i64 x, .int .i64 k] w.drew fun e w3 => e = .returned (.bool true) ∧ Below B w w3 ∧ ∃ c w4, (Instr.lookup 41 (.map (some mb)) (.int .i64 x) true).run Try.prog w3 = .ok (.tuple #[.int .i64 c, .bool false]) w3 ∧ (Instr.mapUpdate 41 (.map (some mb)) (.int .i64 x) (.int .i64 k)).run Try.prog w3.drew = .ok () w4 ∧ SE B mb q w0 w4 (n + 1) := by
  have H := two_put (keeps_map 3 mb n D) (h.drew (keeps_map 3 mb n D)) hB x k hx hk
  rw [put_new hl (by omega)] at H
  refine H.mono ?_
  rintro e w3 ⟨rfl, h3, hb3⟩
  have hb3' : Below B w w3 := ((Below.refl B w).drew).trans hb3
  obtain ⟨c, hr, _⟩ := look_map h3 x hx
  rw [hK.none x hl] at hr
  obtain ⟨w4, hr4, h4, hb4⟩ := store_map h3 (Nat.le_trans hB hb3'.size) (by omega) x k hx hk
  exact ⟨rfl, hb3', c, w4, hr, hr4, _, _, h4, keys_new hK (tidy_two h) hl, by simp; omega, hb.trans (hb3'.trans hb4)⟩
theorem round_low (h : Two B (MR mb n D) w q X) (hK : KeysIn D X) (hn : X.length ≤ n) (hn3 : n < 300) (hb : Below B w0 w) (hB : B ≤ w.heap.size) (x k : Int) (hx : I64 x) (hk : I64 k) {p : Pr} (hl : look X x = some p) (hp : k < p.2) :
    Calls Try.prog 16 #[.pointer (some ⟨q, 0, none⟩), .int .i64 x, .int .i64 k] w.drew fun e w3 => e = .returned (.bool true) ∧ Below B w w3 ∧ ∃ w4, (Instr.lookup 41 (.map (some mb)) (.int .i64 x) true).run Try.prog w3 = .ok (.tuple #[.int .i64 p.2, .bool true]) w3 ∧ (Instr.mapUpdate 41 (.map (some mb)) (.int .i64 x) (.int .i64 k)).run Try.prog w3.drew = .ok () w4 ∧ SE B mb q w0 w4 (n + 1) := by
  have H := two_put (keeps_map 3 mb n D) (h.drew (keeps_map 3 mb n D)) hB x k hx hk
  rw [put_low_some hl hp] at H
  refine H.mono ?_
  rintro e w3 ⟨rfl, h3, hb3⟩
  have hb3' : Below B w w3 := ((Below.refl B w).drew).trans hb3
  obtain ⟨c, hr, hc⟩ := look_map h3 x hx
  obtain ⟨g1, g2⟩ := has_of hK h.dis hl
  rw [g2] at hc
  rw [g1, ← dI_inj hc] at hr
  obtain ⟨w4, hr4, h4, hb4⟩ := store_map h3 (Nat.le_trans hB hb3'.size) (by omega) x k hx hk
  exact ⟨rfl, hb3', w4, hr, hr4, _, _, h4, keys_low hK (tidy_two h) h.dis hl, by simp; omega, hb.trans (hb3'.trans hb4)⟩
theorem round_not (h : Two B (MR mb n D) w q X) (hK : KeysIn D X) (hn : X.length ≤ n) (hb : Below B w0 w) (hB : B ≤ w.heap.size) (x k : Int) (hx : I64 x) (hk : I64 k) {p : Pr} (hl : look X x = some p) (hp : ¬ k < p.2) :
    Calls Try.prog 16 #[.pointer (some ⟨q, 0, none⟩), .int .i64 x, .int .i64 k] w.drew fun e w3 => e = .returned (.bool false) ∧ Below B w w3 ∧ (Instr.lookup 41 (.map (some mb)) (.int .i64 x) true).run Try.prog w3 = .ok (.tuple #[.int .i64 p.2, .bool true]) w3 ∧ SE B mb q w0 w3 (n + 1) := by
  have H := two_put (keeps_map 3 mb n D) (h.drew (keeps_map 3 mb n D)) hB x k hx hk
  rw [put_not hl hp] at H
  refine H.mono ?_
  rintro e w3 ⟨rfl, h3, hb3⟩
  have hb3' : Below B w w3 := ((Below.refl B w).drew).trans hb3
  obtain ⟨c, hr, hc⟩ := look_map h3 x hx
  obtain ⟨g1, g2⟩ := has_of hK h.dis hl
  rw [g2] at hc
  rw [g1, ← dI_inj hc] at hr
  exact ⟨rfl, hb3', hr, D, X, h3.more (by omega), hK, by omega, hb.trans hb3'⟩
theorem start_map {w1 w2 : World} (hb1 : Below B w w1) (hB : w.heap.size = B) (hq : QAt w2 w1.heap.size [] (fun b => b = w1.heap.size)) (hb : Below w1.heap.size w1 w2) (hz : w2.heap.size = w1.heap.size + 1) : SE B w2.heap.size w1.heap.size w (w2.alloc (.map #[] 0)) 0 := by
  have h1 : B ≤ w1.heap.size := by rw [← hB]; exact hb1.size
  refine ⟨.map [], [], ⟨_, _, hq.later ((Below.refl _ _).alloc (Nat.le_refl _) _), ⟨rfl, World.ownsMap_made _ _ _ _⟩, fun k e => by subst e; simp, fun k e e2 => by omega, fun k e => by omega, fun k e => by omega⟩, keys_nil, by simp, (hb1.trans (hb.mono h1)).alloc (by omega) _⟩

set_option maxRecDepth 100000 in
set_option maxHeartbeats 3200000 in
theorem sorts_any (xa ya : Option Addr) (xc yc : Nat) (xs ys : List Int) (w : World) (hx : Ints w xa xs) (hy : Ints w ya ys) :
    Calls Try.prog 4 #[.slice xa xs.length xc, .slice ya ys.length yc] w fun e w' => e = .returned (.bool true) ∧ Below w.heap.size w w' := by
  obtain ⟨B, hB⟩ : ∃ B, w.heap.size = B := ⟨_, rfl⟩
  have HA := hide (awake_any w)
  rw [hB] at HA ⊢
  have HB := hide hB
  have HX := hide hx
  have HY := hide hy
  clear hB hx hy
  have hmm := @run_makeMap Try.prog
  go_enter Try.func4, Try.ntmps4
  go_wp2_with (first | (go_at_call 8; refine HA.out.mono ?_; rintro e w1 ⟨rfl, hb1⟩; have H1 := hide hb1; clear hb1) | (go_at_call 9; refine (new_any w1).mono ?_; rintro e w2 ⟨rfl, hq, hb, hz⟩; have H2 := hide (And.intro hq (And.intro hb hz)); clear hq hb hz))
  have HS := hide (start_map H1.out HB.out H2.out.1 H2.out.2.1 H2.out.2.2)
  obtain ⟨Q, hQ⟩ : ∃ Q, w1.heap.size = Q := ⟨_, rfl⟩
  obtain ⟨mb, hmb⟩ : ∃ mb, w2.heap.size = mb := ⟨_, rfl⟩
  rw [hQ, hmb] at HS ⊢
  generalize w2.alloc (.map #[] 0) = W0 at HS ⊢
  clear H1 H2 hQ hmb hmm HA
  go_loopw [7] (fun i wr => ∃ k : Nat, i = .int .i64 k ∧ k ≤ xs.length ∧ k ≤ ys.length ∧ k ≤ 300 ∧ Hid (SE B mb Q w wr k)) (fun i _ => 300 - (intOf i).toNat)
  case atStart => exact ⟨0, rfl, Nat.zero_le _, Nat.zero_le _, by omega, HS.out⟩
  case round =>
    obtain ⟨k, rfl, hkx, hky, hk3, HR⟩ := hrel
    clear HS
    obtain ⟨D, X, hTwo, hK, hXn, hbw⟩ := HR.out
    have hBr : B ≤ wr.heap.size := Nat.le_trans (Nat.le_of_eq HB.out.symm) hbw.size
    by_cases hlt : k < xs.length ∧ k < ys.length ∧ k < 300
    · obtain ⟨h1, h2, h3⟩ := hlt
      obtain ⟨bx, ox, rfl, cx⟩ := (HX.out.later HB.out hbw).cell k h1
      obtain ⟨bY, oy, rfl, cy⟩ := (HY.out.later HB.out hbw).cell k h2
      have wx := HX.out.wf k h1
      have wy := HY.out.wf k h2
      obtain ⟨x, hx⟩ : ∃ x, xs.getD k 0 = x := ⟨_, rfl⟩
      obtain ⟨y, hy⟩ : ∃ y, ys.getD k 0 = y := ⟨_, rfl⟩
      rw [hx] at cx wx
      rw [hy] at cy wy
      have HC : Hid (∀ w3, Below B wr w3 → w3.cell? ⟨bx, ox + k, none⟩ = some (.int .i64 x) ∧ w3.cell? ⟨bY, oy + k, none⟩ = some (.int .i64 y)) := fun w3 hb => by
        obtain ⟨_, _, e1, g1⟩ := (HX.out.later HB.out (hbw.trans hb)).cell k h1
        obtain ⟨_, _, e2, g2⟩ := (HY.out.later HB.out (hbw.trans hb)).cell k h2
        cases e1; cases e2
        rw [hx] at g1; rw [hy] at g2
        exact ⟨g1, g2⟩
      have i1 : (k : Int) < (xs.length : Int) := by omega
      have i2 : (k : Int) < (ys.length : Int) := by omega
      have i3 : (k : Int) < 300 := by omega
      cases hl : look X x with
      | none =>
        have HP := hide (round_new hTwo hK hXn h3 hbw hBr x y wx wy hl)
        clear hl hTwo hK hXn hbw hx hy
        go_wp2
        go_region_with (go_at_call 16; refine HP.out.mono ?_; rintro e w3 ⟨rfl, hb3, c, w4, hr3, hr4, hse⟩; obtain ⟨dx, dy⟩ := HC.out w3 hb3; have HSE := hide hse; clear hse)
        all_goals
          go_wp2
          go_region
          go_wp2
          go_roundw
          case rel => exact ⟨k + 1, by go_num, by omega, by omega, by omega, HSE.out⟩
          case measure => simp [intOf]; omega
      | some p =>
        by_cases hp : y < p.2
        · have HP := hide (round_low hTwo hK hXn h3 hbw hBr x y wx wy hl hp)
          obtain ⟨z, hz⟩ : ∃ z, p.2 = z := ⟨_, rfl⟩
          rw [hz] at HP hp
          clear hl hTwo hK hXn hbw hx hy hz
          go_wp2
          go_region_with (go_at_call 16; refine HP.out.mono ?_; rintro e w3 ⟨rfl, hb3, w4, hr3, hr4, hse⟩; obtain ⟨dx, dy⟩ := HC.out w3 hb3; have HSE := hide hse; clear hse)
          all_goals
            go_wp2
            go_region
            go_wp2
            go_roundw
            case rel => exact ⟨k + 1, by go_num, by omega, by omega, by omega, HSE.out⟩
            case measure => simp [intOf]; omega
        · have HP := hide (round_not hTwo hK hXn hbw hBr x y wx wy hl hp)
          obtain ⟨z, hz⟩ : ∃ z, p.2 = z := ⟨_, rfl⟩
          rw [hz] at HP hp
          clear hl hTwo hK hXn hbw hx hy hz
          go_wp2
          go_region_with (go_at_call 16; refine HP.out.mono ?_; rintro e w3 ⟨rfl, hb3, hr3, hse⟩; obtain ⟨dx, dy⟩ := HC.out w3 hb3; have HSE := hide hse; clear hse)
          all_goals
            go_wp2
            go_roundw
            case rel => exact ⟨k + 1, by go_num, by omega, by omega, by omega, HSE.out⟩
            case measure => simp [intOf]; omega
    · have h3 : ¬ k < xs.length ∨ (k < xs.length ∧ ¬ k < ys.length) ∨ (k < xs.length ∧ k < ys.length ∧ ¬ (k : Int) < 300) := by omega
      have HT := hide (And.intro hTwo (And.intro hK (And.intro hbw hBr)))
      have HD := hide hTwo.dis
      clear hTwo hK hbw hBr hlt
      rcases h3 with h3 | ⟨h1, h3⟩ | ⟨h1, h2, h3⟩
      all_goals
        go_wp2
        clear h3
        go_loopw [10, 11, 12] (fun l lk nn wq => ∃ (m : Nat) (a b : Int) (Y : List Pr), l = .int .i64 a ∧ lk = .int .i64 b ∧ nn = .int .i64 m ∧ m ≤ 300 ∧ Hid (Two B (MR mb k D) wq Q Y ∧ Left X Y m a b ∧ Below B w wq)) (fun _ _ nn _ => 301 - (intOf nn).toNat)
        case atStart => exact ⟨0, 0, 0, X, rfl, rfl, rfl, by omega, HT.out.1, ⟨fun _ h => h, by simp, fun h => by omega⟩, HT.out.2.2.1⟩
        case round =>
          obtain ⟨m, a, b, Y, rfl, rfl, rfl, hm3, HRq⟩ := hrel
          obtain ⟨hTq, hLq, hbq⟩ := HRq.out
          have hBq : B ≤ wr.heap.size := Nat.le_trans (Nat.le_of_eq HB.out.symm) hbq.size
          by_cases hY : Y = []
          · subst hY
            obtain ⟨T, ⟨_, hown⟩, _⟩ := hTq.get
            have hsz : Maps.size D = m := by have := HT.out.2.1.size; have := hLq.cnt; simp at this; omega
            have HE := hide (And.intro (two_empty hTq) (And.intro (two_len hTq) (And.intro hown hsz)))
            have HBq := hide hbq
            clear hTq hLq hbq hown hsz HRq
            go_wp2_with (first | (go_at_call 10; refine HE.out.1.mono ?_; rintro e w5 ⟨rfl, rfl⟩) | (at_len; refine wpList_len_own _ rfl _ 41 rfl 3 3 Try.underlying41 _ mb k D rfl HE.out.2.2.1 ?_; rw [HE.out.2.2.2]) | (go_at_call 18; refine HE.out.2.1.mono ?_; rintro e w5 ⟨rfl, rfl⟩; simp only [List.length_nil]))
            go_ret
            exact ⟨by simp, HBq.out⟩
          · obtain ⟨p, hp⟩ := least_ex hY
            have hcn := hLq.cnt
            have hYp : 0 < Y.length := List.length_pos_of_mem hp.1
            have hmk : m + 1 ≤ 300 := by omega
            have hpX := hLq.sub p hp.1
            obtain ⟨g1, g2⟩ := HT.out.2.1.here p hpX
            have habove := hLq.above
            have hLs := hLq.step hTq.dis hp
            have hab : m = 0 ∨ (0 < m ∧ p.2 = b ∧ a < p.1) ∨ (0 < m ∧ b < p.2) := by
              by_cases h0 : m = 0
              · exact .inl h0
              · have := habove (by omega) p hp.1
                rw [lt_iff] at this
                simp only at this
                omega
            have HTk := hide (take_look hTq hBq p hp ⟨g1, g2⟩)
            have HBq := hide (And.intro hbq hLs)
            obtain ⟨x, y⟩ := p
            simp only at hab
            clear hTq hLq hbq HRq habove hLs g1 g2 hpX hp hY hYp hcn
            rcases hab with rfl | ⟨hm0, rfl, hax⟩ | ⟨hm0, hby⟩
            · go_wp2_with (go_at_call 10; refine HTk.out.mono ?_; rintro e w5 ⟨rfl, hr5, h5, hb5⟩; have H5 := hide (And.intro h5 hb5); clear h5 hb5; simp only at hr5 ⊢)
              go_roundw
              case rel => exact ⟨1, x, y, _, rfl, rfl, by go_num, by omega, H5.out.1, HBq.out.2, HBq.out.1.trans H5.out.2⟩
              case measure => simp [intOf]
            · have hm1 : (0 : Int) < (m : Int) := by omega
              have n1 : ¬ y < y := by omega
              have n2 : ¬ x ≤ a := by omega
              go_wp2_with (go_at_call 10; refine HTk.out.mono ?_; rintro e w5 ⟨rfl, hr5, h5, hb5⟩; have H5 := hide (And.intro h5 hb5); clear h5 hb5; simp only at hr5 ⊢)
              go_roundw
              case rel => exact ⟨m + 1, x, y, _, rfl, rfl, by go_num, by omega, H5.out.1, HBq.out.2, HBq.out.1.trans H5.out.2⟩
              case measure => simp [intOf]; omega
            · have hm1 : (0 : Int) < (m : Int) := by omega
              have n1 : ¬ y < b := by omega
              have n2 : (y == b) = false := by simp; omega
              go_wp2_with (go_at_call 10; refine HTk.out.mono ?_; rintro e w5 ⟨rfl, hr5, h5, hb5⟩; have H5 := hide (And.intro h5 hb5); clear h5 hb5; simp only at hr5 ⊢)
              go_roundw
              case rel => exact ⟨m + 1, x, y, _, rfl, rfl, by go_num, by omega, H5.out.1, HBq.out.2, HBq.out.1.trans H5.out.2⟩
              case measure => simp [intOf]; omega
end
end Go.Proofs.Ytbgolkkfpajkdaa
