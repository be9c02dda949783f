/-
  What the law of all calls in any order (QueuePlays) does.
-/
import Derived.Test.YtbgolkkfpajkdaaRefD
namespace Go.Proofs.Ytbgolkkfpajkdaa
open Go.RowKit Go.Maps

/-- R, and a block that stays. -/
def Plus (R : World → (Nat → Prop) → Prop) (C : Nat) (o : Obj) : World → (Nat → Prop) → Prop := fun w T => ∃ T', R w T' ∧ w.heap[C]? = some o ∧ ¬ T' C ∧ ∀ k, T k ↔ T' k ∨ k = C
section
variable {B q r C : Nat} {R : World → (Nat → Prop) → Prop} {o : Obj} {w w' : World} {X X' Y : List Pr}
theorem keeps_plus (hR : Keeps R) : Keeps (Plus R C o) := by
  rintro w w' S T ⟨T', h1, h2, h3, h4⟩ f hlt hd
  exact ⟨T', hR w w' S T' h1 f (fun k hk => hlt k ((h4 k).2 (.inl hk))) (fun k hk => hd k ((h4 k).2 (.inl hk))), (f.block C (hlt C ((h4 C).2 (.inr rfl))) (hd C ((h4 C).2 (.inr rfl)))).trans h2, h3, h4⟩
theorem Two.plus (hR : Keeps R) (h : Two B R w q X) (hB : B ≤ w.heap.size) (o : Obj) : Two B (Plus R w.heap.size o) (w.alloc o) q X := by
  obtain ⟨S, T, h1, h2, h3, h4, h5, h6⟩ := h
  have hb : Below w.heap.size w (w.alloc o) := (Below.refl _ _).alloc (Nat.le_refl _) _
  refine ⟨S, fun k => T k ∨ k = w.heap.size, h1.later hb, ⟨T, hR w _ (fun _ => False) T h2 (Fr.of_below hb) h3 (fun _ _ h => h), heap_alloc_new _ _, fun e => by have := h3 _ e; omega, fun k => Iff.rfl⟩, fun k e => ?_, fun k e e2 => ?_, h5, fun k e => ?_⟩
  · rcases e with e | e
    · have := h3 k e; simp; omega
    · simp; omega
  · rcases e2 with e2 | e2
    · exact h4 k e e2
    · have := h1.lt k e; omega
  · rcases e with e | e
    · exact h6 k e
    · omega
theorem Two.minus (h : Two B (Plus R C o) w q X) : Two B R w q X := by
  obtain ⟨S, T, h1, ⟨T', g1, g2, g3, g4⟩, h3, h4, h5, h6⟩ := h
  exact ⟨S, T', h1, g1, fun k e => h3 k ((g4 k).2 (.inl e)), fun k e e2 => h4 k e ((g4 k).2 (.inl e2)), h5, fun k e => h6 k ((g4 k).2 (.inl e))⟩
theorem Two.blk (h : Two B (Plus R C o) w q X) : w.heap[C]? = some o := by
  obtain ⟨S, T, h1, ⟨T', g1, g2, _⟩, _⟩ := h; exact g2
/-- A call of the document's queue. -/
theorem two_ref (h : Two B (Plus (RAt r X) C o) w q Y) (hB : B ≤ w.heap.size) {f : FuncId} {args : Array Value} {v : Value}
    (hc : ∀ T, RAt r X w T → (∀ k, T k → k < w.heap.size) → Calls Try.prog f args w fun e w' => e = .returned v ∧ RE r X' T w w') :
    Calls Try.prog f args w fun e w' => e = .returned v ∧ Two B (Plus (RAt r X') C o) w' q Y ∧ Below B w w' := by
  obtain ⟨S, T, h1, ⟨T', g1, g2, g3, g4⟩, h3, h4, h5, h6⟩ := h
  have hlt : ∀ k, T' k → k < w.heap.size := fun k e => h3 k ((g4 k).2 (.inl e))
  refine (hc T' g1 hlt).mono ?_
  rintro e w' ⟨rfl, hF, T2, k1, k2, k3⟩
  have hCl := h3 C ((g4 C).2 (.inr rfl))
  refine ⟨rfl, ⟨S, fun k => T2 k ∨ k = C, h1.fr hF (fun k a b => h4 k a ((g4 k).2 (.inl b))), ⟨T2, k1, (hF.block C hCl g3).trans g2, fun e => ?_, fun k => Iff.rfl⟩, fun k e => ?_, fun k a b => ?_, h5, fun k e => ?_⟩, hF.below hB (fun k e => h6 k ((g4 k).2 (.inl e)))⟩
  · rcases k2 C e with e | e
    · exact g3 e
    · omega
  · rcases e with e | e
    · exact k3 k e
    · subst e; exact Nat.lt_of_lt_of_le hCl hF.size
  · rcases b with b | b
    · rcases k2 k b with c | c
      · exact h4 k a ((g4 k).2 (.inl c))
      · have := h1.lt k a; omega
    · exact h4 k a ((g4 k).2 (.inr b))
  · rcases e with e | e
    · rcases k2 k e with c | c
      · exact h6 k ((g4 k).2 (.inl c))
      · omega
    · exact h6 k ((g4 k).2 (.inr e))
theorem two_refkey (h : Two B (Plus (RAt r X) C o) w q Y) (hl : X.length ≤ 4096) (x : Int) : Calls Try.prog 15 #[.pointer (some ⟨r, 0, none⟩), .int .i64 x] w fun e w' => e = .returned (.tuple #[.int .i64 (keyM X x).1, .bool (keyM X x).2]) ∧ w' = w := by
  obtain ⟨S, T, h1, ⟨T', g1, _⟩, _⟩ := h
  exact rkey_any g1 hl x
theorem two_refnone (h : Two B (Plus (RAt r []) C o) w q Y) : Calls Try.prog 11 #[.pointer (some ⟨r, 0, none⟩)] w fun e w' => e = .returned (.tuple #[.int .i64 0, .int .i64 0, .bool false]) ∧ w' = w := by
  obtain ⟨S, T, h1, ⟨T', g1, _⟩, _⟩ := h
  exact rtake_none g1
theorem two_reflist (h : Two B (Plus (RAt r X) C o) w q Y) : ∃ a cap, w.cell? ⟨r, 0, none⟩ = some (.slice a X.length cap) := by
  obtain ⟨S, T, h1, ⟨T', g1, _⟩, _⟩ := h
  obtain ⟨v, k1, k2, _⟩ := g1.ex
  obtain ⟨a, cap, rfl, _⟩ := k2.shape
  exact ⟨a, cap, by rw [cell_of_row w r 0 _ _ _ k1]; rfl⟩
theorem Two.drewP (h : Two B (Plus (RAt r X) C o) w q Y) : Two B (Plus (RAt r X) C o) w.drew q Y := h.later (keeps_plus (keeps_ref r X)) ((Below.refl _ _).drew)
theorem below_dr {w3 : World} (h : Below B w.drew w3) : Below B w w3 := ((Below.refl B w).drew).trans h
/-- Behind both calls: what a later reading wants. -/
def PE (B q r C : Nat) (o : Obj) (w0 w : World) (X : List Pr) : Prop := Two B (Plus (RAt r X) C o) w q X ∧ Below B w0 w
theorem PE.drewN {w0 : World} (h : PE B q r C o w0 w X) (n : Nat) : PE B q r C o w0 (w.drewN n) X := ⟨h.1.later (keeps_plus (keeps_ref r X)) (below_drewN (Below.refl _ _) n), below_drewN h.2 n⟩
variable {w0 : World}
theorem plays_take (h : PE B q r C o w0 w X) (hB : w0.heap.size = B) (p : Pr) (hp : Least X p) :
    Calls Try.prog 10 #[.pointer (some ⟨q, 0, none⟩)] w fun e w3 => e = .returned (.tuple #[.int .i64 p.1, .int .i64 p.2, .bool true]) ∧
      Calls Try.prog 11 #[.pointer (some ⟨r, 0, none⟩)] w3 fun e w4 => e = .returned (.tuple #[.int .i64 p.1, .int .i64 p.2, .bool true]) ∧ PE B q r C o w0 w4 (dropM X p.1) := by
  have hb : B ≤ w.heap.size := by rw [← hB]; exact h.2.size
  refine (two_take (keeps_plus (keeps_ref r X)) h.1 hb p hp).mono ?_
  rintro e w3 ⟨rfl, h3, hb3⟩
  refine ⟨rfl, (two_ref h3 (Nat.le_trans hb hb3.size) (fun T hT hlt => rtake_any hT hlt h.1.len h.1.dis p hp)).mono ?_⟩
  rintro e w4 ⟨rfl, h4, hb4⟩
  exact ⟨rfl, h4, h.2.trans (hb3.trans hb4)⟩
theorem plays_drop (h : PE B q r C o w0 w X) (hB : w0.heap.size = B) (x : Int) (hx : I64 x) :
    Calls Try.prog 12 #[.pointer (some ⟨q, 0, none⟩), .int .i64 x] w.drew fun e w3 => e = .returned (.bool (look X x).isSome) ∧ w3.heap[C]? = some o ∧
      Calls Try.prog 13 #[.pointer (some ⟨r, 0, none⟩), .int .i64 x] w3 fun e w4 => e = .returned (.bool (look X x).isSome) ∧ PE B q r C o w0 w4 (dropM X x) := by
  have hb : B ≤ w.heap.size := by rw [← hB]; exact h.2.size
  refine (two_drop (keeps_plus (keeps_ref r X)) h.1.drewP hb x hx).mono ?_
  rintro e w3 ⟨rfl, h3, hb3⟩
  have hb3 := below_dr hb3
  refine ⟨rfl, h3.blk, (two_ref h3 (Nat.le_trans hb hb3.size) (fun T hT hlt => rdrop_any hT hlt h.1.len h.1.dis x)).mono ?_⟩
  rintro e w4 ⟨rfl, h4, hb4⟩
  exact ⟨rfl, h4, h.2.trans (hb3.trans hb4)⟩
theorem plays_put (h : PE B q r C o w0 w X) (hB : w0.heap.size = B) (x k : Int) (hx : I64 x) (hk : I64 k) :
    Calls Try.prog 16 #[.pointer (some ⟨q, 0, none⟩), .int .i64 x, .int .i64 k] w.drew fun e w3 => e = .returned (.bool (putM X x k).2) ∧ w3.heap[C]? = some o ∧
      Calls Try.prog 17 #[.pointer (some ⟨r, 0, none⟩), .int .i64 x, .int .i64 k] w3 fun e w4 => e = .returned (.bool (putM X x k).2) ∧ PE B q r C o w0 w4 (putM X x k).1 := by
  have hb : B ≤ w.heap.size := by rw [← hB]; exact h.2.size
  refine (two_put (keeps_plus (keeps_ref r X)) h.1.drewP hb x k hx hk).mono ?_
  rintro e w3 ⟨rfl, h3, hb3⟩
  have hb3 := below_dr hb3
  refine ⟨rfl, h3.blk, (two_ref h3 (Nat.le_trans hb hb3.size) (fun T hT hlt => rput_any hT hlt h.1.len h.1.dis x k)).mono ?_⟩
  rintro e w4 ⟨rfl, h4, hb4⟩
  exact ⟨rfl, h4, h.2.trans (hb3.trans hb4)⟩
/-- What the last test reads. -/
theorem plays_len (h : PE B q r C o w0 w X) : (∀ n, Calls Try.prog 18 #[.pointer (some ⟨q, 0, none⟩)] (w.drewN n) fun e w' => e = .returned (.int .i64 X.length) ∧ w' = w.drewN n) ∧ ∃ a cap, w.cell? ⟨r, 0, none⟩ = some (.slice a X.length cap) :=
  ⟨fun n => two_len (h.drewN n).1, two_reflist h.1⟩
theorem plays_end (h : PE B q r C o w0 w X) : Two B (RAt r X) w q X ∧ Below B w0 w ∧ X.length ≤ 4096 := ⟨h.1.minus, h.2, h.1.len⟩
end
/-- Acts that came in. -/
structure Acts (w : World) (a : Option Addr) (n : Nat) : Prop where
  cell : ∀ k, k < n → ∃ b off, ∃ c x y : Int, a = some ⟨b, off, none⟩ ∧ I64 x ∧ I64 y ∧ w.cell? ⟨b, off + k * 3, none⟩ = some (.int .i64 c) ∧ w.cell? ⟨b, off + k * 3 + 1, none⟩ = some (.int .i64 x) ∧ w.cell? ⟨b, off + k * 3 + 2, none⟩ = some (.int .i64 y)
theorem Acts.later {w w' : World} {a : Option Addr} {n B : Nat} (h : Acts w a n) (hB : w.heap.size = B) (f : Below B w w') : Acts w' a n :=
  ⟨fun k hk => by
    obtain ⟨b, off, c, x, y, e, h1, h2, c1, c2, c3⟩ := h.cell k hk
    have hb : b < B := by rw [← hB]; exact block_lt_of_cell c1
    exact ⟨b, off, c, x, y, e, h1, h2, (f.cell (p := ⟨b, _, none⟩) hb).trans c1, (f.cell (p := ⟨b, _, none⟩) hb).trans c2, (f.cell (p := ⟨b, _, none⟩) hb).trans c3⟩⟩

theorem start_plays {B : Nat} {w w1 w2 : World} (hb1 : Below B w w1) (hB : w.heap.size = B) (hq : QAt w2 w1.heap.size [] (fun b => b = w1.heap.size)) (hb : Below w1.heap.size w1 w2) (hz : w2.heap.size = w1.heap.size + 1) :
    Two B (RAt w2.heap.size []) (w2.alloc (.cells #[.slice none 0 0] 29)) w1.heap.size [] ∧ Below B w (w2.alloc (.cells #[.slice none 0 0] 29)) := by
  have h1 : B ≤ w1.heap.size := by rw [← hB]; exact hb1.size
  have hA : Below w2.heap.size w2 (w2.alloc (.cells #[.slice none 0 0] 29)) := (Below.refl _ _).alloc (Nat.le_refl _) _
  refine ⟨⟨_, fun k => k = w2.heap.size, hq.later hA, ⟨⟨.slice none 0 0, heap_alloc_new _ _, World.ownsRow_nil _ _ _ _, fun g e => by cases e⟩, rfl⟩, fun k e => by subst e; simp, fun k e e2 => by omega, fun k e => by omega, fun k e => by omega⟩, ((hb1.trans (hb.mono h1)).alloc (by omega) _)⟩

set_option maxRecDepth 100000 in
set_option maxHeartbeats 6400000 in
theorem plays_any (aa : Option Addr) (n ac : Nat) (w : World) (ha : Acts w aa n) :
    Calls Try.prog 3 #[.slice aa n ac] w fun e w' => e = .returned (.bool true) ∧ Below w.heap.size w w' := by
  obtain ⟨B, hB⟩ : ∃ B, w.heap.size = B := ⟨_, rfl⟩
  have HA := hide (awake_any w)
  rw [hB] at HA ⊢
  have HB := hide hB
  have HX := hide ha
  clear hB ha
  go_enter Try.func3, Try.ntmps3
  go_wp2_with (first | (go_at_call 8; refine HA.out.mono ?_; rintro e w1 ⟨rfl, hb1⟩; have H1 := hide hb1; clear hb1) | (go_at_call 9; refine (new_any w1).mono ?_; rintro e w2 ⟨rfl, hq, hb, hz⟩; have H2 := hide (And.intro hq (And.intro hb hz)); clear hq hb hz))
  have HS := hide (start_plays H1.out HB.out H2.out.1 H2.out.2.1 H2.out.2.2)
  obtain ⟨q, hq⟩ : ∃ Q, w1.heap.size = Q := ⟨_, rfl⟩
  obtain ⟨r, hr⟩ : ∃ mb, w2.heap.size = mb := ⟨_, rfl⟩
  rw [hq, hr] at HS
  rw [hq, hr]
  generalize w2.alloc (.cells #[.slice none 0 0] 29) = W0 at HS ⊢
  clear H1 H2 hq hr HA
  go_loopw [5] (fun i wr => ∃ (k : Nat) (X : List Pr), i = .int .i64 k ∧ k ≤ n ∧ k ≤ 500 ∧ X.length ≤ 4096 ∧ Hid (Two B (RAt r X) wr q X ∧ Below B w wr)) (fun i _ => 500 - (intOf i).toNat)
  case atStart => exact ⟨0, [], rfl, Nat.zero_le _, by omega, by simp, HS.out⟩
  case round =>
    clear HS
    obtain ⟨k, X, rfl, hkn, hk5, hXl, HR⟩ := hrel
    obtain ⟨hTwo, hbw⟩ := HR.out
    have hBr : B ≤ wr.heap.size := Nat.le_trans (Nat.le_of_eq HB.out.symm) hbw.size
    by_cases hlt : k < n ∧ k < 500
    · obtain ⟨h1, h2⟩ := hlt
      obtain ⟨b, off, c, x, y, rfl, wx, wy, c1, c2, c3⟩ := (HX.out.later HB.out hbw).cell k h1
      have i1 : (k : Int) < (n : Int) := by omega
      have i2 : (k : Int) < 500 := by omega
      have HP : Hid (PE B q r wr.heap.size (.cells #[.int .i64 c, .int .i64 x, .int .i64 y] 31) w (wr.alloc (.cells #[.int .i64 c, .int .i64 x, .int .i64 y] 31)) X) := ⟨hTwo.plus (keeps_ref r X) hBr _, hbw.alloc hBr _⟩
      have hcl : c = 1 ∨ c = 2 ∨ c = 3 ∨ (c ≠ 1 ∧ c ≠ 2 ∧ c ≠ 3) := by omega
      clear hTwo hbw HR hBr
      rcases hcl with rfl | rfl | rfl | ⟨n1, n2, n3⟩
      · by_cases hX : X = []
        · subst hX
          obtain ⟨hlen, la, lc, hcell⟩ := plays_len HP.out
          have HLen := hide hlen
          have HT := hide (And.intro (two_empty HP.out.1) (two_refnone HP.out.1))
          have H4 := HP
          have g3 : (((([] : List Pr).length : Nat) : Int) != ((([] : List Pr).length : Nat) : Int)) = false := by simp
          simp only [List.length_nil] at HLen hcell
          clear hlen HP
          go_wp2_with (first | (go_at_call 10; refine HT.out.1.mono ?_; rintro e w3 ⟨rfl, rfl⟩) | (go_at_call 11; refine HT.out.2.mono ?_; rintro e w4 ⟨rfl, rfl⟩))
          go_quiet ((go_at_call 18; exact Calls.quiet_of_same (HLen.out _)))
          go_wp2
          go_roundw
          case rel => exact ⟨k + 1, _, by go_num, by omega, by omega, (plays_end H4.out).2.2, (plays_end (H4.out.drewN _)).1, (plays_end (H4.out.drewN _)).2.1⟩
          case measure => simp [intOf]; omega
        · obtain ⟨p, hp⟩ := least_ex hX
          have HT := hide (plays_take HP.out HB.out p hp)
          obtain ⟨pi, pk⟩ := p
          simp only at HT
          clear hp hX HP
          have g1 : (pi != pi) = false := by simp
          have g2 : (pk != pk) = false := by simp
          have g3 : (((dropM X pi).length : Int) != ((dropM X pi).length : Int)) = false := by simp
          go_wp2_with (first | (go_at_call 10; refine HT.out.mono ?_; rintro e w3 ⟨rfl, h3⟩; have H3 := hide h3; clear h3) | (go_at_call 11; refine H3.out.mono ?_; rintro e w4 ⟨rfl, h4⟩; obtain ⟨hlen, la, lc, hcell⟩ := plays_len h4; have HLen := hide hlen; have H4 := hide h4; have hdl := (plays_end h4).2.2; clear h4 hlen))
          go_quiet ((go_at_call 18; exact Calls.quiet_of_same (HLen.out _)))
          go_wp2
          go_roundw
          case rel => exact ⟨k + 1, _, by go_num, by omega, by omega, (plays_end H4.out).2.2, (plays_end (H4.out.drewN _)).1, (plays_end (H4.out.drewN _)).2.1⟩
          case measure => simp [intOf]; omega
      · have HT := hide (plays_drop HP.out HB.out x wx)
        obtain ⟨bb, hbb⟩ : ∃ bb, (look X x).isSome = bb := ⟨_, rfl⟩
        rw [hbb] at HT
        clear hbb
        have HC : Hid ((wr.alloc (.cells #[.int .i64 2, .int .i64 x, .int .i64 y] 31)).heap[wr.heap.size]? = some (.cells #[.int .i64 2, .int .i64 x, .int .i64 y] 31 (0, 0))) := heap_alloc_new _ _
        have g1 : (bb != bb) = false := by cases bb <;> rfl
        have g3 : (((dropM X x).length : Int) != ((dropM X x).length : Int)) = false := by simp
        clear HP
        go_wp2
        go_region_held (fun w' => w'.cell? ⟨wr.heap.size, 1, none⟩ = some (.int .i64 x)) (go_keep) (first | (go_at_call 13; refine H3.out.mono ?_; rintro e w4 ⟨rfl, h4⟩; have hC4 := cell_of_row w4 _ 1 _ _ _ h4.1.blk; simp only [List.getElem?_toArray, List.getElem?_cons_succ, List.getElem?_cons_zero] at hC4; obtain ⟨hlen, la, lc, hcell⟩ := plays_len h4; have HLen := hide hlen; have H4 := hide h4; have hdl := (plays_end h4).2.2; clear h4 hlen) | (go_at_call 12; refine HT.out.mono ?_; rintro e w3 ⟨rfl, hC3, h3⟩; have t1 := cell_of_row w3 _ 1 _ _ _ hC3; simp only [List.getElem?_toArray, List.getElem?_cons_succ, List.getElem?_cons_zero] at t1; have H3 := hide h3; clear h3 hC3))
        all_goals
          go_wp2
          go_quiet ((go_at_call 18; exact Calls.quiet_of_same (HLen.out _)))
          go_wp2
          go_roundw
          case rel => exact ⟨k + 1, _, by go_num, by omega, by omega, (plays_end H4.out).2.2, (plays_end (H4.out.drewN _)).1, (plays_end (H4.out.drewN _)).2.1⟩
          case measure => simp [intOf]; omega
      · obtain ⟨hlen, la, lc, hcell⟩ := plays_len HP.out
        have HLen := hide hlen
        have HT := hide (And.intro (two_key HP.out.1 x wx) (two_refkey HP.out.1 hXl x))
        obtain ⟨kx, hkx⟩ : ∃ kx, keyM X x = kx := ⟨_, rfl⟩
        rw [hkx] at HT
        obtain ⟨kk, kb⟩ := kx
        simp only at HT
        have H4 := HP
        have g1 : (kk != kk) = false := by simp
        have g2 : (kb != kb) = false := by cases kb <;> rfl
        have g3 : ((X.length : Int) != (X.length : Int)) = false := by simp
        clear hlen HP hkx
        go_wp2_with (first | (go_at_call 14; refine HT.out.1.mono ?_; rintro e w3 ⟨rfl, rfl⟩) | (go_at_call 15; refine HT.out.2.mono ?_; rintro e w4 ⟨rfl, rfl⟩))
        go_quiet ((go_at_call 18; exact Calls.quiet_of_same (HLen.out _)))
        go_wp2
        go_roundw
        case rel => exact ⟨k + 1, _, by go_num, by omega, by omega, (plays_end H4.out).2.2, (plays_end (H4.out.drewN _)).1, (plays_end (H4.out.drewN _)).2.1⟩
        case measure => simp [intOf]; omega
      · have HT := hide (plays_put HP.out HB.out x y wx wy)
        obtain ⟨bb, hbb⟩ : ∃ bb, (putM X x y).2 = bb := ⟨_, rfl⟩
        obtain ⟨X', hX'⟩ : ∃ X', (putM X x y).1 = X' := ⟨_, rfl⟩
        rw [hbb, hX'] at HT
        clear hbb hX'
        have g1 : (bb != bb) = false := by cases bb <;> rfl
        have g3 : ((X'.length : Int) != (X'.length : Int)) = false := by simp
        have m1 : (c == 1) = false := by simpa using n1
        have m2 : (c == 2) = false := by simpa using n2
        have m3 : (c == 3) = false := by simpa using n3
        clear HP n1 n2 n3
        go_wp2
        go_region_held (fun w' => w'.cell? ⟨wr.heap.size, 1, none⟩ = some (.int .i64 x) ∧ w'.cell? ⟨wr.heap.size, 2, none⟩ = some (.int .i64 y)) (go_keep) (first | (go_at_call 17; refine H3.out.mono ?_; rintro e w4 ⟨rfl, h4⟩; have hC4 := cell_of_row w4 _ 1 _ _ _ h4.1.blk; have hD4 := cell_of_row w4 _ 2 _ _ _ h4.1.blk; simp only [List.getElem?_toArray, List.getElem?_cons_succ, List.getElem?_cons_zero] at hC4 hD4; obtain ⟨hlen, la, lc, hcell⟩ := plays_len h4; have HLen := hide hlen; have H4 := hide h4; have hdl := (plays_end h4).2.2; clear h4 hlen) | (go_at_call 16; refine HT.out.mono ?_; rintro e w3 ⟨rfl, hC3, h3⟩; have t1 := cell_of_row w3 _ 1 _ _ _ hC3; have t2 := cell_of_row w3 _ 2 _ _ _ hC3; simp only [List.getElem?_toArray, List.getElem?_cons_succ, List.getElem?_cons_zero] at t1 t2; have H3 := hide h3; clear h3 hC3))
        all_goals
          go_wp2
          go_quiet ((go_at_call 18; exact Calls.quiet_of_same (HLen.out _)))
          go_wp2
          go_roundw
          case rel => exact ⟨k + 1, _, by go_num, by omega, by omega, (plays_end H4.out).2.2, (plays_end (H4.out.drewN _)).1, (plays_end (H4.out.drewN _)).2.1⟩
          case measure => simp [intOf]; omega
    · have HBw := hide hbw
      have h3 : ¬ k < n ∨ (k < n ∧ ¬ (k : Int) < 500) := by omega
      clear hTwo hbw HR hlt
      rcases h3 with h3 | ⟨h1, h3⟩
      all_goals
        go_wp2
        go_ret
        exact ⟨rfl, HBw.out⟩
end Go.Proofs.Ytbgolkkfpajkdaa
