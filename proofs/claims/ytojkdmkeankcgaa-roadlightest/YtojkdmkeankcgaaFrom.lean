/-
  What the call of short's From does.
-/
import Derived.Test.YtojkdmkeankcgaaClose
import Derived.Test.YtojkdmkeankcgaaBegin
import Derived.Test.YtojkdmkeankcgaaOuts
import Derived.Deep.LoopGhost
namespace Go.Proofs.Ytojkdmkeankcgaa
open Go.RowKit Go.Sort

theorem isplace_nil (p : Int) (w : World) : Calls Try.prog 50 #[.pointer none, .int .i64 p] w fun e w' => e = .returned (.bool false) ∧ w' = w := by
  have HP := hide (places_nil w)
  by_cases h : 0 ≤ p
  · have h2 : decide (p < 0) = false := decide_eq_false (by omega)
    go_enter Try.func50, Try.ntmps50
    go_wp2_with (go_at_call 26; refine HP.out.mono ?_; rintro e w' ⟨rfl, hw⟩; rw [hw]; clear hw)
    go_ret
    exact ⟨rfl, rfl⟩
  · go_enter Try.func50, Try.ntmps50
    go_wp2_with (go_at_call 26; refine HP.out.mono ?_; rintro e w' ⟨rfl, hw⟩; rw [hw]; clear hw)
    go_ret
    exact ⟨rfl, rfl⟩
def inN (n : Nat) (p : Int) : Bool := decide (0 ≤ p ∧ p < n)
theorem isplace_any {w : World} {g n : Nat} {W : Nat → Nat → Option Int} (h : GAt w g n W) (p : Int) : Calls Try.prog 50 #[.pointer (some ⟨g, 0, none⟩), .int .i64 p] w fun e w' => e = .returned (.bool (inN n p)) ∧ w' = w := by
  have HP := hide (places_any h)
  clear h
  by_cases h1 : 0 ≤ p
  · by_cases h2 : p < n
    · rw [show inN n p = true from decide_eq_true ⟨h1, h2⟩]
      go_enter Try.func50, Try.ntmps50
      go_wp2_with (go_at_call 26; refine HP.out.mono ?_; rintro e w' ⟨rfl, hw⟩; rw [hw]; clear hw)
      go_ret
      exact ⟨rfl, rfl⟩
    · rw [show inN n p = false from decide_eq_false (fun e => h2 e.2)]
      have h3 : decide (p < (n : Int)) = false := decide_eq_false h2
      go_enter Try.func50, Try.ntmps50
      go_wp2_with (go_at_call 26; refine HP.out.mono ?_; rintro e w' ⟨rfl, hw⟩; rw [hw]; clear hw)
      go_ret
      exact ⟨rfl, rfl⟩
  · rw [show inN n p = false from decide_eq_false (fun e => h1 e.1)]
    go_enter Try.func50, Try.ntmps50
    go_wp2_with (go_at_call 26; refine HP.out.mono ?_; rintro e w' ⟨rfl, hw⟩; rw [hw]; clear hw)
    go_ret
    exact ⟨rfl, rfl⟩
theorem from_nil (p : Int) (w : World) : Calls Try.prog 32 #[.pointer none, .int .i64 p] w fun e w' => e = .returned (.tuple #[.slice none 0 0, .slice none 0 0]) ∧ w' = w := by
  have HP := hide (isplace_nil p w)
  go_enter Try.func32, Try.ntmps32
  go_wp2_with (go_at_call 50; refine HP.out.mono ?_; rintro e w' ⟨rfl, hw⟩; rw [hw]; clear hw)
  go_ret2
  exact ⟨rfl, rfl⟩
/-- What From knows between two rounds. -/
structure FrIn (w : World) (sb q gc gl ga n : Nat) (W : Nat → Nat → Option Int) (s : Nat) (D : Nat → Option Int) (A : Nat → Int) (X : List Qu.Pr) (S : Nat → Prop) (rk : Nat → Nat) (wr : World) : Prop where
  below : Below w.heap.size w wr
  sr : SrAt w.heap.size wr sb q gc gl ga n D A X S
  dj : Dj n W s D X A rk
theorem erow_of {w2 w3 : World} {B sb q gc gl ga n : Nat} {D : Nat → Option Int} {A : Nat → Int} {X : List Qu.Pr} {S : Nat → Prop} {va : Option Addr} {rc : Nat} {R : List (Int × Int)} (h : SrAt B w2 sb q gc gl ga n D A X S) (hr : w3.ownsRow w2.heap.size 71 2 (.slice va R.length rc) R.length (flatE R)) : ERow w3 va R gc gl ga S := fun k hk => by
  rcases hr.2 with ⟨_, e2⟩ | ⟨gb, cap, cur, e0, hb, _⟩
  · omega
  · cases e0
    obtain ⟨l1, l2, l3, l4⟩ := h.lts
    have f := flatE_get R k hk
    exact ⟨gb, rfl, fun e => by have := h.que.lt gb e; omega, by omega, by omega, by omega, by rw [hr.cellAt _ (by omega)]; exact f.1, by rw [hr.cellAt _ (by omega)]; exact f.2⟩
def lstV (n : Nat) (D : Nat → Option Int) : List Int := (List.range n).map fun v => (D v).getD (-1)
def ahdV (n : Nat) (A : Nat → Int) : List Int := (List.range n).map A
theorem irow_block {w : World} {g n B : Nat} {xs : List Int} (h : w.heap[g]? = some (.cells (intsV xs).toArray 3 (0, 0))) (hn : xs.length = n) (hB : B ≤ g) (hm : n ≤ 32) : IRow w B (.slice (some ⟨g, 0, none⟩) n n) xs := by
  refine ⟨by rw [intsV_len]; omega, .inr ⟨g, n, _, by rw [hn], hB, h, by omega, by unfold maxLen; omega, by simp [intsV_len, hn], ?_⟩⟩
  simp only
  rw [List.take_of_length_le (by rw [intsV_len]; omega)]
set_option maxRecDepth 100000 in
set_option maxHeartbeats 6400000 in
theorem from_any {w : World} {g n : Nat} {W : Nat → Nat → Option Int} (h : GAt w g n W) (hn : 1 ≤ n ∧ n ≤ 32) (hW : WOk n W) (p : Nat) (hp : p < n) :
    Calls Try.prog 32 #[.pointer (some ⟨g, 0, none⟩), .int .i64 p] w fun e w' => ∃ gl ga D A rk, e = .returned (.tuple #[.slice (some ⟨gl, 0, none⟩) n n, .slice (some ⟨ga, 0, none⟩) n n]) ∧ IsLeast n W p D ∧ Back n W p D A rk ∧ IRow w' w.heap.size (.slice (some ⟨gl, 0, none⟩) n n) (lstV n D) ∧ IRow w' w.heap.size (.slice (some ⟨ga, 0, none⟩) n n) (ahdV n A) ∧ Below w.heap.size w w' := by
  have HG := hide h
  have HN := hide hn
  have HW := hide hW
  have HIP := hide (isplace_any h p)
  rw [show inN n (p : Int) = true from decide_eq_true (by omega)] at HIP
  have HPL := hide (places_any h)
  have HBE := hide (begin_any n p hn hp w)
  have HP := hide hp
  clear h hW
  go_enter Try.func32, Try.ntmps32
  go_wp2_with (first | (go_at_call 50; refine HIP.out.mono ?_; rintro e w' ⟨rfl, hw⟩; rw [hw]; clear hw) | (go_at_call 26; refine HPL.out.mono ?_; rintro e w' ⟨rfl, hw⟩; rw [hw]; clear hw) | (go_at_call 52; refine HBE.out.mono ?_; rintro e w1 ⟨sb, q, gc, gl, ga, S, rfl, h1, h2⟩; have H1 := hide (And.intro h1 h2); clear h1 h2))
  have HS : Hid (FrIn w sb q gc gl ga n W p (fun _ => none) (fun _ => -1) [((p : Int), (0 : Int))] S (fun _ => 0) w1) := ⟨H1.out.2, H1.out.1, dj_zero W hp⟩
  clear H1
  go_loopg [] n (fun k wr => ∃ D A X S rk, k + cnt D n = n ∧ Hid (FrIn w sb q gc gl ga n W p D A X S rk wr))
  case atStart => exact ⟨_, _, _, _, _, by
    have : ∀ m, cnt (fun _ => none) m = 0 := fun m => by induction m with | zero => rfl | succ m ih => rw [cnt, ih]; rfl
    rw [this]; rfl, HS.out⟩
  case round =>
    clear HS
    obtain ⟨D, A, X, S, rk, hk, HR⟩ := hrel
    have c0 := HR.out.sr.c.1
    have hBw := HR.out.below.size
    by_cases hX : X = []
    · subst hX
      have HE := hide (sr_empty HR.out.sr)
      obtain ⟨_, _, c2, c3⟩ := HR.out.sr.c
      go_wp2_with (go_at_call 53; refine HE.out.mono ?_; rintro e w' ⟨rfl, hw⟩; rw [hw]; clear hw)
      go_quiet (fail)
      go_wp2
      go_ret2
      obtain ⟨h1, h2⟩ := dj_end HR.out.dj hn.2
      have hs := HR.out.sr.drewN nq
      exact ⟨gl, ga, D, A, rk, rfl, h1, h2, irow_block (by unfold intsV lstV; rw [List.map_map]; exact hs.lst) (by simp [lstV]) hs.ge.2.2.1 hn.2, irow_block (by unfold intsV ahdV; rw [List.map_map]; exact hs.ahd) (by simp [ahdV]) hs.ge.2.2.2.1 hn.2, Qu.below_drewN HR.out.below nq⟩
    · obtain ⟨y, hy⟩ := Qu.least_ex hX
      have HT := hide (sr_take HR.out.sr hBw y hy)
      obtain ⟨v, hv, hy1, hDv, hmid, hcnt⟩ := dj_take HR.out.dj hy
      obtain ⟨y1, y2⟩ := y
      simp only at hy1 hmid hcnt HT
      subst hy1
      have HM := hide hmid
      have HZ : Hid (rowZ n W v = rowM n W v) := by show _ = _; unfold rowZ; rw [if_pos (by omega)]; rfl
      clear hmid hy
      go_wp2_with (first
        | (go_at_call 53; refine HT.out.mono ?_; rintro e w2 ⟨rfl, ⟨S2, h1⟩, h2⟩; have H2 : Hid (SrAt w.heap.size w2 sb q gc gl ga n D A (Qu.dropM X v) S2 ∧ Below w.heap.size w w2) := ⟨h1, HR.out.below.trans h2⟩; clear h1 h2)
        | (go_at_call 27; refine (out_any (HG.out.later H2.out.2) HN.out v).mono ?_; rw [HZ.out]; rintro e w3 ⟨ve, rfl, h1, h2⟩; obtain ⟨va, rc, rfl⟩ : ∃ a c, ve = .slice a (rowM n W v).length c := (by rcases h1.2 with ⟨e, e2⟩ | ⟨g, cap, cur, e, _⟩; exact ⟨none, 0, by rw [e, e2]⟩; exact ⟨_, cap, e⟩); have H3 : Hid (SrAt w.heap.size w3 sb q gc gl ga n D A (Qu.dropM X v) S2 ∧ Below w.heap.size w w3 ∧ ERow w3 va (rowM n W v) gc gl ga S2) := ⟨H2.out.1.later h2, H2.out.2.trans (h2.mono H2.out.2.size), erow_of H2.out.1 h1⟩; clear h1 h2)
        | (go_at_call 54; refine (close_any HN.out HW.out hv H3.out.2.1.size H3.out.1 H3.out.2.2 HM.out).mono ?_; rintro e w4 ⟨rfl, A4, X4, S4, h1, h2, h3⟩; have H4 : Hid (FrIn w sb q gc gl ga n W p (upd D v (some y2)) A4 X4 S4 (upd rk v (cnt D n)) w4) := ⟨H3.out.2.1.trans h3, h1, mid_end h2⟩; clear h1 h2 h3))
      go_roundg (gk - 1)
      case measure => have := cnt_le (upd D v (some y2)) n; omega
      case rel => exact ⟨_, _, _, _, _, by have := cnt_le (upd D v (some y2)) n; omega, H4.out⟩
end Go.Proofs.Ytojkdmkeankcgaa
