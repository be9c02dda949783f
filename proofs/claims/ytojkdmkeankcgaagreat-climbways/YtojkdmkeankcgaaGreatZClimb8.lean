/-
  What the calls of climb's climb, upwards and downwards do.
-/
import Derived.Test.YtojkdmkeankcgaaGreatZClose8
import Derived.Test.YtojkdmkeankcgaaGreatZSm
import Derived.Deep.LoopGhost
namespace Go.Proofs.YtojkdmkeankcgaaGreat
open Go.RowKit Go.Sort

theorem made_ints8 (n : Nat) (hn : n ≤ 32) (w : World) : (Instr.makeSlice 27 (.int .i64 n) (.int .i64 n)).run Tryz.prog w = .ok (.slice (some ⟨w.heap.size, 0, none⟩) n n) (w.alloc (.cells (List.replicate n (.int .i64 0)).toArray 3)) := by
  obtain ⟨i0, hi0, hz0, hz1, hz2⟩ := info_parts info3
  have := run_makeSlice (P := Tryz.prog) w 27 3 i0 _ Tryz.underlying27 hi0 hz0 .i64 .i64 n n (by omega) (by omega) (by rw [hz1]; omega) (by rw [hz2]; omega) (by omega)
  rw [hz1] at this
  simp only [Int.toNat_natCast, Nat.mul_one] at this
  have e : madeCells (Value.int .i64 0).cells n = (List.replicate n (Value.int .i64 0)).toArray := by
    apply Array.ext
    · simp [madeCells]
    · intro i h1 h2
      simp [madeCells, Value.cells, Nat.mod_one]
  rw [e] at this
  exact this
theorem made_links8 (n : Nat) (hn : n ≤ 32) (w : World) : (Instr.makeSlice 43 (.int .i64 n) (.int .i64 n)).run Tryz.prog w = .ok (.slice (some ⟨w.heap.size, 0, none⟩) n n) (w.alloc (.cells (bysV n fun _ => (0, 0, 0, 0)).toArray 46)) := by
  obtain ⟨i0, hi0, hz0, hz1, hz2⟩ := info_parts info59
  have := run_makeSlice (P := Tryz.prog) w 43 46 i0 _ Tryz.underlying43 hi0 hz0 .i64 .i64 n n (by omega) (by omega) (by rw [hz1]; omega) (by rw [hz2]; omega) (by omega)
  rw [hz1] at this
  simp only [Int.toNat_natCast] at this
  have e : madeCells (Value.agg #[.int .i64 0, .int .i64 0, .int .i64 0, .int .i64 0]).cells (n * 4) = (bysV n fun _ => (0, 0, 0, 0)).toArray := by
    apply Array.ext_getElem?
    intro i
    by_cases hi : i < n * 4
    · obtain ⟨u, j, hj, rfl⟩ : ∃ u j, j < 4 ∧ i = u * 4 + j := ⟨i / 4, i % 4, Nat.mod_lt _ (by omega), by omega⟩
      rw [show (bysV n fun _ => (0, 0, 0, 0)).toArray[u * 4 + j]? = (bysV n fun _ => (0, 0, 0, 0))[u * 4 + j]? from List.getElem?_toArray, bysV_get _ (by omega) hj]
      have hm : (u * 4 + j) % 4 = j := by omega
      have hg : (madeCells (Value.agg #[.int .i64 0, .int .i64 0, .int .i64 0, .int .i64 0]).cells (n * 4))[u * 4 + j]? = some (.int .i64 0) := by
        rw [Array.getElem?_eq_getElem (by simp [madeCells]; omega)]
        simp only [madeCells, Value.cells]
        rcases (show j = 0 ∨ j = 1 ∨ j = 2 ∨ j = 3 by omega) with rfl | rfl | rfl | rfl <;> simp [hm]
      rw [hg]
      rcases (show j = 0 ∨ j = 1 ∨ j = 2 ∨ j = 3 by omega) with rfl | rfl | rfl | rfl <;> rfl
    · rw [show (bysV n fun _ => (0, 0, 0, 0)).toArray[i]? = (bysV n fun _ => (0, 0, 0, 0))[i]? from List.getElem?_toArray, List.getElem?_eq_none (by rw [bysV_len]; omega)]
      simp [madeCells]
      omega
  rw [e] at this
  exact this
theorem arr_rep {n : Nat} (x : Value) : (List.replicate n x).toArray = Array.replicate n x := by simp
/-- A side that has just been begun: its rows are made, its queue is new. -/
theorem sd_begun {B sb n : Nat} {w : World} {lk lo hi : Value} {s : Int} (hbx : w.heap[sb]? = some (.cells #[lk, lo, hi, .int .i64 s, .slice none 0 0, .slice none 0 0, .slice none 0 0] 90 (0, 0))) (hsB : B ≤ sb) :
    (SqAt B (((((((w.setCell ⟨sb, 4, none⟩ (.slice (some ⟨w.heap.size, 0, none⟩) n n)).setCell ⟨sb, 5, none⟩ (.slice (some ⟨w.heap.size + 1, 0, none⟩) n n)).alloc (.cells (Array.replicate n (.bool false)) 4)).alloc (.cells (Array.replicate n (.int .i64 0)) 3)).alloc (.cells (bysV n fun _ => (0, 0, 0, 0)).toArray 46)).setCell ⟨sb, 6, none⟩ (.slice (some ⟨w.heap.size + 1 + 1, 0, none⟩) n n)).alloc (.cells #[.pointer none] 111)) sb (w.heap.size + 1 + 1 + 1) w.heap.size (w.heap.size + 1) (w.heap.size + 1 + 1) n lk lo hi s (fun _ => none) (fun _ => (0, 0, 0, 0)) [] (fun b => b = (w.heap.size + 1 + 1 + 1)) ∧ Below B w (((((((w.setCell ⟨sb, 4, none⟩ (.slice (some ⟨w.heap.size, 0, none⟩) n n)).setCell ⟨sb, 5, none⟩ (.slice (some ⟨w.heap.size + 1, 0, none⟩) n n)).alloc (.cells (Array.replicate n (.bool false)) 4)).alloc (.cells (Array.replicate n (.int .i64 0)) 3)).alloc (.cells (bysV n fun _ => (0, 0, 0, 0)).toArray 46)).setCell ⟨sb, 6, none⟩ (.slice (some ⟨w.heap.size + 1 + 1, 0, none⟩) n n)).alloc (.cells #[.pointer none] 111)))
    ∧ ((w.alloc (.cells (Array.replicate n (.bool false)) 4)).cell? ⟨sb, 4, none⟩ = some (.slice none 0 0) ∧ (w.alloc (.cells (Array.replicate n (.bool false)) 4)).frozen? ⟨sb, 4, none⟩ = false) ∧ ((((w.setCell ⟨sb, 4, none⟩ (.slice (some ⟨w.heap.size, 0, none⟩) n n)).alloc (.cells (Array.replicate n (.bool false)) 4)).alloc (.cells (Array.replicate n (.int .i64 0)) 3)).cell? ⟨sb, 5, none⟩ = some (.slice none 0 0) ∧ (((w.setCell ⟨sb, 4, none⟩ (.slice (some ⟨w.heap.size, 0, none⟩) n n)).alloc (.cells (Array.replicate n (.bool false)) 4)).alloc (.cells (Array.replicate n (.int .i64 0)) 3)).frozen? ⟨sb, 5, none⟩ = false) ∧ ((((((w.setCell ⟨sb, 4, none⟩ (.slice (some ⟨w.heap.size, 0, none⟩) n n)).setCell ⟨sb, 5, none⟩ (.slice (some ⟨w.heap.size + 1, 0, none⟩) n n)).alloc (.cells (Array.replicate n (.bool false)) 4)).alloc (.cells (Array.replicate n (.int .i64 0)) 3)).alloc (.cells (bysV n fun _ => (0, 0, 0, 0)).toArray 46)).cell? ⟨sb, 6, none⟩ = some (.slice none 0 0) ∧ (((((w.setCell ⟨sb, 4, none⟩ (.slice (some ⟨w.heap.size, 0, none⟩) n n)).setCell ⟨sb, 5, none⟩ (.slice (some ⟨w.heap.size + 1, 0, none⟩) n n)).alloc (.cells (Array.replicate n (.bool false)) 4)).alloc (.cells (Array.replicate n (.int .i64 0)) 3)).alloc (.cells (bysV n fun _ => (0, 0, 0, 0)).toArray 46)).frozen? ⟨sb, 6, none⟩ = false) := by
  have hlt : sb < w.heap.size := (Array.getElem?_eq_some_iff.1 hbx).1
  have e1 := heap_setCell_same w sb 4 _ _ (.slice (some ⟨w.heap.size, 0, none⟩) n n) hbx
  have e2 := heap_setCell_same _ sb 5 _ _ (.slice (some ⟨w.heap.size + 1, 0, none⟩) n n) e1
  have f3 : Below B w ((w.setCell ⟨sb, 4, none⟩ (.slice (some ⟨w.heap.size, 0, none⟩) n n)).setCell ⟨sb, 5, none⟩ (.slice (some ⟨w.heap.size + 1, 0, none⟩) n n)) := ((Below.refl _ _).setCell hsB _).setCell hsB _
  have z1 : (w.setCell ⟨sb, 4, none⟩ (.slice (some ⟨w.heap.size, 0, none⟩) n n)).heap.size = w.heap.size := by simp [World.setCell]
  have z2 : ((w.setCell ⟨sb, 4, none⟩ (.slice (some ⟨w.heap.size, 0, none⟩) n n)).setCell ⟨sb, 5, none⟩ (.slice (some ⟨w.heap.size + 1, 0, none⟩) n n)).heap.size = w.heap.size := by simp [World.setCell]
  have g1 : (w.alloc (.cells (Array.replicate n (.bool false)) 4)).heap[sb]? = _ := at_old (by omega) hbx
  have g2 : (((w.setCell ⟨sb, 4, none⟩ (.slice (some ⟨w.heap.size, 0, none⟩) n n)).alloc (.cells (Array.replicate n (.bool false)) 4)).alloc (.cells (Array.replicate n (.int .i64 0)) 3)).heap[sb]? = _ := at_old (by rw [size_alloc]; omega) (at_old (by omega) e1)
  have g3 : (((((w.setCell ⟨sb, 4, none⟩ (.slice (some ⟨w.heap.size, 0, none⟩) n n)).setCell ⟨sb, 5, none⟩ (.slice (some ⟨w.heap.size + 1, 0, none⟩) n n)).alloc (.cells (Array.replicate n (.bool false)) 4)).alloc (.cells (Array.replicate n (.int .i64 0)) 3)).alloc (.cells (bysV n fun _ => (0, 0, 0, 0)).toArray 46)).heap[sb]? = _ := at_old (by rw [size_alloc, size_alloc]; omega) (at_old (by rw [size_alloc]; omega) (at_old (by omega) e2))
  refine ⟨?_, ⟨by rw [cell_of_row _ sb 4 _ _ _ g1]; rfl, frozen_of_row _ sb 4 _ _ g1⟩, ⟨by rw [cell_of_row _ sb 5 _ _ _ g2]; rfl, frozen_of_row _ sb 5 _ _ g2⟩, ⟨by rw [cell_of_row _ sb 6 _ _ _ g3]; rfl, frozen_of_row _ sb 6 _ _ g3⟩⟩
  have e3 := heap_setCell_same _ sb 6 _ _ (.slice (some ⟨w.heap.size + 1 + 1, 0, none⟩) n n) g3
  clear g1 g2 g3 z1 e1 e2
  generalize ((w.setCell ⟨sb, 4, none⟩ (.slice (some ⟨w.heap.size, 0, none⟩) n n)).setCell ⟨sb, 5, none⟩ (.slice (some ⟨w.heap.size + 1, 0, none⟩) n n)) = W at e3 f3 z2 ⊢
  have r4 : Array.replicate n (Value.bool false) = ((List.range n).map fun _ => Value.bool false).toArray := range_rep n _
  have r3 : Array.replicate n (Value.int .i64 0) = ((List.range n).map fun _ => Value.int .i64 0).toArray := range_rep n _
  have zz : ((((W.alloc (.cells (Array.replicate n (.bool false)) 4)).alloc (.cells (Array.replicate n (.int .i64 0)) 3)).alloc (.cells (bysV n fun _ => (0, 0, 0, 0)).toArray 46)).setCell ⟨sb, 6, none⟩ (.slice (some ⟨w.heap.size + 1 + 1, 0, none⟩) n n)).heap.size = w.heap.size + 1 + 1 + 1 := by simp [World.setCell, z2]
  refine ⟨⟨⟨?_, ?_, ?_, ?_, ⟨hsB, by omega, by omega, by omega⟩⟩, ⟨rfl, fun k e => by subst e; rw [size_alloc, zz]; omega, .inl ⟨?_, rfl⟩⟩, ⟨by omega, by omega, by omega, by omega⟩, fun k e => by omega⟩, ?_⟩
  · refine at_old (by omega) ?_
    rw [e3]; simp
  · refine at_old (by omega) ?_
    rw [heap_setCell_other _ _ _ _ (by show _ ≠ sb; omega)]
    refine at_old (by simp only [size_alloc, z2]; omega) (at_old (by simp only [size_alloc, z2]; omega) ?_)
    rw [at_new z2, r4]; rfl
  · refine at_old (by omega) ?_
    rw [heap_setCell_other _ _ _ _ (by show _ ≠ sb; omega)]
    refine at_old (by simp only [size_alloc, z2]; omega) ?_
    rw [at_new (by simp only [size_alloc, z2]), r3]; rfl
  · refine at_old (by omega) ?_
    rw [heap_setCell_other _ _ _ _ (by show _ ≠ sb; omega)]
    rw [at_new (by simp only [size_alloc, z2])]
  · rw [at_new zz]
  · exact ((((f3.alloc (by omega) _).alloc (by simp only [size_alloc, z2]; omega) _).alloc (by simp only [size_alloc, z2]; omega) _).setCell hsB _).alloc (by rw [zz]; omega) _
/-- What climb knows between two rounds. -/
structure ClIn9 (B : Nat) (w : World) (sb q gc gl gy n : Nat) (lk lo hi : Value) (p : Nat) (up : Bool) (E : Mx) (D : Nat → Option Int) (A : Nat → Lnk) (X : List Qu.Pr) (S : Nat → Prop) (wr : World) : Prop where
  below : Below B w wr
  sq : SqAt B wr sb q gc gl gy n lk lo hi p D A X S
  sd : Sd n up E p D X A
set_option maxRecDepth 100000
set_option maxHeartbeats 12800000
theorem climb_out {B sb n : Nat} {w : World} {lk lo hi : Value} {s : Int} (hn : n ≤ 32) (hs : ¬ (0 ≤ s ∧ s < n)) (hbx : w.heap[sb]? = some (.cells #[lk, lo, hi, .int .i64 s, .slice none 0 0, .slice none 0 0, .slice none 0 0] 90 (0, 0))) (hsB : B ≤ sb) :
    Calls Tryz.prog 68 #[.pointer (some ⟨sb, 0, none⟩), .int .i64 n] w fun e w' => e = .returned (.tuple #[]) ∧ ∃ gc gl gy A, SdAt B w' sb gc gl gy n lk lo hi s (fun _ => none) A ∧ Below B w w' := by
  obtain ⟨hbg, ⟨k4, z4⟩, ⟨k5, z5⟩, ⟨k6, z6⟩⟩ := sd_begun (n := n) hbx hsB
  have HBG := hide hbg
  have c3 := hbg.1.sd.c.2.2.2.1
  have hmb := fun w => made_bools n hn w
  have hmi := fun w => made_ints8 n hn w
  have hml := fun w => made_links8 n hn w
  simp only [arr_rep] at hmb hmi
  have hlt : sb < w.heap.size := (Array.getElem?_eq_some_iff.1 hbx).1
  have HE := hide (sq_empty hbg.1)
  have HS := hide hs
  clear hbx hbg hs
  by_cases h0 : 0 ≤ s
  · have h1 : ¬ s < (n : Int) := fun e => HS.out ⟨h0, e⟩
    have h2 : decide (s < (n : Int)) = false := decide_eq_false h1
    go_enter Tryz.func68, Tryz.ntmps68
    go_wp2_with (first | (go_at_call 30; refine (new_exact _).mono ?_; rintro e w1 ⟨rfl, hw⟩; rw [hw]; clear hw))
    go_loopw [] (fun wr => wr = (((((((w.setCell ⟨sb, 4, none⟩ (.slice (some ⟨w.heap.size, 0, none⟩) n n)).setCell ⟨sb, 5, none⟩ (.slice (some ⟨w.heap.size + 1, 0, none⟩) n n)).alloc (.cells (Array.replicate n (.bool false)) 4)).alloc (.cells (Array.replicate n (.int .i64 0)) 3)).alloc (.cells (bysV n fun _ => (0, 0, 0, 0)).toArray 46)).setCell ⟨sb, 6, none⟩ (.slice (some ⟨w.heap.size + 1 + 1, 0, none⟩) n n)).alloc (.cells #[.pointer none] 111))) (fun _ => 0)
    case atStart => rfl
    case round =>
      subst hrel
      go_wp2_with (go_at_call 63; refine HE.out.mono ?_; rintro e w1 ⟨rfl, hw⟩; rw [hw]; clear hw)
      refine bodyPost_ret (results_none rfl _ _ _) rfl ?_
      exact ⟨rfl, _, _, _, _, HBG.out.1.sd, HBG.out.2⟩
  · have h2 : decide (0 ≤ s) = false := decide_eq_false h0
    go_enter Tryz.func68, Tryz.ntmps68
    go_wp2_with (first | (go_at_call 30; refine (new_exact _).mono ?_; rintro e w1 ⟨rfl, hw⟩; rw [hw]; clear hw))
    go_loopw [] (fun wr => wr = (((((((w.setCell ⟨sb, 4, none⟩ (.slice (some ⟨w.heap.size, 0, none⟩) n n)).setCell ⟨sb, 5, none⟩ (.slice (some ⟨w.heap.size + 1, 0, none⟩) n n)).alloc (.cells (Array.replicate n (.bool false)) 4)).alloc (.cells (Array.replicate n (.int .i64 0)) 3)).alloc (.cells (bysV n fun _ => (0, 0, 0, 0)).toArray 46)).setCell ⟨sb, 6, none⟩ (.slice (some ⟨w.heap.size + 1 + 1, 0, none⟩) n n)).alloc (.cells #[.pointer none] 111))) (fun _ => 0)
    case atStart => rfl
    case round =>
      subst hrel
      go_wp2_with (go_at_call 63; refine HE.out.mono ?_; rintro e w1 ⟨rfl, hw⟩; rw [hw]; clear hw)
      refine bodyPost_ret (results_none rfl _ _ _) rfl ?_
      exact ⟨rfl, _, _, _, _, HBG.out.1.sd, HBG.out.2⟩

theorem climb_up8 {B sb n p : Nat} {w : World} {b : LfB} {rv : Nat → Int} {U V : Mx} {E : Mx} {φ : Nat → Int} {ρ : Nat → Nat} (hEU : E = U) (hn : n ≤ 32) (hE : EOk8 n E φ ρ) (hp : p < n) (hB : B ≤ w.heap.size) (hl : LfA n w b rv U V) (hlB : ∀ k, b.S n k → k < B)
    (hbx : w.heap[sb]? = some (.cells #[.func (.func 18) #[.pointer (some ⟨b.l, 0, none⟩)] #[], .func (.func 66) #[] #[], .func (.func 67) #[] #[], .int .i64 p, .slice none 0 0, .slice none 0 0, .slice none 0 0] 90 (0, 0))) (hsB : B ≤ sb) :
    Calls Tryz.prog 68 #[.pointer (some ⟨sb, 0, none⟩), .int .i64 n] w fun e w' => e = .returned (.tuple #[]) ∧ ∃ gc gl gy D A, SdAt B w' sb gc gl gy n (.func (.func 18) #[.pointer (some ⟨b.l, 0, none⟩)] #[]) (.func (.func 66) #[] #[]) (.func (.func 67) #[] #[]) p D A ∧ Side n true E p D A ∧ Below B w w' := by
  obtain ⟨hbg, ⟨k4, z4⟩, ⟨k5, z5⟩, ⟨k6, z6⟩⟩ := sd_begun (n := n) hbx hsB
  have HBG := hide hbg
  have c3 := hbg.1.sd.c.2.2.2.1
  have hmb := fun w => made_bools n hn w
  have hmi := fun w => made_ints8 n hn w
  have hml := fun w => made_links8 n hn w
  simp only [arr_rep] at hmb hmi
  have hlt : sb < w.heap.size := (Array.getElem?_eq_some_iff.1 hbx).1
  have HPU := hide (sq_put hbg.1 (Nat.le_trans hB hbg.2.size) p 0 ⟨by omega, by omega⟩ ⟨by omega, by omega⟩)
  rw [show Qu.putM [] (p : Int) 0 = ([((p : Int), (0 : Int))], true) from rfl] at HPU
  have HEU := hide hEU
  have HN := hide hn
  have HE := hide hE
  have HP := hide hp
  have HL := hide (And.intro hl hlB)
  have HB := hide hB
  have h1 : (p : Int) < (n : Int) := by omega
  clear hbx hbg hEU hE hl hlB hB
  go_enter Tryz.func68, Tryz.ntmps68
  go_wp2_with (first | (go_at_call 30; refine (new_exact _).mono ?_; rintro e w1 ⟨rfl, hw⟩; rw [hw]; clear hw) | (go_at_call 32; refine HPU.out.mono ?_; rintro e w2 ⟨rfl, S2, h1, h2, h3⟩; have H2 := hide (And.intro h1 h2); clear h1 h2 h3))
  have HS : Hid (ClIn9 B w sb (w.heap.size + 1 + 1 + 1) w.heap.size (w.heap.size + 1) (w.heap.size + 1 + 1) n (.func (.func 18) #[.pointer (some ⟨b.l, 0, none⟩)] #[]) (.func (.func 66) #[] #[]) (.func (.func 67) #[] #[]) p true E (fun _ => none) (fun _ => (0, 0, 0, 0)) [((p : Int), (0 : Int))] S2 w2) := ⟨HBG.out.2.trans (H2.out.2.below (Nat.le_trans HB.out HBG.out.2.size) HBG.out.1.ge), H2.out.1, sd_zero _ _ HP.out⟩
  clear H2 HPU HBG k4 z4 k5 z5 k6 z6 c3 hmb hmi hml h1
  generalize w.heap.size + 1 + 1 + 1 = q at HS ⊢
  generalize w.heap.size + 1 + 1 = gy at HS ⊢
  generalize w.heap.size + 1 = gl at HS ⊢
  generalize hgc : w.heap.size = gc at HS ⊢
  have HGC := hide hgc
  clear hgc
  go_loopg [] n (fun k wr => ∃ D A X S, k + cnt D n = n ∧ Hid (ClIn9 B w sb q gc gl gy n (.func (.func 18) #[.pointer (some ⟨b.l, 0, none⟩)] #[]) (.func (.func 66) #[] #[]) (.func (.func 67) #[] #[]) p true E D A X S wr))
  case atStart => exact ⟨_, _, _, _, by
    have : ∀ m, cnt (fun _ => none) m = 0 := fun m => by induction m with | zero => rfl | succ m ih => rw [cnt, ih]; rfl
    rw [this]; rfl, HS.out⟩
  case round =>
    clear HS
    obtain ⟨D, A, X, S, hk, HR⟩ := hrel
    have HBw : Hid (B ≤ wr.heap.size) := Nat.le_trans HB.out HR.out.below.size
    by_cases hX : X = []
    · subst hX
      have HEM := hide (sq_empty HR.out.sq)
      go_wp2_with (go_at_call 63; refine HEM.out.mono ?_; rintro e w' ⟨rfl, hw⟩; rw [hw]; clear hw)
      refine bodyPost_ret (results_none rfl _ _ _) rfl ?_
      exact ⟨rfl, gc, gl, gy, D, A, HR.out.sq.sd, sd_end HR.out.sd HE.out HP.out, HR.out.below⟩
    · obtain ⟨y, hy⟩ := Qu.least_ex hX
      have HT := hide (sq_take HR.out.sq HBw.out y hy)
      obtain ⟨v, hv, hy1, hDv, hmid, hcnt⟩ := sd_take HR.out.sd hy
      obtain ⟨y1, y2⟩ := y
      simp only at hy1 hmid hcnt HT
      subst hy1
      have HM := hide hmid
      have HV := hide hv
      clear hmid hy
      go_wp2_with (first
        | (go_at_call 63; refine HT.out.mono ?_; rintro e w2 ⟨rfl, ⟨S2, h1⟩, h2⟩; have H2 := hide (And.intro h1 h2); have hl2 := HL.out.1.of_blocks fun k hk => (HR.out.below.trans h2).block k (HL.out.2 k hk); have HL2 := hide hl2; clear h1 h2 hl2)
        | (go_at_call 90; refine (close_up HEU.out HN.out HE.out HP.out HV.out (Nat.le_trans HBw.out H2.out.2.size) HL2.out HL.out.2 H2.out.1 HM.out).mono ?_; rintro e w4 ⟨rfl, A4, X4, S4, h1, h2, h3⟩; have H4 : Hid (ClIn9 B w sb q gc gl gy n (.func (.func 18) #[.pointer (some ⟨b.l, 0, none⟩)] #[]) (.func (.func 66) #[] #[]) (.func (.func 67) #[] #[]) p true E (upd D v (some y2)) A4 X4 S4 w4) := ⟨(HR.out.below.trans H2.out.2).trans h3, h1, md_end h2⟩; clear h1 h2 h3))
      go_roundg (gk - 1)
      case measure => have := cnt_le (upd D v (some y2)) n; omega
      case rel => exact ⟨_, _, _, _, by have := cnt_le (upd D v (some y2)) n; omega, H4.out⟩

theorem wards_up {n p : Nat} {w : World} {b : LfB} {rv : Nat → Int} {W : Nat → Nat → Option Int} {K : Mx} {rk : Nat → Nat} {Q : Nat → Option Int} (hl : LfA n w b rv (upM K rk) (dnM K rk)) (hn : n ≤ 32) (hBd : Bd n W n K rk Q rv) (hp : p < n) :
    Calls Tryz.prog 43 #[.pointer (some ⟨b.l, 0, none⟩), .int .i64 p] w fun e w' => ∃ sb gc gl gy D A, e = .returned (.pointer (some ⟨sb, 0, none⟩)) ∧ SdAt w.heap.size w' sb gc gl gy n (.func (.func 18) #[.pointer (some ⟨b.l, 0, none⟩)] #[]) (.func (.func 66) #[] #[]) (.func (.func 67) #[] #[]) p D A ∧ Side n true (upM K rk) p D A ∧ Below w.heap.size w w' := by
  have f : Below w.heap.size w (w.alloc (.cells #[.func (.func 18) #[.pointer (some ⟨b.l, 0, none⟩)] #[], .func (.func 66) #[] #[], .func (.func 67) #[] #[], .int .i64 p, .slice none 0 0, .slice none 0 0, .slice none 0 0] 90)) := (Below.refl _ _).alloc (Nat.le_refl _) _
  have HF := hide f
  have HPL := hide (lplaces_any (hl.later f) hn)
  have HCL := hide (climb_up8 (B := w.heap.size) (sb := w.heap.size) (E := (upM K rk)) rfl hn (eok_up hBd hn) hp f.size (hl.later f) (fun k hk => hl.lt hk) (heap_alloc_new _ _) (Nat.le_refl _))
  have hmf : ∀ (fn : Fn) (first cap : Array Value) (w : World), (Instr.makeFunc fn first cap).run Tryz.prog w = .ok (.func fn first cap) w := fun _ _ _ _ => rfl
  clear hl hBd f
  go_enter Tryz.func43, Tryz.ntmps43
  go_wp2_with (first | (go_at_call 31; refine HPL.out.mono ?_; rintro e w1 ⟨rfl, hw⟩; rw [hw]; clear hw) | (go_at_call 68; refine HCL.out.mono ?_; rintro e w2 ⟨rfl, gc, gl, gy, D, A, h1, h2, h3⟩; have H2 := hide (And.intro h1 (And.intro h2 h3)); clear h1 h2 h3))
  go_ret
  exact ⟨_, gc, gl, gy, D, A, rfl, H2.out.1, H2.out.2.1, HF.out.trans H2.out.2.2⟩
theorem wards_up_out {n : Nat} {p : Int} {w : World} {b : LfB} {rv : Nat → Int} {U V : Mx} (hl : LfA n w b rv U V) (hn : n ≤ 32) (hp : ¬ (0 ≤ p ∧ p < n)) :
    Calls Tryz.prog 43 #[.pointer (some ⟨b.l, 0, none⟩), .int .i64 p] w fun e w' => ∃ sb gc gl gy A, e = .returned (.pointer (some ⟨sb, 0, none⟩)) ∧ SdAt w.heap.size w' sb gc gl gy n (.func (.func 18) #[.pointer (some ⟨b.l, 0, none⟩)] #[]) (.func (.func 66) #[] #[]) (.func (.func 67) #[] #[]) p (fun _ => none) A ∧ Below w.heap.size w w' := by
  have f : Below w.heap.size w (w.alloc (.cells #[.func (.func 18) #[.pointer (some ⟨b.l, 0, none⟩)] #[], .func (.func 66) #[] #[], .func (.func 67) #[] #[], .int .i64 p, .slice none 0 0, .slice none 0 0, .slice none 0 0] 90)) := (Below.refl _ _).alloc (Nat.le_refl _) _
  have HF := hide f
  have HPL := hide (lplaces_any (hl.later f) hn)
  have HCL := hide (climb_out (B := w.heap.size) hn hp (heap_alloc_new w (.cells #[.func (.func 18) #[.pointer (some ⟨b.l, 0, none⟩)] #[], .func (.func 66) #[] #[], .func (.func 67) #[] #[], .int .i64 p, .slice none 0 0, .slice none 0 0, .slice none 0 0] 90)) (Nat.le_refl _))
  have hmf : ∀ (fn : Fn) (first cap : Array Value) (w : World), (Instr.makeFunc fn first cap).run Tryz.prog w = .ok (.func fn first cap) w := fun _ _ _ _ => rfl
  clear hl f hp
  go_enter Tryz.func43, Tryz.ntmps43
  go_wp2_with (first | (go_at_call 31; refine HPL.out.mono ?_; rintro e w1 ⟨rfl, hw⟩; rw [hw]; clear hw) | (go_at_call 68; refine HCL.out.mono ?_; rintro e w2 ⟨rfl, gc, gl, gy, A, h1, h2⟩; have H2 := hide (And.intro h1 h2); clear h1 h2))
  go_ret
  exact ⟨_, gc, gl, gy, A, rfl, H2.out.1, HF.out.trans H2.out.2⟩
theorem wards_up_nil (p : Int) (w : World) :
    Calls Tryz.prog 43 #[.pointer none, .int .i64 p] w fun e w' => ∃ sb gc gl gy A, e = .returned (.pointer (some ⟨sb, 0, none⟩)) ∧ SdAt w.heap.size w' sb gc gl gy 0 (.func (.func 18) #[.pointer none] #[]) (.func (.func 66) #[] #[]) (.func (.func 67) #[] #[]) p (fun _ => none) A ∧ Below w.heap.size w w' := by
  have f : Below w.heap.size w (w.alloc (.cells #[.func (.func 18) #[.pointer none] #[], .func (.func 66) #[] #[], .func (.func 67) #[] #[], .int .i64 p, .slice none 0 0, .slice none 0 0, .slice none 0 0] 90)) := (Below.refl _ _).alloc (Nat.le_refl _) _
  have HF := hide f
  have HPL := hide (lplaces_nil (w.alloc (.cells #[.func (.func 18) #[.pointer none] #[], .func (.func 66) #[] #[], .func (.func 67) #[] #[], .int .i64 p, .slice none 0 0, .slice none 0 0, .slice none 0 0] 90)))
  have HCL := hide (climb_out (B := w.heap.size) (n := 0) (by omega) (by omega) (heap_alloc_new w (.cells #[.func (.func 18) #[.pointer none] #[], .func (.func 66) #[] #[], .func (.func 67) #[] #[], .int .i64 p, .slice none 0 0, .slice none 0 0, .slice none 0 0] 90)) (Nat.le_refl _))
  have hmf : ∀ (fn : Fn) (first cap : Array Value) (w : World), (Instr.makeFunc fn first cap).run Tryz.prog w = .ok (.func fn first cap) w := fun _ _ _ _ => rfl
  clear f
  go_enter Tryz.func43, Tryz.ntmps43
  go_wp2_with (first | (go_at_call 31; refine HPL.out.mono ?_; rintro e w1 ⟨rfl, hw⟩; rw [hw]; clear hw) | (go_at_call 68; refine HCL.out.mono ?_; rintro e w2 ⟨rfl, gc, gl, gy, A, h1, h2⟩; have H2 := hide (And.intro h1 h2); clear h1 h2))
  go_ret
  exact ⟨_, gc, gl, gy, A, rfl, H2.out.1, HF.out.trans H2.out.2⟩

theorem climb_dn8 {B sb n p : Nat} {w : World} {b : LfB} {rv : Nat → Int} {U V : Mx} {E : Mx} {φ : Nat → Int} {ρ : Nat → Nat} (hEU : E = fun a c => V c a) (hn : n ≤ 32) (hE : EOk8 n E φ ρ) (hp : p < n) (hB : B ≤ w.heap.size) (hl : LfA n w b rv U V) (hlB : ∀ k, b.S n k → k < B)
    (hbx : w.heap[sb]? = some (.cells #[.func (.func 19) #[.pointer (some ⟨b.l, 0, none⟩)] #[], .func (.func 67) #[] #[], .func (.func 66) #[] #[], .int .i64 p, .slice none 0 0, .slice none 0 0, .slice none 0 0] 90 (0, 0))) (hsB : B ≤ sb) :
    Calls Tryz.prog 68 #[.pointer (some ⟨sb, 0, none⟩), .int .i64 n] w fun e w' => e = .returned (.tuple #[]) ∧ ∃ gc gl gy D A, SdAt B w' sb gc gl gy n (.func (.func 19) #[.pointer (some ⟨b.l, 0, none⟩)] #[]) (.func (.func 67) #[] #[]) (.func (.func 66) #[] #[]) p D A ∧ Side n false E p D A ∧ Below B w w' := by
  obtain ⟨hbg, ⟨k4, z4⟩, ⟨k5, z5⟩, ⟨k6, z6⟩⟩ := sd_begun (n := n) hbx hsB
  have HBG := hide hbg
  have c3 := hbg.1.sd.c.2.2.2.1
  have hmb := fun w => made_bools n hn w
  have hmi := fun w => made_ints8 n hn w
  have hml := fun w => made_links8 n hn w
  simp only [arr_rep] at hmb hmi
  have hlt : sb < w.heap.size := (Array.getElem?_eq_some_iff.1 hbx).1
  have HPU := hide (sq_put hbg.1 (Nat.le_trans hB hbg.2.size) p 0 ⟨by omega, by omega⟩ ⟨by omega, by omega⟩)
  rw [show Qu.putM [] (p : Int) 0 = ([((p : Int), (0 : Int))], true) from rfl] at HPU
  have HEU := hide hEU
  have HN := hide hn
  have HE := hide hE
  have HP := hide hp
  have HL := hide (And.intro hl hlB)
  have HB := hide hB
  have h1 : (p : Int) < (n : Int) := by omega
  clear hbx hbg hEU hE hl hlB hB
  go_enter Tryz.func68, Tryz.ntmps68
  go_wp2_with (first | (go_at_call 30; refine (new_exact _).mono ?_; rintro e w1 ⟨rfl, hw⟩; rw [hw]; clear hw) | (go_at_call 32; refine HPU.out.mono ?_; rintro e w2 ⟨rfl, S2, h1, h2, h3⟩; have H2 := hide (And.intro h1 h2); clear h1 h2 h3))
  have HS : Hid (ClIn9 B w sb (w.heap.size + 1 + 1 + 1) w.heap.size (w.heap.size + 1) (w.heap.size + 1 + 1) n (.func (.func 19) #[.pointer (some ⟨b.l, 0, none⟩)] #[]) (.func (.func 67) #[] #[]) (.func (.func 66) #[] #[]) p false E (fun _ => none) (fun _ => (0, 0, 0, 0)) [((p : Int), (0 : Int))] S2 w2) := ⟨HBG.out.2.trans (H2.out.2.below (Nat.le_trans HB.out HBG.out.2.size) HBG.out.1.ge), H2.out.1, sd_zero _ _ HP.out⟩
  clear H2 HPU HBG k4 z4 k5 z5 k6 z6 c3 hmb hmi hml h1
  generalize w.heap.size + 1 + 1 + 1 = q at HS ⊢
  generalize w.heap.size + 1 + 1 = gy at HS ⊢
  generalize w.heap.size + 1 = gl at HS ⊢
  generalize hgc : w.heap.size = gc at HS ⊢
  have HGC := hide hgc
  clear hgc
  go_loopg [] n (fun k wr => ∃ D A X S, k + cnt D n = n ∧ Hid (ClIn9 B w sb q gc gl gy n (.func (.func 19) #[.pointer (some ⟨b.l, 0, none⟩)] #[]) (.func (.func 67) #[] #[]) (.func (.func 66) #[] #[]) p false E D A X S wr))
  case atStart => exact ⟨_, _, _, _, by
    have : ∀ m, cnt (fun _ => none) m = 0 := fun m => by induction m with | zero => rfl | succ m ih => rw [cnt, ih]; rfl
    rw [this]; rfl, HS.out⟩
  case round =>
    clear HS
    obtain ⟨D, A, X, S, hk, HR⟩ := hrel
    have HBw : Hid (B ≤ wr.heap.size) := Nat.le_trans HB.out HR.out.below.size
    by_cases hX : X = []
    · subst hX
      have HEM := hide (sq_empty HR.out.sq)
      go_wp2_with (go_at_call 63; refine HEM.out.mono ?_; rintro e w' ⟨rfl, hw⟩; rw [hw]; clear hw)
      refine bodyPost_ret (results_none rfl _ _ _) rfl ?_
      exact ⟨rfl, gc, gl, gy, D, A, HR.out.sq.sd, sd_end HR.out.sd HE.out HP.out, HR.out.below⟩
    · obtain ⟨y, hy⟩ := Qu.least_ex hX
      have HT := hide (sq_take HR.out.sq HBw.out y hy)
      obtain ⟨v, hv, hy1, hDv, hmid, hcnt⟩ := sd_take HR.out.sd hy
      obtain ⟨y1, y2⟩ := y
      simp only at hy1 hmid hcnt HT
      subst hy1
      have HM := hide hmid
      have HV := hide hv
      clear hmid hy
      go_wp2_with (first
        | (go_at_call 63; refine HT.out.mono ?_; rintro e w2 ⟨rfl, ⟨S2, h1⟩, h2⟩; have H2 := hide (And.intro h1 h2); have hl2 := HL.out.1.of_blocks fun k hk => (HR.out.below.trans h2).block k (HL.out.2 k hk); have HL2 := hide hl2; clear h1 h2 hl2)
        | (go_at_call 90; refine (close_dn HEU.out HN.out HE.out HP.out HV.out (Nat.le_trans HBw.out H2.out.2.size) HL2.out HL.out.2 H2.out.1 HM.out).mono ?_; rintro e w4 ⟨rfl, A4, X4, S4, h1, h2, h3⟩; have H4 : Hid (ClIn9 B w sb q gc gl gy n (.func (.func 19) #[.pointer (some ⟨b.l, 0, none⟩)] #[]) (.func (.func 67) #[] #[]) (.func (.func 66) #[] #[]) p false E (upd D v (some y2)) A4 X4 S4 w4) := ⟨(HR.out.below.trans H2.out.2).trans h3, h1, md_end h2⟩; clear h1 h2 h3))
      go_roundg (gk - 1)
      case measure => have := cnt_le (upd D v (some y2)) n; omega
      case rel => exact ⟨_, _, _, _, by have := cnt_le (upd D v (some y2)) n; omega, H4.out⟩

theorem wards_dn {n p : Nat} {w : World} {b : LfB} {rv : Nat → Int} {W : Nat → Nat → Option Int} {K : Mx} {rk : Nat → Nat} {Q : Nat → Option Int} (hl : LfA n w b rv (upM K rk) (dnM K rk)) (hn : n ≤ 32) (hBd : Bd n W n K rk Q rv) (hp : p < n) :
    Calls Tryz.prog 44 #[.pointer (some ⟨b.l, 0, none⟩), .int .i64 p] w fun e w' => ∃ sb gc gl gy D A, e = .returned (.pointer (some ⟨sb, 0, none⟩)) ∧ SdAt w.heap.size w' sb gc gl gy n (.func (.func 19) #[.pointer (some ⟨b.l, 0, none⟩)] #[]) (.func (.func 67) #[] #[]) (.func (.func 66) #[] #[]) p D A ∧ Side n false (dnE K rk) p D A ∧ Below w.heap.size w w' := by
  have f : Below w.heap.size w (w.alloc (.cells #[.func (.func 19) #[.pointer (some ⟨b.l, 0, none⟩)] #[], .func (.func 67) #[] #[], .func (.func 66) #[] #[], .int .i64 p, .slice none 0 0, .slice none 0 0, .slice none 0 0] 90)) := (Below.refl _ _).alloc (Nat.le_refl _) _
  have HF := hide f
  have HPL := hide (lplaces_any (hl.later f) hn)
  have HCL := hide (climb_dn8 (B := w.heap.size) (sb := w.heap.size) (E := (dnE K rk)) rfl hn (eok_dn hBd hn) hp f.size (hl.later f) (fun k hk => hl.lt hk) (heap_alloc_new _ _) (Nat.le_refl _))
  have hmf : ∀ (fn : Fn) (first cap : Array Value) (w : World), (Instr.makeFunc fn first cap).run Tryz.prog w = .ok (.func fn first cap) w := fun _ _ _ _ => rfl
  clear hl hBd f
  go_enter Tryz.func44, Tryz.ntmps44
  go_wp2_with (first | (go_at_call 31; refine HPL.out.mono ?_; rintro e w1 ⟨rfl, hw⟩; rw [hw]; clear hw) | (go_at_call 68; refine HCL.out.mono ?_; rintro e w2 ⟨rfl, gc, gl, gy, D, A, h1, h2, h3⟩; have H2 := hide (And.intro h1 (And.intro h2 h3)); clear h1 h2 h3))
  go_ret
  exact ⟨_, gc, gl, gy, D, A, rfl, H2.out.1, H2.out.2.1, HF.out.trans H2.out.2.2⟩
theorem wards_dn_out {n : Nat} {p : Int} {w : World} {b : LfB} {rv : Nat → Int} {U V : Mx} (hl : LfA n w b rv U V) (hn : n ≤ 32) (hp : ¬ (0 ≤ p ∧ p < n)) :
    Calls Tryz.prog 44 #[.pointer (some ⟨b.l, 0, none⟩), .int .i64 p] w fun e w' => ∃ sb gc gl gy A, e = .returned (.pointer (some ⟨sb, 0, none⟩)) ∧ SdAt w.heap.size w' sb gc gl gy n (.func (.func 19) #[.pointer (some ⟨b.l, 0, none⟩)] #[]) (.func (.func 67) #[] #[]) (.func (.func 66) #[] #[]) p (fun _ => none) A ∧ Below w.heap.size w w' := by
  have f : Below w.heap.size w (w.alloc (.cells #[.func (.func 19) #[.pointer (some ⟨b.l, 0, none⟩)] #[], .func (.func 67) #[] #[], .func (.func 66) #[] #[], .int .i64 p, .slice none 0 0, .slice none 0 0, .slice none 0 0] 90)) := (Below.refl _ _).alloc (Nat.le_refl _) _
  have HF := hide f
  have HPL := hide (lplaces_any (hl.later f) hn)
  have HCL := hide (climb_out (B := w.heap.size) hn hp (heap_alloc_new w (.cells #[.func (.func 19) #[.pointer (some ⟨b.l, 0, none⟩)] #[], .func (.func 67) #[] #[], .func (.func 66) #[] #[], .int .i64 p, .slice none 0 0, .slice none 0 0, .slice none 0 0] 90)) (Nat.le_refl _))
  have hmf : ∀ (fn : Fn) (first cap : Array Value) (w : World), (Instr.makeFunc fn first cap).run Tryz.prog w = .ok (.func fn first cap) w := fun _ _ _ _ => rfl
  clear hl f hp
  go_enter Tryz.func44, Tryz.ntmps44
  go_wp2_with (first | (go_at_call 31; refine HPL.out.mono ?_; rintro e w1 ⟨rfl, hw⟩; rw [hw]; clear hw) | (go_at_call 68; refine HCL.out.mono ?_; rintro e w2 ⟨rfl, gc, gl, gy, A, h1, h2⟩; have H2 := hide (And.intro h1 h2); clear h1 h2))
  go_ret
  exact ⟨_, gc, gl, gy, A, rfl, H2.out.1, HF.out.trans H2.out.2⟩
theorem wards_dn_nil (p : Int) (w : World) :
    Calls Tryz.prog 44 #[.pointer none, .int .i64 p] w fun e w' => ∃ sb gc gl gy A, e = .returned (.pointer (some ⟨sb, 0, none⟩)) ∧ SdAt w.heap.size w' sb gc gl gy 0 (.func (.func 19) #[.pointer none] #[]) (.func (.func 67) #[] #[]) (.func (.func 66) #[] #[]) p (fun _ => none) A ∧ Below w.heap.size w w' := by
  have f : Below w.heap.size w (w.alloc (.cells #[.func (.func 19) #[.pointer none] #[], .func (.func 67) #[] #[], .func (.func 66) #[] #[], .int .i64 p, .slice none 0 0, .slice none 0 0, .slice none 0 0] 90)) := (Below.refl _ _).alloc (Nat.le_refl _) _
  have HF := hide f
  have HPL := hide (lplaces_nil (w.alloc (.cells #[.func (.func 19) #[.pointer none] #[], .func (.func 67) #[] #[], .func (.func 66) #[] #[], .int .i64 p, .slice none 0 0, .slice none 0 0, .slice none 0 0] 90)))
  have HCL := hide (climb_out (B := w.heap.size) (n := 0) (by omega) (by omega) (heap_alloc_new w (.cells #[.func (.func 19) #[.pointer none] #[], .func (.func 67) #[] #[], .func (.func 66) #[] #[], .int .i64 p, .slice none 0 0, .slice none 0 0, .slice none 0 0] 90)) (Nat.le_refl _))
  have hmf : ∀ (fn : Fn) (first cap : Array Value) (w : World), (Instr.makeFunc fn first cap).run Tryz.prog w = .ok (.func fn first cap) w := fun _ _ _ _ => rfl
  clear f
  go_enter Tryz.func44, Tryz.ntmps44
  go_wp2_with (first | (go_at_call 31; refine HPL.out.mono ?_; rintro e w1 ⟨rfl, hw⟩; rw [hw]; clear hw) | (go_at_call 68; refine HCL.out.mono ?_; rintro e w2 ⟨rfl, gc, gl, gy, A, h1, h2⟩; have H2 := hide (And.intro h1 h2); clear h1 h2))
  go_ret
  exact ⟨_, gc, gl, gy, A, rfl, H2.out.1, HF.out.trans H2.out.2⟩
end Go.Proofs.YtojkdmkeankcgaaGreat
