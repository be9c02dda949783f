/-
  What the call of short's begin does.
-/
import Derived.Test.YtojkdmkeankcgaaSearch
import Derived.Deep.CutRange
namespace Go.Proofs.Ytojkdmkeankcgaa
open Go.RowKit Go.Sort

set_option maxRecDepth 100000 in
set_option maxHeartbeats 25600000 in
theorem begin_any (n p : Nat) (hn : 1 ≤ n ∧ n ≤ 32) (hp : p < n) (w : World) :
    Calls Try.prog 52 #[.int .i64 n, .int .i64 p] w fun e w' => ∃ sb q gc gl ga S, e = .returned (.pointer (some ⟨sb, 0, none⟩)) ∧ SrAt w.heap.size w' sb q gc gl ga n (fun _ => none) (fun _ => -1) [((p : Int), (0 : Int))] S ∧ Below w.heap.size w w' := by
  have HN := hide hn
  have HP := hide hp
  have hmb := fun w => made_bools n hn.2 w
  go_enter Try.func52, Try.ntmps52
  go_upto_region 1 with fail
  go_cut [5] from 6 to 16 (fun v5 wx => ∃ sb q gc gl ga, v5 = .pointer (some ⟨sb, 0, none⟩) ∧ Hid (BegIn w n wx sb q gc gl ga))
  case first =>
    go_region_with (first | (go_at_call 35; refine (new_exact _).mono ?_; rintro e w1 ⟨rfl, rfl⟩) | (go_at_call 67; refine (repeat_any (-1) n _ HN.out _ (by go_simp)).mono ?_; rintro e w1 ⟨rfl, q, rfl⟩))
    all_goals
      go_wp2_with fail
      go_meet
      case rel =>
        refine ⟨_, _, _, _, _, rfl, beg_mk ?_ ?_ ?_ ?_ ?_ ?_ ?_ ?_⟩
        case refine_2 => repeat first | exact Below.refl _ _ | refine below_drewN2 ?_ _ | refine below_alloc2 ?_ _
        case refine_7 => omega
        case refine_8 => omega
        case refine_1 => simp only [size_alloc, size_drewN]
        all_goals repeat first | (refine at_new ?_; simp only [size_alloc, size_drewN]; done) | refine at_drew ?_ | (refine at_old ?_ ?_; (simp only [size_alloc, size_drewN]; omega))
  case rest =>
    obtain ⟨sb, q, gc, gl, ga, rfl, HB⟩ := hcut
    have hS := sr_start HB.out
    have c0 := hS.c.1
    have HQ := hide (sr_put hS HB.out.below.size p 0 ⟨by omega, by omega⟩ ⟨by omega, by omega⟩)
    rw [show Qu.putM [] (p : Int) 0 = ([((p : Int), (0 : Int))], true) from rfl] at HQ
    have HBB := hide HB.out.below
    clear hS HB
    go_wp2_with (go_at_call 36; refine HQ.out.mono ?_; rintro e w2 ⟨rfl, h1, h2⟩; have H2 := hide (And.intro h1 h2); clear h1 h2)
    go_ret
    obtain ⟨⟨S, h1⟩, h2⟩ := H2.out
    exact ⟨sb, q, gc, gl, ga, S, rfl, h1, HBB.out.trans h2⟩
end Go.Proofs.Ytojkdmkeankcgaa
