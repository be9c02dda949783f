/-
  What the law ShowChecks does.
-/
import Derived.Test.YtpffhckimilppaaDoorFrame3
import Derived.Test.YtpffhckimilppaaDoorCopied
import Derived.Test.YtpffhckimilppaaDoorRChk
namespace Go.Proofs.YtpffhckimilppaaDoor
open Go.RowKit
set_option maxRecDepth 100000
theorem szV_of {x : VI} (h : InV x) : SzV x := ⟨by have := h.text; unfold reachBytes at this; omega, fun s hs => by have := h.texts s hs; unfold reachBytes at this; omega⟩
theorem szK_of {x : VI} (h : InV x) : SzK x := ⟨by have := h.names; unfold reachBytes at this; omega, by have := h.kids; unfold reachBytes at this; omega⟩
set_option maxHeartbeats 1600000 in
theorem checks_any {T : List VI} {v : Value} {w : World} (hT : TreeAt w v T) (hi : ∀ x ∈ T, InV x) (hU : TabU w) (hP : Tab w) :
    Calls Tryd.prog 3 #[v] w fun e w' => e = .returned (.bool true) ∧ Below w.heap.size w w' := by
  have hlm : T.length ≤ 9223372036854775807 := by obtain ⟨_, _, _, h, _⟩ := hT; exact h
  obtain ⟨a, c, rfl⟩ := tree_len hT
  have HTR := hide hT
  have HI := hide hi
  have HU := hide hU
  have HB0 := hide (Below.refl w.heap.size w)
  have HAW := hide (awake_any w hU hP)
  clear hT hi hU hP
  by_cases h1 : 9000 < T.length
  · have z1 : (9000 : Int) < (T.length : Int) := by omega
    go_enter Tryd.func3, Tryd.ntmps3
    go_wp2_with (first
      | (go_at_call 10; refine HAW.out.mono ?_; rintro e w1 ⟨rfl, k2⟩; have H1 := hide k2; clear k2))
    go_ret
    exact ⟨rfl, H1.out⟩
  · have z1 : ¬ (9000 : Int) < (T.length : Int) := by omega
    have HCP := hide (fun (w' : World) (h : Below w.heap.size w w') => copied_any (HTR.out.later h) (by omega) (fun x hx => szK_of (HI.out x hx)))
    have HRC := hide (fun (w' : World) (h : Below w.heap.size w w') => rcheck_any (HTR.out.later h) (fun x hx => szV_of (HI.out x hx)) (fun x hx => by have := (HI.out x hx).kids; unfold reachBytes at this; omega))
    have HCK := hide (fun (w' : World) (v' : Value) (h : Below w.heap.size w w') (ht : TreeAt w' v' T) => check_any ht (fun x hx => szV_of (HI.out x hx)) (HU.out.later h))
    obtain ⟨ce, hce⟩ : ∃ ce, checkE T = ce := ⟨_, rfl⟩
    rw [hce] at HRC HCK
    have y1 : (ce == ce) = true := by simp
    clear hce
    go_enter Tryd.func3, Tryd.ntmps3
    go_wp2_with (first
      | (go_at_call 10; refine HAW.out.mono ?_; rintro e w1 ⟨rfl, k2⟩; have H1 := hide k2; clear k2)
      | (go_at_call 12; refine (HCP.out _ H1.out).mono ?_; rintro e w2 ⟨v2, rfl, t2, k2⟩; have H2 := hide (below_on H1.out k2); have HT2 := hide t2; clear t2 k2)
      | (go_at_call 11; refine (HCK.out _ _ H2.out HT2.out).mono ?_; rintro e w3 ⟨rfl, k2⟩; have H3 := hide (below_on H2.out k2); clear k2)
      | (go_at_call 13; refine (HRC.out _ H3.out).mono ?_; rintro e w4 ⟨rfl, k2⟩; have H4 := hide (below_on H3.out k2); clear k2))
    go_ret
    exact ⟨rfl, H4.out⟩
end Go.Proofs.YtpffhckimilppaaDoor
