/-
  What the law ShowPrints does.
-/
import Derived.Test.YtpffhckimilppaaDoorLen
import Derived.Test.YtpffhckimilppaaDoorRPrint
import Derived.Test.YtpffhckimilppaaDoorCopied
import Derived.Test.YtpffhckimilppaaDoorAwakeS
namespace Go.Proofs.YtpffhckimilppaaDoor
open Go.RowKit
set_option maxRecDepth 100000
/-- What is known of a value of a tree of small bulk. -/
structure InB (x : VI) : Prop where
  bulk : vb x ≤ 1048576
  num : -9223372036854775808 ≤ x.num ∧ x.num ≤ 9223372036854775807
theorem sum_mem {ns : List (List UInt8)} {s : List UInt8} (h : s ∈ ns) : s.length ≤ (ns.map fun s => s.length + 1).sum := by
  induction ns with
  | nil => cases h
  | cons y r ih =>
    rw [List.map_cons, List.sum_cons]
    rcases List.mem_cons.1 h with rfl | h
    · omega
    · have := ih h; omega
theorem sum_len (ns : List (List UInt8)) : ns.length ≤ (ns.map fun s => s.length + 1).sum := by
  induction ns with
  | nil => simp
  | cons y r ih => rw [List.map_cons, List.sum_cons, List.length_cons]; omega
section
variable {T : List VI}
theorem smlB (hi : ∀ x ∈ T, InB x) : Sml T := ⟨fun x hx => (hi x hx).num, fun x hx => by have := (hi x hx).bulk; unfold vb at this; omega, fun x hx n hn => by have := (hi x hx).bulk; unfold vb at this; have := sum_mem hn; omega⟩
theorem szKB (hi : ∀ x ∈ T, InB x) : ∀ x ∈ T, SzK x := fun x hx => ⟨by have := (hi x hx).bulk; unfold vb at this; have := sum_len x.names; omega, by have := (hi x hx).bulk; unfold vb at this; omega⟩
theorem kidB (hi : ∀ x ∈ T, InB x) : ∀ x ∈ T, x.kids.length ≤ 17592186044416 := fun x hx => by have := (hi x hx).bulk; unfold vb at this; omega
theorem lenB (hi : ∀ x ∈ T, InB x) : (textM T).length ≤ 140737487000000 := text_le (smlB hi) fun x hx => (hi x hx).bulk
end
set_option maxHeartbeats 1600000 in
theorem prints_any {T : List VI} {v : Value} {w : World} (hT : TreeAt w v T) (hi : ∀ x ∈ T, InB x) (hU : TabU w) (hP : Tab w) :
    Calls Tryd.prog 4 #[v] w fun e w' => e = .returned (.bool true) ∧ Below w.heap.size w w' := by
  have hlm : T.length ≤ 9223372036854775807 := by obtain ⟨_, _, _, h, _⟩ := hT; exact h
  obtain ⟨a, c, rfl⟩ := tree_len hT
  have HTR := hide hT
  have HI := hide hi
  have HAW := hide (awake_any w hU hP)
  have HPR := hide (fun (w' : World) (v' : Value) (h : Below w.heap.size w w') (ht : TreeAt w' v' T) => print_any ht (smlB hi) (hU.later h) (hP.later h) (lenB hi))
  have HRP := hide (fun (w' : World) (h : Below w.heap.size w w') => rprint_any (hT.later h) (smlB hi) (kidB hi) (lenB hi))
  clear hT hi hU hP
  by_cases h1 : 500 < T.length
  · have z1 : (500 : Int) < (T.length : Int) := by omega
    go_enter Tryd.func4, Tryd.ntmps4
    go_wp2_with (first
      | (go_at_call 10; refine HAW.out.mono ?_; rintro e w1 ⟨rfl, k2⟩; have H1 := hide k2; clear k2))
    go_ret
    exact ⟨rfl, H1.out⟩
  · have z1 : ¬ (500 : Int) < (T.length : Int) := by omega
    have HCP := hide (fun (w' : World) (h : Below w.heap.size w w') => copied_any (HTR.out.later h) (by omega) (szKB HI.out))
    obtain ⟨ce, hce⟩ : ∃ ce, checkE T = ce := ⟨_, rfl⟩
    obtain ⟨L, hL⟩ : ∃ L, textM T = L := ⟨_, rfl⟩
    rw [hce, hL] at HPR HRP
    have y1 : (ce == ce) = true := by simp
    clear hce hL
    go_enter Tryd.func4, Tryd.ntmps4
    go_wp2_with (first
      | (go_at_call 10; refine HAW.out.mono ?_; rintro e w1 ⟨rfl, k2⟩; have H1 := hide k2; clear k2)
      | (go_at_call 12; refine (HCP.out _ H1.out).mono ?_; rintro e w2 ⟨v2, rfl, t2, k2⟩; have H2 := hide (below_on H1.out k2); have HT2 := hide t2; clear t2 k2)
      | (go_at_call 14; refine (HPR.out _ _ H2.out HT2.out).mono ?_; rintro e w3 ⟨v3, rfl, r3, k2⟩; have H3 := hide (below_on H2.out k2); have HR3 := hide r3; clear r3 k2)
      | (go_at_call 15; refine (HRP.out _ H3.out).mono ?_; rintro e w4 ⟨v4, rfl, r4, k2⟩; have H4 := hide (below_on H3.out k2); have g3 := conv_own (HR3.out.later (Nat.le_refl _) k2); have g4 := conv_own r4; clear r4 k2))
    go_ret
    exact ⟨rfl, H4.out⟩
end Go.Proofs.YtpffhckimilppaaDoor
