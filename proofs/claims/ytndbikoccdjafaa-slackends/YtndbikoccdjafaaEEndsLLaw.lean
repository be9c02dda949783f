/-
  SlackEnds: for every input the law returns true, and each argument reads afterwards as it read before. No condition.
-/
import Derived.Test.YtndbikoccdjafaaBCArg
import Derived.Test.YtndbikoccdjafaaBCLReadsG
import Derived.Test.YtndbikoccdjafaaESkA
import Derived.Test.YtndbikoccdjafaaEEndsL
namespace Go.Proofs.Ytndbikoccdjafaa
open Go.ChangeShapes Go.WideShapes Go.ChangeAt Go.WideMaps Go.WideElems Go.RowKit
set_option maxRecDepth 100000 in
theorem lifted4 (os : Os) (started : os.Started) (H : Type) (enc : TypeId × Value → H) :
  ReturnsInHanded {} Try.checked os 4 .any (Rows.slackEndsSpec.pre6 enc Try.prog Try.f4 Rows.slackEndsRow.domain false) (Rows.slackEndsSpec.post enc Try.prog Try.f4 false true false false) := by
 refine returnsInHanded_of_change_sized (C := Try.checked) own started (by kernel_rfl) Try.func4
  (ChangeSpec.witness6 (enc := enc) (C := Try.checked) false ⟨#[],#[.agg #[.int .i64 0,.int .i64 0,.slice none 0 0,.int .i64 0,.slice none 0 0,.slice none 0 0,.slice none 0 0,.slice none 0 0],.int .i64 0,.slice none 0 0,.agg #[.int .i64 0,.int .i64 0]],[]⟩ 8 (by kernel_rfl) (by kernel_rfl) (by kernel_rfl) (by kernel_rfl)) ?_
 intro W base args ds gs before hval0 hW hcnd hsz0 _
 have hval : ∀ (j : Nat) t v,Try.f4.params[j]? = some t → args[j]? = some v → Value.okWide Try.prog W .any base t v := hval0
 have hW' := hW
 obtain ⟨p,q,hA0,hV,rfl,_,_⟩ := hW
 have hA : DataW.TrodAll enc Try.prog W 0 (fun _ => true) true Try.f4.params.toList args.toList ds p := hA0
 have hsz : (DataW.weightsEach Try.prog (Try.f4.params.toList ++ Rows.slackEndsSpec.plain.varTypes Try.prog) (ds ++ gs)).all (· ≤ reachBytes) = true := hsz0
 rw [Try.params4] at hA hval hsz
 obtain ⟨v0,v1,v2,v3,d0,d1,d2,d3,p0,p1,p2,p3,rfl,rfl,rfl,h0,h1,h2,h3⟩ := trodAll_four hA
 obtain ⟨rfl,rfl⟩ := trodVars_none hV
 obtain ⟨cs0,rfl,z0⟩ := okWide_struct Try.underlying29 (hval 0 29 v0 rfl rfl)
 obtain ⟨x1,rfl,rfl,rfl,w1⟩ := open_int Try.underlying3 (hval 1 3 v1 rfl rfl) h1
 obtain ⟨a2,n2,c2,rfl⟩ := okWide_slice Try.underlying30 (hval 2 30 v2 rfl rfl)
 obtain ⟨cs3,rfl⟩ := okWide_two (hval 3 47 v3 rfl rfl)
 have lt0 : ∀ x ∈ p0,x.block < W.heap.size := by obtain ⟨m,hm⟩ := h0;exact DataW.trod_lt m _ _ _ hm
 have lt2 : ∀ x ∈ p2,x.block < W.heap.size := by obtain ⟨m,hm⟩ := h2;exact DataW.trod_lt m _ _ _ hm
 have lt3 : ∀ x ∈ p3,x.block < W.heap.size := by obtain ⟨m,hm⟩ := h3;exact DataW.trod_lt m _ _ _ hm
 obtain ⟨P0,X0,rfl,hP0⟩ := open_prb h0 fun k hk => by
  have := List.all_eq_true.1 hsz _ (DataW.weights_mem_each (j := 0) rfl rfl k hk)
  simpa using this
 obtain ⟨L2,hL2,hn2,hc2⟩ := open_visits h2 fun k hk => by
  have := List.all_eq_true.1 hsz _ (DataW.weights_mem_each (j := 2) rfl rfl k hk)
  simpa using this
 obtain ⟨y3,z3,rfl,ra3,rb3⟩ := open_two h3
 clear hA0 hval0 hcnd hsz hsz0
 simp only [List.append_nil] at hW'
 refine (slackends_any hP0 hL2 hn2 x1 y3 z3 rb3.1).mono fun e W' ⟨he,hnx⟩ => ?_
 subst he
 exact ⟨_,rfl,_,_,_,[],_,[],hW',trodAll_mk1 (shut_bool Try.underlying4 _),trodAll_mk4 (Below.trod laidOut (by kernel_rfl) (of_decide_eq_true (by kernel_rfl)) h0 hnx lt0) (shut_int Try.underlying3 w1) (Below.trod laidOut (by kernel_rfl) (of_decide_eq_true (by kernel_rfl)) h2 hnx lt2) (Below.trod laidOut (by kernel_rfl) (of_decide_eq_true (by kernel_rfl)) h3 hnx lt3),rfl,hnx.frame _,fun h => by cases h⟩

theorem slackEnds_holds : Rows.SlackEndsSaid :=
 OpenClaim.holds_of_wide 4 Try.f4 rfl rfl rfl rfl rfl rfl rfl ⟨rfl,rfl,rfl,rfl,rfl⟩ rfl rfl rfl rfl rfl (by kernel_rfl) Try.func4 (by kernel_rfl)
  (of_decide_eq_true (by kernel_rfl)) (by unfold Func.isWrapper;first | (rw [if_pos (by decide +kernel)];kernel_rfl) | (rw [if_neg (by decide +kernel)];exact ⟨rfl,rfl⟩))
  (fun os started H enc _ => lifted4 os started H enc)
#print axioms slackEnds_holds
end Go.Proofs.Ytndbikoccdjafaa
