/-
  PlanRight: for every input the law returns true, and each argument reads afterwards as it read before. No condition.
-/
import Derived.Test.YtgjpkpmikbpcnaaORigL
namespace Go.Proofs.Ytgjpkpmikbpcnaa
open Go.ChangeShapes Go.WideShapes Go.ChangeAt Go.WideMaps Go.WideElems Go.RowKit
set_option maxRecDepth 100000 in
theorem lifted10 (os:Os) (started:os.Started) (H:Type) (enc:TypeId × Value→H) :
  ReturnsInHanded {} Try.checked os 10 .any (Rows.planRightSpec.pre6 enc Try.prog Try.f10 Rows.planRightRow.domain false) (Rows.planRightSpec.post enc Try.prog Try.f10 false true false false):=by
 refine returnsInHanded_of_change_sized (C:=Try.checked) own started (by kernel_rfl) Try.func10
  (ChangeSpec.witness6 (enc:=enc) (C:=Try.checked) false ⟨#[],#[.agg #[.int .i64 0,.int .i64 0,.slice none 0 0,.int .i64 0,.slice none 0 0,.slice none 0 0,.slice none 0 0,.slice none 0 0],.int .i64 0,.slice none 0 0],[]⟩ 8 (by kernel_rfl) (by kernel_rfl) (by kernel_rfl) (by kernel_rfl)) ?_
 intro W base args ds gs before hval0 hW hcnd hsz0 _;have hval:∀ (j:Nat) t v,Try.f10.params[j]? = some t→args[j]? = some v→Value.okWide Try.prog W .any base t v:=hval0;have hW':=hW;obtain ⟨p,q,hA0,hV,rfl,_,_⟩:=hW;have hA:DataW.TrodAll enc Try.prog W 0 (fun _=>true) true Try.f10.params.toList args.toList ds p:=hA0;have hsz:(DataW.weightsEach Try.prog (Try.f10.params.toList ++ Rows.planRightSpec.plain.varTypes Try.prog) (ds ++ gs)).all (·≤reachBytes)=true:=hsz0;rw [Try.params10] at hA hval hsz;obtain ⟨v0,v1,v2,d0,d1,d2,p0,p1,p2,rfl,rfl,rfl,h0,h1,h2⟩:=trodAll_three hA;obtain ⟨rfl,rfl⟩:=trodVars_none hV;obtain ⟨cs0,rfl,z0⟩:=okWide_struct Try.underlying29 (hval 0 29 v0 rfl rfl);obtain ⟨x1,rfl,rfl,rfl,w1⟩:=open_int Try.underlying3 (hval 1 3 v1 rfl rfl) h1;obtain ⟨a2,n2,c2,rfl⟩:=okWide_slice Try.underlying55 (hval 2 55 v2 rfl rfl);have lt0:∀ x ∈ p0,x.block<W.heap.size:=by obtain ⟨m,hm⟩:=h0;exact DataW.trod_lt m _ _ _ hm
 have lt2:∀ x ∈ p2,x.block<W.heap.size:=by obtain ⟨m,hm⟩:=h2;exact DataW.trod_lt m _ _ _ hm
 obtain ⟨P0,X0,rfl,hP0⟩:=xA h0 fun k hk=>by
  have:=List.all_eq_true.1 hsz _ (DataW.weights_mem_each (j:=0) rfl rfl k hk)
  simpa using this
 obtain ⟨L2,hL2,hn2,hc2⟩:=o6 h2 fun k hk=>by
  have:=List.all_eq_true.1 hsz _ (DataW.weights_mem_each (j:=2) rfl rfl k hk)
  simpa using this
 clear hA0 hval0 hcnd hsz hsz0;simp only [List.append_nil] at hW';refine (zD hP0 hL2 hn2 hc2 x1).mono fun e W' ⟨he,hnx⟩=>?_;subst he;exact ⟨_,rfl,_,_,_,[],_,[],hW',trodAll_mk1 (shut_bool Try.underlying4 _),trodAll_mk3 (Below.trod lZ (by kernel_rfl) (of_decide_eq_true (by kernel_rfl)) h0 hnx lt0) (shut_int Try.underlying3 w1) (Below.trod lZ (by kernel_rfl) (of_decide_eq_true (by kernel_rfl)) h2 hnx lt2),rfl,hnx.frame _,fun h=>by cases h⟩

theorem planRight_holds:Rows.PlanRightSaid :=
 OpenClaim.holds_of_wide 10 Try.f10 rfl rfl rfl rfl rfl rfl rfl ⟨rfl,rfl,rfl,rfl,rfl⟩ rfl rfl rfl rfl rfl (by kernel_rfl) Try.func10 (by kernel_rfl)
  (of_decide_eq_true (by kernel_rfl)) (by unfold Func.isWrapper;first | (rw [if_pos (by decide +kernel)];kernel_rfl) | (rw [if_neg (by decide +kernel)];exact ⟨rfl,rfl⟩))
  (fun os started H enc _=>lifted10 os started H enc)
#print axioms planRight_holds
end Go.Proofs.Ytgjpkpmikbpcnaa
