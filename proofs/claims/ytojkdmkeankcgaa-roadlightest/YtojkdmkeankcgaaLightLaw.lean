/-
  RoadLightest: for every input the law returns true, and each argument reads afterwards as it read before. No condition.
-/
import Derived.Test.YtojkdmkeankcgaaRoadIn
import Derived.Test.YtojkdmkeankcgaaLight
import Derived.SizedLaws
namespace Go.Proofs.Ytojkdmkeankcgaa
open Go.ChangeShapes Go.WideShapes Go.ChangeAt Go.WideMaps Go.WideElems Go.RowKit Go.Deep Go.Joins

theorem bytes33 : Try.prog.bytesOf 33 = 32 := by kernel_rfl
set_option maxRecDepth 100000 in
/-- The arcs of a road that is read take no more than what is within reach. -/
theorem road_sized {H : Type} {enc : TypeId × Value → H} {W : World} {n : Int} {a : Option Addr} {m c : Nat} {d : DataW H} {p : List MemPlace}
    (h : DataW.Trod enc Try.prog W 0 (fun _ => true) true 24 (.agg #[.int .i64 n, .slice a m c]) d p) (hz : ∀ k ∈ d.weights Try.prog 24, k ≤ reachBytes) : m * 32 ≤ reachBytes := by
  obtain ⟨fuel, hf⟩ := h
  obtain ⟨y0, y1, n2, hx, _, t0, t1⟩ := trod_struct2 Try.underlying24 hf
  have hd : d = .agg [y0.1, y1.1] := congrArg Prod.fst hx
  subst hd
  have hm : ∀ k ∈ y1.1.weights Try.prog 22, k ≤ reachBytes := fun k hk => hz k (by
    simp only [DataW.weights, Try.underlying24, DataW.weightsEach, List.map_cons, List.map_nil, List.mem_append]
    exact .inr (.inl hk))
  have t1' : DataW.trod enc Try.prog W 0 (fun _ => true) true n2 22 [.slice a m c] = some y1 := t1
  rcases open_slice Try.underlying22 t1' with ⟨hcs, _⟩ | ⟨x, l, cc, mm, nn, D, Pl, hcs, _, hl, hmx, hmm, hx, _⟩
  · cases hcs
    omega
  · cases hcs
    simp only [if_true] at hmm
    subst hmm
    have := hm ((m + (mm - m)) * Try.prog.bytesOf 33) (by rw [hx]; simp [DataW.weights, Try.underlying22])
    rw [bytes33] at this
    omega
set_option maxRecDepth 100000 in
theorem lifted3 (os : Os) (started : os.Started) (H : Type) (enc : TypeId × Value → H) :
    ReturnsInHanded {} Try.checked os 3 .any (Rows.roadLightestSpec.pre6 enc Try.prog Try.f3 Rows.roadLightestRow.domain false) (Rows.roadLightestSpec.post enc Try.prog Try.f3 false true false false) := by
  refine returnsInHanded_of_change_sized (C := Try.checked) own started (by kernel_rfl) Try.func3
    (ChangeSpec.witness6 (enc := enc) (C := Try.checked) false ⟨#[], #[.agg #[.int .i64 0, .slice none 0 0], .int .i64 0, .int .i64 0], []⟩ 8 (by kernel_rfl) (by kernel_rfl) (by kernel_rfl) (by kernel_rfl)) ?_
  intro W base args ds gs before hval0 hW hcnd hsz0 _
  have hval : ∀ (j : Nat) t v, Try.f3.params[j]? = some t → args[j]? = some v → Value.okWide Try.prog W .any base t v := hval0
  have hW' := hW
  obtain ⟨p, q, hA0, hV, rfl, _, _⟩ := hW
  have hA : DataW.TrodAll enc Try.prog W 0 (fun _ => true) true Try.f3.params.toList args.toList ds p := hA0
  have hsz : (DataW.weightsEach Try.prog (Try.f3.params.toList ++ Rows.roadLightestSpec.plain.varTypes Try.prog) (ds ++ gs)).all (· ≤ reachBytes) = true := hsz0
  rw [Try.params3] at hA hval hsz
  obtain ⟨v0, v1, v2, d0, d1, d2, p0, p1, p2, rfl, rfl, rfl, h0, h1, h2⟩ := trodAll_three hA
  obtain ⟨rfl, rfl⟩ := trodVars_none hV
  obtain ⟨cs, rfl, hcs⟩ := okWide_struct Try.underlying24 (hval 0 24 v0 rfl rfl)
  obtain ⟨i0, rfl⟩ := okWide_int Try.underlying3 (hval 1 3 v1 rfl rfl)
  obtain ⟨j0, rfl⟩ := okWide_int Try.underlying3 (hval 2 3 v2 rfl rfl)
  have lt0 : ∀ x ∈ p0, x.block < W.heap.size := by obtain ⟨m, hm⟩ := h0; exact DataW.trod_lt m _ _ _ hm
  have lt1 : ∀ x ∈ p1, x.block < W.heap.size := by obtain ⟨m, hm⟩ := h1; exact DataW.trod_lt m _ _ _ hm
  have lt2 : ∀ x ∈ p2, x.block < W.heap.size := by obtain ⟨m, hm⟩ := h2; exact DataW.trod_lt m _ _ _ hm
  obtain ⟨n, a, m, c, A, rfl, hA1, hc, _, _, _⟩ := open_road hcs h0
  have hm := road_sized h0 fun k hk => by
    have := List.all_eq_true.1 hsz _ (DataW.weights_mem_each (j := 0) rfl rfl k hk)
    simpa using this
  have hz : m * 32 ≤ 140737488355328 := by unfold reachBytes at hm; omega
  clear hA0 hval0 hcnd hsz hsz0
  simp only [List.append_nil] at hW'
  refine (light_any n a m c A i0 j0 W hA1 hc hz).mono fun e W' ⟨he, hnx⟩ => ?_
  subst he
  exact ⟨_, rfl, _, _, _, [], _, [], hW', trodAll_mk1 (shut_bool Try.underlying4 _), trodAll_mk3 (Below.trod laidOut (by kernel_rfl) (of_decide_eq_true (by kernel_rfl)) h0 hnx lt0) (Below.trod laidOut (by kernel_rfl) (of_decide_eq_true (by kernel_rfl)) h1 hnx lt1) (Below.trod laidOut (by kernel_rfl) (of_decide_eq_true (by kernel_rfl)) h2 hnx lt2), rfl, hnx.frame _, fun h => by cases h⟩

theorem roadLightest_holds : Rows.RoadLightestSaid :=
  OpenClaim.holds_of_wide 3 Try.f3 rfl rfl rfl rfl rfl rfl rfl ⟨rfl, rfl, rfl, rfl, rfl⟩ rfl rfl rfl rfl rfl (by kernel_rfl) Try.func3 (by kernel_rfl)
    (of_decide_eq_true (by kernel_rfl)) (by unfold Func.isWrapper; first | (rw [if_pos (by decide +kernel)]; kernel_rfl) | (rw [if_neg (by decide +kernel)]; exact ⟨rfl, rfl⟩))
    (fun os started H enc _ => lifted3 os started H enc)
#print axioms roadLightest_holds
end Go.Proofs.Ytojkdmkeankcgaa
