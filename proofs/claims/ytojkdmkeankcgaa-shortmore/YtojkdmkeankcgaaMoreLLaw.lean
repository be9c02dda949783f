/-
  ShortMore: for every input the law returns true, and each argument reads afterwards as it read before. No condition.
-/
import Derived.Test.YtojkdmkeankcgaaRoadIn
import Derived.Test.YtojkdmkeankcgaaMoreL
import Derived.SizedLaws
namespace Go.Proofs.Ytojkdmkeankcgaa
open Go.ChangeShapes Go.WideShapes Go.ChangeAt Go.WideMaps Go.WideElems Go.RowKit Go.Deep Go.Joins

theorem bytes33 : Try.prog.bytesOf 33 = 32 := by kernel_rfl
theorem cells33 : Try.prog.cellsOf 33 = 4 := by kernel_rfl
set_option maxRecDepth 100000 in
/-- The arcs of a road that is read take no more than what is within reach. -/
theorem road_sized {H : Type} {enc : TypeId × Value → H} {W : World} {n : Int} {a : Option Addr} {m c : Nat} {d : DataW H} {p : List MemPlace}
    (h : DataW.Trod enc Try.prog W 0 (fun _ => true) true 24 (.agg #[.int .i64 n, .slice a m c]) d p) (hz : ∀ k ∈ d.weights Try.prog 24, k ≤ reachBytes) : m * 32 ≤ reachBytes := by
  obtain ⟨fuel, hf⟩ := h
  obtain ⟨y0, y1, n2, hx, _, t0, t1⟩ := trod_struct2 Try.underlying24 hf
  have hd : d = .agg [y0.1, y1.1] := congrArg Prod.fst hx
  subst hd
  have hm : ∀ k ∈ y1.1.weights Try.prog 22, k ≤ reachBytes := fun k hk => hz k (by
    simp only [DataW.weights, Try.underlying24, DataW.weightsEach, List.map_cons, List.map_nil, List.mem_append]
    exact .inr (.inl hk))
  have t1' : DataW.trod enc Try.prog W 0 (fun _ => true) true n2 22 [.slice a m c] = some y1 := t1
  rcases open_slice Try.underlying22 t1' with ⟨hcs, _⟩ | ⟨x, l, cc, mm, nn, D, Pl, hcs, _, hl, hmx, hmm, hx, _⟩
  · cases hcs
    omega
  · cases hcs
    simp only [if_true] at hmm
    subst hmm
    have := hm ((m + (mm - m)) * Try.prog.bytesOf 33) (by rw [hx]; simp [DataW.weights, Try.underlying22])
    rw [bytes33] at this
    omega
set_option maxRecDepth 100000 in
theorem open_arc {H : Type} {enc : TypeId × Value → H} {W : World} {cs : Array Value} {d : DataW H} {p : List MemPlace} (hs : cs.size = Try.prog.cellsOf 33)
    (h : DataW.Trod enc Try.prog W 0 (fun _ => true) true 33 (.agg cs) d p) : ∃ x : Arc, cs = #[.int .i64 x.1, .int .i64 x.2.1, .int .i64 x.2.2.1, .int .i64 x.2.2.2] := by
  obtain ⟨fuel, hf⟩ := h
  rw [cells33] at hs
  obtain ⟨cs⟩ := cs
  match cs, hs with
  | [v0, v1, v2, v3], _ =>
    obtain ⟨y0, y1, y2, y3, n2, _, _, t0, t1, t2, t3⟩ := trod_struct4 Try.underlying33 hf
    obtain ⟨c0, rfl, _⟩ := one_int (v := v0) (n := n2) t0
    obtain ⟨c1, rfl, _⟩ := one_int (v := v1) (n := n2) t1
    obtain ⟨c2, rfl, _⟩ := one_int (v := v2) (n := n2) t2
    obtain ⟨c3, rfl, _⟩ := one_int (v := v3) (n := n2) t3
    exact ⟨(c0, c1, c2, c3), rfl⟩

set_option maxRecDepth 100000 in
theorem lifted4 (os : Os) (started : os.Started) (H : Type) (enc : TypeId × Value → H) :
    ReturnsInHanded {} Try.checked os 4 .any (Rows.shortMoreSpec.pre6 enc Try.prog Try.f4 Rows.shortMoreRow.domain false) (Rows.shortMoreSpec.post enc Try.prog Try.f4 false true false false) := by
  refine returnsInHanded_of_change_sized (C := Try.checked) own started (by kernel_rfl) Try.func4
    (ChangeSpec.witness6 (enc := enc) (C := Try.checked) false ⟨#[], #[.agg #[.int .i64 0, .slice none 0 0], .agg #[.int .i64 0, .int .i64 0, .int .i64 0, .int .i64 0], .bool false], []⟩ 8 (by kernel_rfl) (by kernel_rfl) (by kernel_rfl) (by kernel_rfl)) ?_
  intro W base args ds gs before hval0 hW hcnd hsz0 _
  have hval : ∀ (j : Nat) t v, Try.f4.params[j]? = some t → args[j]? = some v → Value.okWide Try.prog W .any base t v := hval0
  have hW' := hW
  obtain ⟨p, q, hA0, hV, rfl, _, _⟩ := hW
  have hA : DataW.TrodAll enc Try.prog W 0 (fun _ => true) true Try.f4.params.toList args.toList ds p := hA0
  have hsz : (DataW.weightsEach Try.prog (Try.f4.params.toList ++ Rows.shortMoreSpec.plain.varTypes Try.prog) (ds ++ gs)).all (· ≤ reachBytes) = true := hsz0
  rw [Try.params4] at hA hval hsz
  obtain ⟨v0, v1, v2, d0, d1, d2, p0, p1, p2, rfl, rfl, rfl, h0, h1, h2⟩ := trodAll_three hA
  obtain ⟨rfl, rfl⟩ := trodVars_none hV
  obtain ⟨cs, rfl, hcs⟩ := okWide_struct Try.underlying24 (hval 0 24 v0 rfl rfl)
  obtain ⟨cs1, rfl, hcs1⟩ := okWide_struct Try.underlying33 (hval 1 33 v1 rfl rfl)
  obtain ⟨b, rfl⟩ := okWide_bool Try.underlying4 (hval 2 4 v2 rfl rfl)
  have lt0 : ∀ x ∈ p0, x.block < W.heap.size := by obtain ⟨m, hm⟩ := h0; exact DataW.trod_lt m _ _ _ hm
  have lt1 : ∀ x ∈ p1, x.block < W.heap.size := by obtain ⟨m, hm⟩ := h1; exact DataW.trod_lt m _ _ _ hm
  have lt2 : ∀ x ∈ p2, x.block < W.heap.size := by obtain ⟨m, hm⟩ := h2; exact DataW.trod_lt m _ _ _ hm
  obtain ⟨n, a, m, c, A, rfl, hA1, hc, _, _, _⟩ := open_road hcs h0
  obtain ⟨x, rfl⟩ := open_arc hcs1 h1
  have hm := road_sized h0 fun k hk => by
    have := List.all_eq_true.1 hsz _ (DataW.weights_mem_each (j := 0) rfl rfl k hk)
    simpa using this
  have hz : (m + 1) * 32 ≤ 140737488355328 := by unfold reachBytes at hm; omega
  clear hA0 hval0 hcnd hsz hsz0
  simp only [List.append_nil] at hW'
  refine (more_any n a m c A x b W hA1 hc hz).mono fun e W' ⟨he, hnx⟩ => ?_
  subst he
  exact ⟨_, rfl, _, _, _, [], _, [], hW', trodAll_mk1 (shut_bool Try.underlying4 _), trodAll_mk3 (Below.trod laidOut (by kernel_rfl) (of_decide_eq_true (by kernel_rfl)) h0 hnx lt0) (Below.trod laidOut (by kernel_rfl) (of_decide_eq_true (by kernel_rfl)) h1 hnx lt1) (Below.trod laidOut (by kernel_rfl) (of_decide_eq_true (by kernel_rfl)) h2 hnx lt2), rfl, hnx.frame _, fun h => by cases h⟩

theorem shortMore_holds : Rows.ShortMoreSaid :=
  OpenClaim.holds_of_wide 4 Try.f4 rfl rfl rfl rfl rfl rfl rfl ⟨rfl, rfl, rfl, rfl, rfl⟩ rfl rfl rfl rfl rfl (by kernel_rfl) Try.func4 (by kernel_rfl)
    (of_decide_eq_true (by kernel_rfl)) (by unfold Func.isWrapper; first | (rw [if_pos (by decide +kernel)]; kernel_rfl) | (rw [if_neg (by decide +kernel)]; exact ⟨rfl, rfl⟩))
    (fun os started H enc _ => lifted4 os started H enc)
#print axioms shortMore_holds
end Go.Proofs.Ytojkdmkeankcgaa
