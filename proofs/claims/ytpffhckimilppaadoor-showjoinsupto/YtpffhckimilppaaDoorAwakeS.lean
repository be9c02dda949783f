/-
  What the statements' fixed fact does.
-/
import Derived.Test.YtpffhckimilppaaDoorChk
namespace Go.Proofs.YtpffhckimilppaaDoor
open Go.RowKit
set_option maxRecDepth 100000

def T0 : List VI := [{ kind := 3, num := 1 }, { kind := 4, text := [97, 10] }, { kind := 5, kids := [0, 1] }]
theorem check0 : checkE T0 = 0 := by decide +kernel
theorem itoa1 : Lib.itoa 1 = [49] := by rw [Lib.itoa, if_neg (by decide)]; exact decS 1 (by decide)
theorem quo0 : quoteM [97, 10] = [34, 97, 92, 117, 48, 48, 48, 97, 34] := by decide +kernel
theorem text0 : textM T0 = [91, 49, 44, 34, 97, 92, 117, 48, 48, 48, 97, 34, 93] := by
  rw [textM, if_pos check0]
  show valT (writeF T0 2) { kind := 5, kids := [0, 1] } = _
  have e0 : writeF T0 2 0 = Lib.itoa 1 := rfl
  have e1 : writeF T0 2 1 = quoteM [97, 10] := rfl
  simp only [valT, kidsT]
  simp [e0, e1, itoa1, quo0]
theorem checkN : checkE [] = 29 := rfl
theorem tree_nil (w : World) : TreeAt w (.slice none 0 0) [] := ⟨none, 0, rfl, by simp, fun i x h => by simp at h⟩
theorem slat_nil (w : World) : SlAt w (.slice none 0 0) [] := ⟨none, 0, rfl, by simp, fun j u h => by simp at h⟩
def cells0 (B : Nat) : Array Value := #[.int .i64 3, .bool false, .int .i64 1, .string ⟨#[]⟩, .slice none 0 0, .slice none 0 0, .int .i64 4, .bool false, .int .i64 0, .string ⟨#[97, 10]⟩, .slice none 0 0, .slice none 0 0,
  .int .i64 5, .bool false, .int .i64 0, .string ⟨#[]⟩, .slice none 0 0, .slice (some ⟨B, 0, none⟩) 2 2]
theorem tree0 (w : World) : TreeAt ((w.alloc (.cells #[.int .i64 0, .int .i64 1] 3)).alloc (.cells (cells0 w.heap.size) 42)) (.slice (some ⟨w.heap.size + 1, 0, none⟩) 3 3) T0 ∧ Below w.heap.size w ((w.alloc (.cells #[.int .i64 0, .int .i64 1] 3)).alloc (.cells (cells0 w.heap.size) 42)) := by
  have hs : (w.alloc (.cells #[.int .i64 0, .int .i64 1] 3)).heap.size = w.heap.size + 1 := by simp
  have hnew := heap_alloc_new (w.alloc (.cells #[.int .i64 0, .int .i64 1] 3)) (.cells (cells0 w.heap.size) 42)
  rw [hs] at hnew
  have hB1 : Below w.heap.size w (w.alloc (.cells #[.int .i64 0, .int .i64 1] 3)) := (Below.refl _ _).alloc (Nat.le_refl _) _
  have hB := hB1.alloc hB1.size (.cells (cells0 w.heap.size) 42)
  refine ⟨⟨_, 3, rfl, by decide, fun i x hx => ?_⟩, hB⟩
  have hk : ∀ (j : Nat), j < 18 → ∀ u, (cells0 w.heap.size)[j]? = some u → ((w.alloc (.cells #[.int .i64 0, .int .i64 1] 3)).alloc (.cells (cells0 w.heap.size) 42)).cell? ⟨w.heap.size + 1, j, none⟩ = some u := fun j _ u hu => by
    rw [cell_of_row _ (w.heap.size + 1) j _ _ _ hnew]; exact hu
  have h3 : i = 0 ∨ i = 1 ∨ i = 2 := by
    have := (List.getElem?_eq_some_iff.1 hx).1
    simp [T0] at this; omega
  have six : ∀ (b : Nat) (x : VI) (nv kv : Value), b + 6 ≤ 18 → (∀ j u, (aggI x nv kv)[j]? = some u → (cells0 w.heap.size)[b + j]? = some u) → ∀ j u, (aggI x nv kv)[j]? = some u → ((w.alloc (.cells #[.int .i64 0, .int .i64 1] 3)).alloc (.cells (cells0 w.heap.size) 42)).cell? ⟨w.heap.size + 1, b + j, none⟩ = some u := fun b x nv kv hb h j u hj => by
    have : j < 6 := by
      have := (List.getElem?_eq_some_iff.1 hj).1
      simpa [aggI] using this
    exact hk (b + j) (by omega) u (h j u hj)
  have j6 : ∀ {x : VI} {nv kv : Value} {j : Nat} {u : Value}, (aggI x nv kv)[j]? = some u → j = 0 ∨ j = 1 ∨ j = 2 ∨ j = 3 ∨ j = 4 ∨ j = 5 := fun {x nv kv j u} hj => by
    have := (List.getElem?_eq_some_iff.1 hj).1
    have h6 : j < 6 := by simpa [aggI] using this
    omega
  rcases h3 with rfl | rfl | rfl
  · cases hx
    refine ⟨w.heap.size + 1, 0, .slice none 0 0, .slice none 0 0, rfl, ⟨slat_nil _, slat_nil _⟩, fun j u hj => ?_⟩
    have := six 0 _ _ _ (by decide) (fun j u hj => by rcases j6 hj with rfl | rfl | rfl | rfl | rfl | rfl <;> exact hj) j u hj
    simpa using this
  · cases hx
    refine ⟨w.heap.size + 1, 0, .slice none 0 0, .slice none 0 0, rfl, ⟨slat_nil _, slat_nil _⟩, fun j u hj => ?_⟩
    have := six 6 _ _ _ (by decide) (fun j u hj => by rcases j6 hj with rfl | rfl | rfl | rfl | rfl | rfl <;> exact hj) j u hj
    simpa using this
  · cases hx
    refine ⟨w.heap.size + 1, 0, .slice none 0 0, .slice (some ⟨w.heap.size, 0, none⟩) 2 2, rfl, ⟨slat_nil _, ⟨some ⟨w.heap.size, 0, none⟩, 2, rfl, by decide, fun j u hj => ⟨_, rfl, ?_⟩⟩⟩, fun j u hj => ?_⟩
    · have hold : ((w.alloc (.cells #[.int .i64 0, .int .i64 1] 3)).alloc (.cells (cells0 w.heap.size) 42)).heap[w.heap.size]? = some (.cells #[.int .i64 0, .int .i64 1] 3) := by
        rw [heap_alloc_old _ _ (by simp)]; exact heap_alloc_new _ _
      rw [add0, cell_of_row _ w.heap.size j _ _ _ hold]
      have : j = 0 ∨ j = 1 := by
        have := (List.getElem?_eq_some_iff.1 hj).1
        simp at this; omega
      rcases this with rfl | rfl <;> exact hj
    · have := six 12 _ _ _ (by decide) (fun j u hj => by rcases j6 hj with rfl | rfl | rfl | rfl | rfl | rfl <;> exact hj) j u hj
      simpa using this
theorem sml0 : Sml T0 := by
  refine ⟨fun x hx => ?_, fun x hx => ?_, fun x hx n hn => ?_⟩
  all_goals
    simp [T0] at hx
    rcases hx with rfl | rfl | rfl
    all_goals first | (simp at hn) | simp
set_option maxHeartbeats 1600000 in
theorem awake_any (w : World) (hU : TabU w) (hP : Tab w) : Calls Tryd.prog 10 #[] w fun e w' => e = .returned (.bool true) ∧ Below w.heap.size w w' := by
  obtain ⟨t1, t2⟩ := tree0 w
  have HA := hide (print_any t1 sml0 (hU.later t2) (hP.later t2) (by rw [text0]; decide))
  rw [check0, text0] at HA
  have HT2 := hide t2
  have HC := hide (fun w' (h : Below w.heap.size w w') => check_any (tree_nil w') (fun x hx => by simp at hx) (hU.later h))
  rw [checkN] at HC
  clear t1 t2 hU hP
  unfold cells0 at HA HT2
  go_enter Tryd.func10, Tryd.ntmps10
  go_wp2_with (first
    | (go_at_call 14; refine HA.out.mono ?_; rintro e w1 ⟨v1, rfl, k1, k2⟩; have HCV := conv_own k1; have H1 := hide (below_on HT2.out k2); clear k1 k2)
    | (go_at_call 11; refine (HC.out _ H1.out).mono ?_; rintro e w2 ⟨rfl, k2⟩; have H2 := hide (below_on H1.out k2); clear k2))
  go_ret
  exact ⟨rfl, H2.out⟩
end Go.Proofs.YtpffhckimilppaaDoor
