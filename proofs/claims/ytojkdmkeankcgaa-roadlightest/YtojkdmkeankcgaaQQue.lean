/-
  What the calls of queue's New, Len, Key, Take, Drop and Put do.
-/
import Derived.Test.YtojkdmkeankcgaaQOrdC
import Derived.Test.YtojkdmkeankcgaaQModel
namespace Go.Proofs.Ytojkdmkeankcgaa.Qu
open Go.RowKit Go.Maps

section
variable {w w' : World} {q ob mb : Nat} {v : Value} {L M X : List Pr} {S T : Nat → Prop}
theorem Ord.dis (h : Ord w ob mb v L L S) : Dis L := by
  obtain ⟨D, _, hP⟩ := h.map
  unfold Dis items
  unfold List.Nodup
  rw [List.pairwise_map, List.pairwise_iff_getElem]
  intro i j hi hj hij e
  have h1 : L[i] = at' L i := by simp [at', List.getD_eq_getElem?_getD, hi]
  have h2 : L[j] = at' L j := by simp [at', List.getD_eq_getElem?_getD, hj]
  rw [h1, h2] at e
  have := hP.inj hi hj e
  omega
/-- S without q. -/
def sub (S : Nat → Prop) (q : Nat) : Nat → Prop := fun b => S b ∧ b ≠ q
/-- A queue in memory whose order lies at ob. -/
def QIn (w : World) (q ob mb : Nat) (X : List Pr) (S : Nat → Prop) : Prop := w.heap[q]? = some (.cells #[.pointer (some ⟨ob, 0, none⟩)] 108 (0, 0)) ∧ HOrd w ob mb X (sub S q)
/-- A queue in memory that holds just X. -/
structure QAt (w : World) (q : Nat) (X : List Pr) (S : Nat → Prop) : Prop where
  sq : S q
  lt : ∀ k, S k → k < w.heap.size
  has : (w.heap[q]? = some (.cells #[.pointer none] 108 (0, 0)) ∧ X = []) ∨ ∃ ob mb, QIn w q ob mb X S
theorem HOrd.dis (h : HOrd w ob mb X S) : Dis X := by obtain ⟨v, L, hO, hp, _⟩ := h; exact hO.dis.perm hp
theorem HOrd.len (h : HOrd w ob mb X S) : X.length ≤ 4096 := by obtain ⟨v, L, hO, hp, _⟩ := h; rw [← hp.length_eq]; exact hO.len
theorem QAt.dis (h : QAt w q X S) : Dis X := by
  rcases h.has with ⟨_, rfl⟩ | ⟨ob, mb, _, h2⟩
  · simp [Dis, items]
  · exact h2.dis
theorem QAt.len (h : QAt w q X S) : X.length ≤ 4096 := by
  rcases h.has with ⟨_, rfl⟩ | ⟨ob, mb, _, h2⟩
  · simp
  · exact h2.len
theorem HOrd.fr (h : HOrd w ob mb X S) (f : Fr T w w') (d : ∀ k, S k → ¬ T k) : HOrd w' ob mb X S := by
  obtain ⟨v, L, hO, r⟩ := h; exact ⟨v, L, hO.fr f d, r⟩
theorem QAt.fr (h : QAt w q X S) (f : Fr T w w') (d : ∀ k, S k → ¬ T k) : QAt w' q X S := by
  refine ⟨h.sq, fun k hk => Nat.lt_of_lt_of_le (h.lt k hk) f.size, ?_⟩
  have hb := f.block q (h.lt _ h.sq) (d _ h.sq)
  rcases h.has with ⟨h1, h2⟩ | ⟨ob, mb, h1, h2⟩
  · exact .inl ⟨hb.trans h1, h2⟩
  · exact .inr ⟨ob, mb, hb.trans h1, h2.fr f (fun k hk => d k hk.1)⟩
theorem QAt.later (h : QAt w q X S) (f : Below w.heap.size w w') : QAt w' q X S := h.fr (T := fun _ => False) (Fr.of_below f) (fun _ _ h => h)
theorem QAt.widen (h : QAt w q X S) (hST : ∀ b, S b → T b) (hT : ∀ b, T b → b < w.heap.size) : QAt w q X T := by
  refine ⟨hST _ h.sq, hT, ?_⟩
  rcases h.has with h1 | ⟨ob, mb, h1, v, L, hO, r⟩
  · exact .inl h1
  · exact .inr ⟨ob, mb, h1, v, L, hO.widen (fun b hb => ⟨hST b hb.1, hb.2⟩) (fun b hb => hT b hb.1), r⟩
theorem QAt.perm {Y : List Pr} (h : QAt w q X S) (p : X.Perm Y) : QAt w q Y S := by
  refine ⟨h.sq, h.lt, ?_⟩
  rcases h.has with ⟨h1, rfl⟩ | ⟨ob, mb, h1, v, L, hO, hp, r⟩
  · exact .inl ⟨h1, (List.nil_perm.1 p)⟩
  · exact .inr ⟨ob, mb, h1, v, L, hO, hp.trans p, r⟩

theorem new_any (w : World) : Calls Try.prog 35 #[] w fun e w' => e = .returned (.pointer (some ⟨w.heap.size, 0, none⟩)) ∧ QAt w' w.heap.size [] (fun b => b = w.heap.size) ∧ Below w.heap.size w w' ∧ w'.heap.size = w.heap.size + 1 := by
  go_enter Try.func35, Try.ntmps35
  go_wp2
  go_ret
  exact ⟨rfl, ⟨rfl, fun k e => by subst e; simp, .inl ⟨heap_alloc_new _ _, rfl⟩⟩, (Below.refl _ _).alloc (Nat.le_refl _) _, by simp⟩

theorem qlen_any (h : QAt w q X S) : Calls Try.prog 68 #[.pointer (some ⟨q, 0, none⟩)] w fun e w' => e = .returned (.int .i64 X.length) ∧ w' = w := by
  rcases h.has with ⟨h1, rfl⟩ | ⟨ob, mb, h1, v, L, hO, hp, r⟩
  · have c0 := cell_of_row w q 0 _ _ _ h1
    simp only [List.getElem?_toArray, List.getElem?_cons_zero] at c0
    go_enter Try.func68, Try.ntmps68
    go_wp2
    go_ret
    exact ⟨rfl, rfl⟩
  · have c0 := cell_of_row w q 0 _ _ _ h1
    simp only [List.getElem?_toArray, List.getElem?_cons_zero] at c0
    have HL := len_any hO
    rw [hp.length_eq] at HL
    replace HL := hide HL
    go_enter Try.func68, Try.ntmps68
    go_wp2_with (go_at_call 87; refine HL.out.mono ?_; rintro e w2 ⟨rfl, rfl⟩)
    go_ret
    exact ⟨rfl, rfl⟩

theorem place_in (hq : w.heap[q]? = some (.cells #[.pointer (some ⟨ob, 0, none⟩)] 108 (0, 0))) (h : Ord w ob mb v L L S) (i : Nat) (hi : i < L.length) :
    Calls Try.prog 56 #[.pointer (some ⟨q, 0, none⟩), .int .i64 (at' L i).1] w fun e w' => e = .returned (.tuple #[.int .i64 i, .bool true]) ∧ w' = w := by
  have c0 := cell_of_row w q 0 _ _ _ hq
  simp only [List.getElem?_toArray, List.getElem?_cons_zero] at c0
  have c1 := h.c1
  obtain ⟨D, hD, hP⟩ := h.map
  have hK := keyOf3 (h.wf i hi).1
  have hh := hP.here i hi
  obtain ⟨c, hrun, hat, hwc⟩ : ∃ c, (Instr.lookup 109 (.map (some mb)) (.int .i64 (at' L i).1) true).run Try.prog w = .ok (.tuple #[.int .i64 c, .bool (Maps.has D (ki (at' L i).1))]) w ∧ D.atKey (ki (at' L i).1) (dI 0) = dI c ∧ True := by
    obtain ⟨u, ps, h1, h2⟩ := World.ownsMap.look_ok hD law Try.underlying109 (zero3 w) (plainElem_int Try.underlying3 (by decide)) hK
    obtain ⟨c, rfl, hc, _⟩ := plainElem_int_inv Try.underlying3 h2
    exact ⟨c, h1, congrArg Prod.fst hc, trivial⟩
  have hci : c = (i : Int) := by rw [hh.2] at hat; unfold dI at hat; simp at hat; exact hat.symm
  rw [hci, hh.1] at hrun
  clear hat hci hh hP hD h hq
  obtain ⟨x, hx⟩ : ∃ x, (at' L i).1 = x := ⟨_, rfl⟩
  rw [hx] at hrun ⊢
  go_enter Try.func56, Try.ntmps56
  go_wp2
  go_ret2
  exact ⟨rfl, rfl⟩
theorem place_out (hq : w.heap[q]? = some (.cells #[.pointer (some ⟨ob, 0, none⟩)] 108 (0, 0))) (h : Ord w ob mb v L L S) (x : Int) (hx : I64 x) (hn : ∀ i, i < L.length → (at' L i).1 ≠ x) :
    Calls Try.prog 56 #[.pointer (some ⟨q, 0, none⟩), .int .i64 x] w fun e w' => e = .returned (.tuple #[.int .i64 0, .bool false]) ∧ w' = w := by
  have c0 := cell_of_row w q 0 _ _ _ hq
  simp only [List.getElem?_toArray, List.getElem?_cons_zero] at c0
  have c1 := h.c1
  obtain ⟨D, hD, hP⟩ := h.map
  have hK := keyOf3 hx
  have hh := hP.none x hn
  obtain ⟨c, hrun, hat⟩ : ∃ c, (Instr.lookup 109 (.map (some mb)) (.int .i64 x) true).run Try.prog w = .ok (.tuple #[.int .i64 c, .bool (Maps.has D (ki x))]) w ∧ D.atKey (ki x) (dI 0) = dI c := by
    obtain ⟨u, ps, h1, h2⟩ := World.ownsMap.look_ok hD law Try.underlying109 (zero3 w) (plainElem_int Try.underlying3 (by decide)) hK
    obtain ⟨c, rfl, hc, _⟩ := plainElem_int_inv Try.underlying3 h2
    exact ⟨c, h1, congrArg Prod.fst hc⟩
  rw [atKey_of_not_has hh] at hat
  have hci : c = 0 := by unfold dI at hat; simp at hat; exact hat.symm
  rw [hci, hh] at hrun
  clear hat hci hh hP hD h hq hn
  go_enter Try.func56, Try.ntmps56
  go_wp2
  go_ret2
  exact ⟨rfl, rfl⟩
theorem place_nil (h1 : w.heap[q]? = some (.cells #[.pointer none] 108 (0, 0))) (x : Int) :
    Calls Try.prog 56 #[.pointer (some ⟨q, 0, none⟩), .int .i64 x] w fun e w' => e = .returned (.tuple #[.int .i64 0, .bool false]) ∧ w' = w := by
  have c0 := cell_of_row w q 0 _ _ _ h1
  simp only [List.getElem?_toArray, List.getElem?_cons_zero] at c0
  go_enter Try.func56, Try.ntmps56
  go_wp2
  go_ret2
  exact ⟨rfl, rfl⟩
end
end Go.Proofs.Ytojkdmkeankcgaa.Qu
