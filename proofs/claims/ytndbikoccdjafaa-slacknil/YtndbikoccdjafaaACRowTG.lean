/-
  Several texts in one: CRowT CCpC CCpD CCln.
-/
import Derived.Maps.AppendAt
import Derived.Orders
import Derived.WalkKit
import Derived.Test.YtndbikoccdjafaaACAsk
namespace Go.Proofs.Ytndbikoccdjafaa
open Go.RowKit
theorem flat_len {z : Nat} : ∀ {R : List (List Value)}, (∀ l ∈ R, l.length = z) → R.flatten.length = R.length * z
  | [], _ => by simp
  | l :: R, h => by
    rw [List.flatten_cons, List.length_append, flat_len fun l hl => h l (List.mem_cons_of_mem _ hl), h l List.mem_cons_self, List.length_cons, Nat.add_mul]
    omega
theorem flat_get {z : Nat} : ∀ {R : List (List Value)}, (∀ l ∈ R, l.length = z) → ∀ (i c : Nat) (l : List Value), R[i]? = some l → c < z → R.flatten[i * z + c]? = l[c]?
  | [], _, i, _, _, h, _ => by simp at h
  | l :: R, h, 0, c, l', e, hc => by
    simp at e
    subst e
    rw [List.flatten_cons, Nat.zero_mul, Nat.zero_add, List.getElem?_append_left (by rw [h l List.mem_cons_self]; exact hc)]
  | l :: R, h, i + 1, c, l', e, hc => by
    have hl := h l List.mem_cons_self
    rw [List.flatten_cons, List.getElem?_append_right (by rw [hl, Nat.add_mul]; omega), hl, show (i + 1) * z + c - z = i * z + c by rw [Nat.add_mul]; omega]
    exact flat_get (fun l hl => h l (List.mem_cons_of_mem _ hl)) i c l' (by simpa using e) hc
theorem own_cell {w : World} {base e size g n cap : Nat} {xs : List Value} (h : w.ownsRow base e size (.slice (some ⟨g, 0, none⟩) n cap) n xs) (k : Nat) (u : Value) (hk : xs[k]? = some u) : w.cell? ⟨g, k, none⟩ = some u := by
  have := World.ownsRow.cells (g := g) h rfl k _ hk
  rw [add0] at this
  exact this
theorem own_later {w w' : World} {base e size n B : Nat} {v : Value} {xs : List Value} (h : w.ownsRow base e size v n xs) (hB : w.heap.size ≤ B) (f : Below B w w') : w'.ownsRow base e size v n xs := own_of_block h (fun k hk => f.block k (Nat.lt_of_lt_of_le (h.lt k hk).2 hB))

section
variable {w w' : World} {base g cap n : Nat} {v : Value} {L : List Tsk}
end
end Go.Proofs.Ytndbikoccdjafaa
namespace Go.Proofs.Ytndbikoccdjafaa
open Go.RowKit
theorem info66 : (Try.prog.info? 54).map (fun i => (i.zero, i.size, i.bytes)) = some (some (.agg #[.int .i64 0, .int .i64 0]), 2, 16) := by kernel_rfl
theorem own_mono {w : World} {base base' e z n : Nat} {v : Value} {xs : List Value} (h : w.ownsRow base e z v n xs) (hb : base' ≤ base) : w.ownsRow base' e z v n xs := by
  obtain ⟨h1, h2⟩ := h
  refine ⟨h1, ?_⟩
  rcases h2 with h2 | ⟨g, cap, cur, e, a, r⟩
  · exact .inl h2
  · exact .inr ⟨g, cap, cur, e, Nat.le_trans hb a, r⟩
def encW (x : Win) : List Value := [.int .i64 x.1, .int .i64 x.2]
def flatW (A : List Win) : List Value := (A.map encW).flatten
theorem encW_len (L : List Win) : ∀ l ∈ L.map encW, l.length = 2 := by
  intro l hl
  obtain ⟨t, _, rfl⟩ := List.mem_map.1 hl
  rfl
theorem flatW_len (A : List Win) : (flatW A).length = A.length * 2 := by unfold flatW; rw [flat_len (encW_len A), List.length_map]
theorem flatW_one (A : List Win) : ∀ u ∈ flatW A, u.oneCell' = true := by
  intro u hu
  unfold flatW at hu
  simp only [List.mem_flatten, List.mem_map] at hu
  obtain ⟨l, ⟨t, _, rfl⟩, hu⟩ := hu
  simp [encW] at hu
  rcases hu with rfl | rfl <;> rfl
theorem flatW_get (L : List Win) (i c : Nat) (t : Win) (h : L[i]? = some t) (hc : c < 2) : (flatW L)[i * 2 + c]? = (encW t)[c]? := flat_get (encW_len L) i c _ (by simp [h]) hc
/-- The row of a value lies in no block of a set. -/
def NI (G : Nat → Prop) (v : Value) : Prop := ∀ g, v.ownBlock = some g → ¬ G g
def OWins (w : World) (base : Nat) (G : Nat → Prop) (v : Value) (L : List Win) : Prop := w.ownsRow base 54 2 v L.length (flatW L) ∧ L.length * 16 ≤ 140737488351232 ∧ NI G v
section
variable {w w' w0 : World} {base : Nat} {G G' : Nat → Prop} {v : Value}
theorem own_slice {e z n : Nat} {xs : List Value} (h : w.ownsRow base e z v n xs) : ∃ a c, v = .slice a n c ∧ (a = none → c = 0) ∧ ∀ g off spot, a = some ⟨g, off, spot⟩ → off = 0 ∧ spot = none := by
  rcases h.2 with ⟨e, e2⟩ | ⟨g, cap, cur, e, _⟩
  · exact ⟨none, 0, by rw [e, e2], fun _ => rfl, fun _ _ _ e => by cases e⟩
  · exact ⟨_, cap, e, (fun e => by cases e), fun g' off spot e => by cases e; exact ⟨rfl, rfl⟩⟩
theorem OWins.read {L : List Win} (h : OWins w base G v L) : WinsV w v L := by
  obtain ⟨h1, h2, _⟩ := h
  rcases h1.2 with ⟨e, e2⟩ | ⟨g, cap, cur, e, _⟩
  · have : L = [] := List.eq_nil_of_length_eq_zero e2
    subst this
    exact ⟨none, 0, e, fun _ => rfl, rfl, h2, fun k hk => by simp at hk⟩
  · subst e
    refine ⟨_, cap, rfl, (fun e => by cases e), rfl, h2, fun k hk => ⟨g, 0, rfl, ?_⟩⟩
    have hg : L[k]? = some L[k]! := by rw [getElem!_pos L k hk]; exact List.getElem?_eq_getElem hk
    simp only [Nat.zero_add]
    exact ⟨own_cell h1 _ _ (flatW_get L k 0 _ hg (by decide)), own_cell h1 _ _ (flatW_get L k 1 _ hg (by decide))⟩
end
section
variable {w w' w0 : World} {base : Nat} {G G' : Nat → Prop} {l : List Value}
end
end Go.Proofs.Ytndbikoccdjafaa
namespace Go.Proofs.Ytndbikoccdjafaa
open Go.RowKit
/-- A slice whose m elements are these cells. -/
def Src (w : World) (v : Value) (m : Nat) (xs : List Value) (y : Nat) : Prop :=
  ∃ ad c, v = .slice ad m c ∧ (ad = none → c = 0 ∧ m = 0) ∧ (∀ q, ad = some q → ∀ j u, xs[j]? = some u → w.cell? (q.add j) = some u) ∧ (∀ u ∈ xs, u.oneCell' = true) ∧ m * y ≤ 140737488351232
theorem cell_low {w w0 : World} (h : ∀ b, b < w0.heap.size → w.heap[b]? = w0.heap[b]?) {b o : Nat} {u : Value} (hc : w0.cell? ⟨b, o, none⟩ = some u) : w.cell? ⟨b, o, none⟩ = some u := by
  rw [World.cell?_of_block (a := ⟨b, o, none⟩) (h b (block_lt_of_cell hc))]
  exact hc
theorem src_wins {w0 : World} {v : Value} {L : List Win} (h : WinsV w0 v L) {w : World} (hl : ∀ b, b < w0.heap.size → w.heap[b]? = w0.heap[b]?) : Src w v L.length (flatW L) 16 := by
  obtain ⟨a, c, e, hc, hA⟩ := h
  refine ⟨a, c, e, fun ha => ⟨hc ha, ?_⟩, fun q hq j u hu => ?_, flatW_one L, hA.max⟩
  · rw [ha] at hA; exact wins_none hA
  · have hj : j < L.length * 2 := by have := (List.getElem?_eq_some_iff.1 hu).1; rw [flatW_len] at this; exact this
    have hk : j / 2 < L.length := by omega
    obtain ⟨b, off, e2, h0, h1⟩ := hA.cell (j / 2) hk
    rw [hq] at e2
    cases e2
    have hg : L[j / 2]? = some L[j / 2]! := by rw [getElem!_pos L (j / 2) hk]; exact List.getElem?_eq_getElem hk
    have hf := flatW_get L (j / 2) (j % 2) _ hg (by omega)
    rw [show j / 2 * 2 + j % 2 = j by omega, hu] at hf
    rw [addAt]
    have : j % 2 = 0 ∨ j % 2 = 1 := by omega
    rcases this with e | e
    · rw [e] at hf
      cases hf
      rw [show off + j = off + j / 2 * 2 by omega]
      exact cell_low hl h0
    · rw [e] at hf
      cases hf
      rw [show off + j = off + j / 2 * 2 + 1 by omega]
      exact cell_low hl h1
end Go.Proofs.Ytndbikoccdjafaa
namespace Go.Proofs.Ytndbikoccdjafaa
open Go.RowKit
/-- The whole of a slice of windows behind a slice that was just made. -/
theorem app_clone {w : World} {L : List Win} {n c : Nat} {ad : Addr} {ops : Array Oper} {rest : List Oper} {o : Oper} {a : Act} {Q : Exit → Act → World → Prop} (s x : Operand)
    (hgd : o.guard = none) (ho : o.op = .call { callee := .builtin .append, args := #[s, x], argTypes := #[84, 84] })
    (hs : a.eval s = .slice (some ⟨w.heap.size, 0, none⟩) 0 0) (hx : a.eval x = .slice (some ad) n c) (hW : WinsV w (.slice (some ad) L.length c) L) (hn : L.length = n)
    (h : ∀ v' w', w'.ownsRow w.heap.size 54 2 v' n (flatW L) → Below w.heap.size w w' → wpList Try.prog ops Q rest (a.put o.dst v') w') : wpList Try.prog ops Q (o :: rest) a (w.alloc (.cells #[] 54)) := by
  obtain ⟨i0, hi0, hy0, hy1, hy2⟩ := info_parts info66
  have fA : Below w.heap.size w (w.alloc (.cells #[] 54)) := (Below.refl _ _).alloc (Nat.le_refl _) _
  have hown : (w.alloc (.cells #[] 54)).ownsRow w.heap.size 54 2 (.slice (some ⟨w.heap.size, 0, none⟩) 0 0) 0 [] := World.ownsRow_made w #[] 0 (Nat.le_refl _) (by decide) (by simp)
  obtain ⟨ad', c', e, _, h2, h3, h4⟩ := src_wins hW (w := w.alloc (.cells #[] 54)) fA.block
  injection e with e1 _ e2
  subst e1 e2
  rw [hn] at h4
  refine wpList_append_own _ hgd s x 84 ho w.heap.size 54 i0 _ 2 16 Try.underlying84 hi0 hy0 hy1 hy2 rfl (by decide) _ 0 [] hs hown ad n c (flatW L) hx (by rw [flatW_len, hn]) (h2 ad rfl) h3 (by unfold maxLen; omega) (by omega) fA.size ?_
  intro v' w' h5 h6 _
  rw [Nat.zero_add] at h5
  exact h v' w' h5 (fA.grown h6 fA.size fun q hq => (hown.lt q hq).1)
set_option maxRecDepth 100000 in
set_option maxHeartbeats 3200000 in
theorem clone_any {w : World} {v : Value} {L : List Win} (h : WinsV w v L) : Calls Try.prog 114 #[v] w fun e w' => ∃ u, e = .returned u ∧ w'.ownsRow w.heap.size 54 2 u L.length (flatW L) ∧ Below w.heap.size w w' := by
  obtain ⟨a, c, rfl⟩ := h.shape
  have H := hide h
  obtain ⟨n, hn⟩ : ∃ n, L.length = n := ⟨_, rfl⟩
  have HN := hide hn
  clear h
  rw [hn]
  clear hn
  cases a with
  | none =>
    have hnil : ∀ W, (binOp .eql 84 (.slice none n c) (.slice none 0 0)).run Try.prog W = .ok (.bool true) W := fun W => by kernel_rfl
    have h0 : n = 0 := by
      obtain ⟨a, c, e, _, hA⟩ := H.out
      injection e with e1 _ _
      subst e1
      have := wins_none hA
      rw [← HN.out]
      exact this
    have hL : L = [] := List.length_eq_zero_iff.1 (HN.out.trans h0)
    subst h0
    go_enter Try.func114, Try.ntmps114
    go_wp2
    go_ret
    exact ⟨_, rfl, by subst hL; exact ⟨rfl, .inl ⟨rfl, rfl⟩⟩, Below.refl _ _⟩
  | some a =>
    have hnil : ∀ W, (binOp .eql 84 (.slice (some a) n c) (.slice none 0 0)).run Try.prog W = .ok (.bool false) W := fun W => by kernel_rfl
    go_enter Try.func114, Try.ntmps114
    go_wp2_with (at_builtin; refine app_clone (.tmp 5) (.tmp 6) rfl rfl rfl rfl H.out HN.out ?_; intro u1 w1 k1 k2; have K1 := hide k1; have K2 := hide k2; clear k1 k2)
    go_ret
    exact ⟨_, rfl, K1.out, K2.out⟩
end Go.Proofs.Ytndbikoccdjafaa
