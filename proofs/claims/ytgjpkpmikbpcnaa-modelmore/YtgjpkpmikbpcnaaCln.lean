/-
  What the call of slices.Clone does on windows.
-/
import Derived.Test.YtgjpkpmikbpcnaaCpD
namespace Go.Proofs.Ytgjpkpmikbpcnaa
open Go.RowKit

/-- The whole of a slice of windows behind a slice that was just made. -/
theorem app_clone {w : World} {L : List Win} {n c : Nat} {ad : Addr} {ops : Array Oper} {rest : List Oper} {o : Oper} {a : Act} {Q : Exit → Act → World → Prop} (s x : Operand)
    (hgd : o.guard = none) (ho : o.op = .call { callee := .builtin .append, args := #[s, x], argTypes := #[43, 43] })
    (hs : a.eval s = .slice (some ⟨w.heap.size, 0, none⟩) 0 0) (hx : a.eval x = .slice (some ad) n c) (hW : WinsV w (.slice (some ad) L.length c) L) (hn : L.length = n)
    (h : ∀ v' w', w'.ownsRow w.heap.size 61 2 v' n (flatW L) → Below w.heap.size w w' → wpList Try.prog ops Q rest (a.put o.dst v') w') : wpList Try.prog ops Q (o :: rest) a (w.alloc (.cells #[] 61)) := by
  obtain ⟨i0, hi0, hy0, hy1, hy2⟩ := info_parts info66
  have fA : Below w.heap.size w (w.alloc (.cells #[] 61)) := (Below.refl _ _).alloc (Nat.le_refl _) _
  have hown : (w.alloc (.cells #[] 61)).ownsRow w.heap.size 61 2 (.slice (some ⟨w.heap.size, 0, none⟩) 0 0) 0 [] := World.ownsRow_made w #[] 0 (Nat.le_refl _) (by decide) (by simp)
  obtain ⟨ad', c', e, _, h2, h3, h4⟩ := src_wins hW (w := w.alloc (.cells #[] 61)) fA.block
  injection e with e1 _ e2
  subst e1 e2
  rw [hn] at h4
  refine wpList_append_own _ hgd s x 43 ho w.heap.size 61 i0 _ 2 16 Try.underlying43 hi0 hy0 hy1 hy2 rfl (by decide) _ 0 [] hs hown ad n c (flatW L) hx (by rw [flatW_len, hn]) (h2 ad rfl) h3 (by unfold maxLen; omega) (by omega) fA.size ?_
  intro v' w' h5 h6 _
  rw [Nat.zero_add] at h5
  exact h v' w' h5 (fA.grown h6 fA.size fun q hq => (hown.lt q hq).1)
set_option maxRecDepth 100000 in
set_option maxHeartbeats 3200000 in
theorem clone_any {w : World} {v : Value} {L : List Win} (h : WinsV w v L) : Calls Try.prog 54 #[v] w fun e w' => ∃ u, e = .returned u ∧ w'.ownsRow w.heap.size 61 2 u L.length (flatW L) ∧ Below w.heap.size w w' := by
  obtain ⟨a, c, rfl⟩ := h.shape
  have H := hide h
  obtain ⟨n, hn⟩ : ∃ n, L.length = n := ⟨_, rfl⟩
  have HN := hide hn
  clear h
  rw [hn]
  clear hn
  cases a with
  | none =>
    have hnil : ∀ W, (binOp .eql 43 (.slice none n c) (.slice none 0 0)).run Try.prog W = .ok (.bool true) W := fun W => by kernel_rfl
    have h0 : n = 0 := by
      obtain ⟨a, c, e, _, hA⟩ := H.out
      injection e with e1 _ _
      subst e1
      have := wins_none hA
      rw [← HN.out]
      exact this
    have hL : L = [] := List.length_eq_zero_iff.1 (HN.out.trans h0)
    subst h0
    go_enter Try.func54, Try.ntmps54
    go_wp2
    go_ret
    exact ⟨_, rfl, by subst hL; exact ⟨rfl, .inl ⟨rfl, rfl⟩⟩, Below.refl _ _⟩
  | some a =>
    have hnil : ∀ W, (binOp .eql 43 (.slice (some a) n c) (.slice none 0 0)).run Try.prog W = .ok (.bool false) W := fun W => by kernel_rfl
    go_enter Try.func54, Try.ntmps54
    go_wp2_with (at_builtin; refine app_clone (.tmp 5) (.tmp 6) rfl rfl rfl rfl H.out HN.out ?_; intro u1 w1 k1 k2; have K1 := hide k1; have K2 := hide k2; clear k1 k2)
    go_ret
    exact ⟨_, rfl, K1.out, K2.out⟩
end Go.Proofs.Ytgjpkpmikbpcnaa
