/-
  Several texts in one: CCpD CCln.
-/
import Derived.Test.YtndbikoccdjafaaBCCpBG
namespace Go.Proofs.Ytndbikoccdjafaa
open Go.RowKit
def Src (w : World) (v : Value) (m : Nat) (xs : List Value) (y : Nat) : Prop :=
 ∃ ad c,v = .slice ad m c ∧ (ad = none → c = 0 ∧ m = 0) ∧ (∀ q,ad = some q → ∀ j u,xs[j]? = some u → w.cell? (q.add j) = some u) ∧ (∀ u ∈ xs,u.oneCell' = true) ∧ m * y ≤ 140737488351232
theorem cell_low {w w0 : World} (h : ∀ b,b < w0.heap.size → w.heap[b]? = w0.heap[b]?) {b o : Nat} {u : Value} (hc : w0.cell? ⟨b,o,none⟩ = some u) : w.cell? ⟨b,o,none⟩ = some u := by
 rw [World.cell?_of_block (a := ⟨b,o,none⟩) (h b (block_lt_of_cell hc))]
 exact hc
theorem src_ints {w0 : World} {v : Value} {L : List Int} (h : IntsV w0 v L) {w : World} (hl : ∀ b,b < w0.heap.size → w.heap[b]? = w0.heap[b]?) : Src w v L.length (intsV L) 8 := by
 obtain ⟨a,c,e,hc,hb,hA⟩ := h
 refine ⟨a,c,e,fun ha => ⟨hc ha,?_⟩,fun q hq j u hu => ?_,intsV_one L,hb⟩
 ·rw [ha] at hA;rw [intsAt_none hA];rfl
 ·have hj : j < L.length := by have := (List.getElem?_eq_some_iff.1 hu).1;rw [intsV_len] at this;exact this
  obtain ⟨b,off,e2,h1⟩ := hA j hj
  rw [hq] at e2
  cases e2
  rw [intsV_get L j hj] at hu
  cases hu
  rw [addAt]
  exact cell_low hl h1
theorem src_wins {w0 : World} {v : Value} {L : List Win} (h : WinsV w0 v L) {w : World} (hl : ∀ b,b < w0.heap.size → w.heap[b]? = w0.heap[b]?) : Src w v L.length (flatW L) 16 := by
 obtain ⟨a,c,e,hc,hA⟩ := h
 refine ⟨a,c,e,fun ha => ⟨hc ha,?_⟩,fun q hq j u hu => ?_,flatW_one L,hA.max⟩
 ·rw [ha] at hA;exact wins_none hA
 ·have hj : j < L.length * 2 := by have := (List.getElem?_eq_some_iff.1 hu).1;rw [flatW_len] at this;exact this
  have hk : j / 2 < L.length := by omega
  obtain ⟨b,off,e2,h0,h1⟩ := hA.cell (j / 2) hk
  rw [hq] at e2
  cases e2
  have hg : L[j / 2]? = some L[j / 2]! := by rw [getElem!_pos L (j / 2) hk];exact List.getElem?_eq_getElem hk
  have hf := flatW_get L (j / 2) (j % 2) _ hg (by omega)
  rw [show j / 2 * 2 + j % 2 = j by omega,hu] at hf
  rw [addAt]
  have : j % 2 = 0 ∨ j % 2 = 1 := by omega
  rcases this with e | e
  ·rw [e] at hf
   cases hf
   rw [show off + j = off + j / 2 * 2 by omega]
   exact cell_low hl h0
  ·rw [e] at hf
   cases hf
   rw [show off + j = off + j / 2 * 2 + 1 by omega]
   exact cell_low hl h1
theorem src_rows {α : Type} {z y : Nat} {zero : α} {V : World → List Value → α → Prop} {w0 : World} {v : Value} {L : List α} (h : SlV z y zero V w0 v L) (hz : 0 < z) (hone : ∀ l a,V w0 l a → ∀ u ∈ l,u.oneCell' = true) :
  ∃ R : List (List Value),R.length = L.length ∧ (∀ (k : Nat) (a : α),L[k]? = some a → ∃ l,R[k]? = some l ∧ l.length = z ∧ (∀ u ∈ l,u.oneCell' = true) ∧ V w0 l a) ∧ ∀ w : World,(∀ b,b < w0.heap.size → w.heap[b]? = w0.heap[b]?) → Src w v L.length R.flatten y := by
 obtain ⟨a,c,e,hc,hb,hA⟩ := h
 have hch : ∃ F : Nat → List Value,∀ k,k < L.length → ∃ b off,a = some ⟨b,off,none⟩ ∧ (F k).length = z ∧ (∀ j,j < z → w0.cell? ⟨b,off + k * z + j,none⟩ = (F k)[j]?) ∧ V w0 (F k) (L.getD k zero) :=
  ⟨fun k => if h : k < L.length then (hA k h).choose_spec.choose_spec.choose else [],fun k hk => by
   simp only [dif_pos hk]
   exact ⟨_,_,(hA k hk).choose_spec.choose_spec.choose_spec⟩⟩
 obtain ⟨F,hF⟩ := hch
 have hget : ∀ k,k < L.length → ((List.range L.length).map F)[k]? = some (F k) := fun k hk => by rw [List.getElem?_map,List.getElem?_range hk];rfl
 have hlen : ∀ l ∈ (List.range L.length).map F,l.length = z := fun l hl => by
  obtain ⟨k,hk,rfl⟩ := List.mem_map.1 hl
  obtain ⟨_,_,_,h2,_⟩ := hF k (List.mem_range.1 hk)
  exact h2
 have hone' : ∀ k,k < L.length → ∀ u ∈ F k,u.oneCell' = true := fun k hk => by
  obtain ⟨_,_,_,_,_,h4⟩ := hF k hk
  exact hone _ _ h4
 refine ⟨(List.range L.length).map F,by simp,fun k x hx => ?_,fun w hl => ⟨a,c,e,fun ha => ⟨hc ha,?_⟩,fun q hq j u hu => ?_,fun u hu => ?_,hb⟩⟩
 ·have hk := (List.getElem?_eq_some_iff.1 hx).1
  obtain ⟨_,_,_,h2,_,h4⟩ := hF k hk
  refine ⟨F k,hget k hk,h2,hone' k hk,?_⟩
  rw [List.getD_eq_getElem?_getD,hx] at h4
  exact h4
 ·rcases Nat.eq_zero_or_pos L.length with h | h
  ·exact h
  ·obtain ⟨_,_,e2,_⟩ := hF 0 h
   rw [ha] at e2
   cases e2
 ·have hj : j < L.length * z := by
   have := (List.getElem?_eq_some_iff.1 hu).1
   rw [flat_len hlen,List.length_map,List.length_range] at this
   exact this
  have hk : j / z < L.length := (Nat.div_lt_iff_lt_mul hz).2 hj
  have hm := Nat.mod_lt j hz
  obtain ⟨b,off,e2,h2,h3,_⟩ := hF (j / z) hk
  rw [hq] at e2
  cases e2
  have e4 : j / z * z + j % z = j := by rw [Nat.mul_comm];exact Nat.div_add_mod j z
  have hf := flat_get hlen (j / z) (j % z) _ (hget _ hk) hm
  rw [e4,hu] at hf
  have h5 := h3 (j % z) hm
  rw [← hf] at h5
  rw [addAt,show off + j = off + j / z * z + j % z by omega]
  exact cell_low hl h5
 ·obtain ⟨l,hl1,hl2⟩ := List.mem_flatten.1 hu
  obtain ⟨k,hk,rfl⟩ := List.mem_map.1 hl1
  exact hone' k (List.mem_range.1 hk) u hl2
theorem ints_one {w : World} {v : Value} {L : List Int} (h : IntsV w v L) : v.oneCell' = true := by obtain ⟨a,c,rfl⟩ := h.shape;rfl
theorem wins_one {w : World} {v : Value} {L : List Win} (h : WinsV w v L) : v.oneCell' = true := by obtain ⟨a,c,rfl⟩ := h.shape;rfl
theorem sl_one {α : Type} {z y : Nat} {zero : α} {V : World → List Value → α → Prop} {w : World} {v : Value} {L : List α} (h : SlV z y zero V w v L) : v.oneCell' = true := by obtain ⟨a,c,rfl⟩ := SlV.shape h;rfl
theorem veh_one {w : World} {l : List Value} {v : Veh} (h : VehV w l v) : ∀ u ∈ l,u.oneCell' = true := by
 obtain ⟨xc,xb,rfl,h1,h2,_⟩ := h
 intro u hu
 simp [vehE] at hu
 rcases hu with rfl | rfl | rfl | rfl | rfl | rfl | rfl | rfl | rfl | rfl | rfl <;> first | rfl | exact ints_one h1 | exact sl_one h2
theorem job_one {w : World} {l : List Value} {v : Jb} (h : JobV w l v) : ∀ u ∈ l,u.oneCell' = true := by
 obtain ⟨xw,xd,xp,rfl,h1,h2,h3,_⟩ := h
 intro u hu
 simp [jobE] at hu
 rcases hu with rfl | rfl | rfl | rfl | rfl | rfl | rfl <;> first | rfl | exact wins_one h1 | exact ints_one h2 | exact ints_one h3
theorem shp_one {w : World} {l : List Value} {v : Shp} (h : ShpV w l v) : ∀ u ∈ l,u.oneCell' = true := by
 obtain ⟨xw,xd,xp,rfl,h1,h2,h3,_⟩ := h
 intro u hu
 simp [shpE] at hu
 rcases hu with rfl | rfl | rfl | rfl | rfl | rfl | rfl | rfl | rfl <;> first | rfl | exact wins_one h1 | exact wins_one h2 | exact ints_one h3
theorem brk_one {w : World} {l : List Value} {v : Brk} (h : BrkV w l v) : ∀ u ∈ l,u.oneCell' = true := by
 obtain ⟨x,rfl,h1⟩ := h
 intro u hu
 simp at hu
 rcases hu with rfl | rfl <;> first | rfl | exact wins_one h1
theorem run_src {t T z y : Nat} {i0 : TypeInfo} {zv : Value} (ht : Try.prog.underlying t = some (.slice T)) (hi : Try.prog.info? T = some i0) (hz : i0.zero = some zv) (hsz : i0.size = z) (hby : i0.bytes = y) (hzs : zv.cells.size = z) (hz0 : 0 < z) (hy0 : 0 < y)
  {o : Oper} {s x : Operand} (ho : o.op = .call { callee := .builtin .append,args := #[s,x],argTypes := #[t,t] }) {ev : Operand → Value} {w : World} {B : Nat} {v vs : Value} (hown : w.ownsRow B T z v 0 []) (hs : ev s = v)
  (hx : ev x = vs) {m : Nat} {xs : List Value} (hl : xs.length = m * z) (hsrc : Src w vs m xs y) (hB : B ≤ w.heap.size) :
  ∃ v' w',(execOp ev o).run Try.prog w = .ok (.value v') w' ∧ w'.ownsRow B T z v' m xs ∧ w.grownBy w' v.ownBlock ∧ (v'.ownBlock = v.ownBlock ∨ v'.ownBlock = some w.heap.size) := by
 obtain ⟨ad,c,e,h1,h2,h3,h4⟩ := hsrc
 have hm : m ≤ m * y := Nat.le_mul_of_pos_right m hy0
 exact run_app ht hi hz hsz hby hzs hz0 ho hown hs (hx.trans e) h1 hl h2 h3 (by unfold maxLen;omega) h4 hB
end Go.Proofs.Ytndbikoccdjafaa
namespace Go.Proofs.Ytndbikoccdjafaa
open Go.RowKit
theorem app_clone {w : World} {L : List Win} {n c : Nat} {ad : Addr} {ops : Array Oper} {rest : List Oper} {o : Oper} {a : Act} {Q : Exit → Act → World → Prop} (s x : Operand)
  (hgd : o.guard = none) (ho : o.op = .call { callee := .builtin .append,args := #[s,x],argTypes := #[84,84] })
  (hs : a.eval s = .slice (some ⟨w.heap.size,0,none⟩) 0 0) (hx : a.eval x = .slice (some ad) n c) (hW : WinsV w (.slice (some ad) L.length c) L) (hn : L.length = n)
  (h : ∀ v' w',w'.ownsRow w.heap.size 54 2 v' n (flatW L) → Below w.heap.size w w' → wpList Try.prog ops Q rest (a.put o.dst v') w') : wpList Try.prog ops Q (o :: rest) a (w.alloc (.cells #[] 54)) := by
 obtain ⟨i0,hi0,hy0,hy1,hy2⟩ := info_parts info66
 have fA : Below w.heap.size w (w.alloc (.cells #[] 54)) := (Below.refl _ _).alloc (Nat.le_refl _) _
 have hown : (w.alloc (.cells #[] 54)).ownsRow w.heap.size 54 2 (.slice (some ⟨w.heap.size,0,none⟩) 0 0) 0 [] := World.ownsRow_made w #[] 0 (Nat.le_refl _) (by decide) (by simp)
 obtain ⟨ad',c',e,_,h2,h3,h4⟩ := src_wins hW (w := w.alloc (.cells #[] 54)) fA.block
 injection e with e1 _ e2
 subst e1 e2
 rw [hn] at h4
 refine wpList_append_own _ hgd s x 84 ho w.heap.size 54 i0 _ 2 16 Try.underlying84 hi0 hy0 hy1 hy2 rfl (by decide) _ 0 [] hs hown ad n c (flatW L) hx (by rw [flatW_len,hn]) (h2 ad rfl) h3 (by unfold maxLen;omega) (by omega) fA.size ?_
 intro v' w' h5 h6 _
 rw [Nat.zero_add] at h5
 exact h v' w' h5 (fA.grown h6 fA.size fun q hq => (hown.lt q hq).1)
set_option maxRecDepth 100000 in
set_option maxHeartbeats 3200000 in
theorem clone_any {w : World} {v : Value} {L : List Win} (h : WinsV w v L) : Calls Try.prog 114 #[v] w fun e w' => ∃ u,e = .returned u ∧ w'.ownsRow w.heap.size 54 2 u L.length (flatW L) ∧ Below w.heap.size w w' := by
 obtain ⟨a,c,rfl⟩ := h.shape
 have H := hide h
 obtain ⟨n,hn⟩ : ∃ n,L.length = n := ⟨_,rfl⟩
 have HN := hide hn
 clear h
 rw [hn]
 clear hn
 cases a with
 | none =>
  have hnil : ∀ W,(binOp .eql 84 (.slice none n c) (.slice none 0 0)).run Try.prog W = .ok (.bool true) W := fun W => by kernel_rfl
  have h0 : n = 0 := by
   obtain ⟨a,c,e,_,hA⟩ := H.out
   injection e with e1 _ _
   subst e1
   have := wins_none hA
   rw [← HN.out]
   exact this
  have hL : L = [] := List.length_eq_zero_iff.1 (HN.out.trans h0)
  subst h0
  go_enter Try.func114,Try.ntmps114
  go_wp2
  go_ret
  exact ⟨_,rfl,by subst hL;exact ⟨rfl,.inl ⟨rfl,rfl⟩⟩,Below.refl _ _⟩
 | some a =>
  have hnil : ∀ W,(binOp .eql 84 (.slice (some a) n c) (.slice none 0 0)).run Try.prog W = .ok (.bool false) W := fun W => by kernel_rfl
  go_enter Try.func114,Try.ntmps114
  go_wp2_with (at_builtin;refine app_clone (.tmp 5) (.tmp 6) rfl rfl rfl rfl H.out HN.out ?_;intro u1 w1 k1 k2;have K1 := hide k1;have K2 := hide k2;clear k1 k2)
  go_ret
  exact ⟨_,rfl,K1.out,K2.out⟩
end Go.Proofs.Ytndbikoccdjafaa
