/-
  Several texts in one: CVrw CPts CPln0.
-/
import Derived.Test.YtndbikoccdjafaaBCPlBG
namespace Go.Proofs.Ytndbikoccdjafaa
open Go.RowKit
def encV (v : Vst) : List Value := [.int .i64 v.1,.int .i64 v.2]
def flatV (L : List Vst) : List Value := (L.map encV).flatten
theorem encV_len (L : List Vst) : ∀ l ∈ L.map encV,l.length = 2 := by
 intro l hl
 obtain ⟨t,_,rfl⟩ := List.mem_map.1 hl
 rfl
theorem flatV_len (L : List Vst) : (flatV L).length = L.length * 2 := by unfold flatV;rw [flat_len (encV_len L),List.length_map]
theorem flatV_get (L : List Vst) (i c : Nat) (t : Vst) (h : L[i]? = some t) (hc : c < 2) : (flatV L)[i * 2 + c]? = (encV t)[c]? := flat_get (encV_len L) i c _ (by simp [h]) hc
theorem flatV_app (A B : List Vst) : flatV A ++ flatV B = flatV (A ++ B) := by simp [flatV]
theorem flatV_one (L : List Vst) : ∀ u ∈ flatV L,u.oneCell' = true := by
 intro u hu
 unfold flatV at hu
 obtain ⟨l,hl,hu⟩ := List.mem_flatten.1 hu
 obtain ⟨t,_,rfl⟩ := List.mem_map.1 hl
 simp [encV] at hu
 rcases hu with rfl | rfl <;> rfl
def VRow (w : World) (base : Nat) (v : Value) (L : List Vst) : Prop := w.ownsRow base 43 2 v L.length (flatV L)
theorem VRow.later {w w' : World} {base B : Nat} {v : Value} {L : List Vst} (h : VRow w base v L) (hB : w.heap.size ≤ B) (f : Below B w w') : VRow w' base v L := own_later h hB f
theorem VRow.shape {w : World} {base : Nat} {v : Value} {L : List Vst} (h : VRow w base v L) : ∃ a c,v = .slice a L.length c ∧ (a = none → c = 0) := by
 rcases h.2 with ⟨e1,e2⟩ | ⟨g,cap,cur,e1,_⟩
 ·exact ⟨none,0,by rw [e1,e2],fun _ => rfl⟩
 ·exact ⟨_,cap,e1,fun e => by cases e⟩
theorem VRow.vs {w : World} {base : Nat} {v : Value} {L : List Vst} (h : VRow w base v L) (hb : L.length * 16 ≤ 140737488351232) : VsV w v L := by
 obtain ⟨a,c,rfl,_⟩ := h.shape
 refine ⟨a,c,rfl,hb,fun k hk => ?_⟩
 rcases h.2 with ⟨_,e2⟩ | ⟨g,cap,cur,e1,_⟩
 ·omega
 ·injection e1 with e1 _ e3
  subst e1 e3
  have hx : L[k]? = some L[k] := List.getElem?_eq_getElem hk
  have hd : L.getD k (0,0) = L[k] := by rw [List.getD_eq_getElem?_getD,hx];rfl
  refine ⟨g,0,rfl,?_,?_⟩
  ·have := World.ownsRow.cells (g := g) h rfl (k * 2) _ (by rw [show k * 2 = k * 2 + 0 by omega,flatV_get L k 0 _ hx (by decide)];rfl)
   rw [add0] at this
   rw [Nat.zero_add,this];simp only [hd]
  ·have := World.ownsRow.cells (g := g) h rfl (k * 2 + 1) _ (by rw [flatV_get L k 1 _ hx (by decide)];rfl)
   rw [add0] at this
   rw [Nat.zero_add,this];simp only [hd]
theorem vs_news {w : World} {b off m c : Nat} {V : List Vst} (h : VsV w (.slice (some ⟨b,off,none⟩) m c) V) : ∀ (j : Nat) u,(flatV V)[j]? = some u → w.cell? ((⟨b,off,none⟩ : Addr).add j) = some u := by
 intro j u hj
 have hl : j < V.length * 2 := by have := (List.getElem?_eq_some_iff.1 hj).1;rw [flatV_len] at this;exact this
 obtain ⟨q,c,rfl,hc⟩ : ∃ q c,j = q * 2 + c ∧ c < 2 := ⟨j / 2,j % 2,by omega,by omega⟩
 have hk : q < V.length := by omega
 have hx : V[q]? = some V[q] := List.getElem?_eq_getElem hk
 obtain ⟨b',off',e,_,c1,c2,_⟩ := vs_cells h hx
 injection e with e
 injection e with e1 e2 _
 subst e1 e2
 rw [addAt]
 rw [flatV_get V q c _ hx hc] at hj
 rcases (show c = 0 ∨ c = 1 by omega) with rfl | rfl
 ·rw [Nat.add_zero,c1];exact hj
 ·rw [← Nat.add_assoc,c2];exact hj
theorem app_vis {w : World} {base k m vc sc : Nat} {va sa : Option Addr} {L V : List Vst} {ops : Array Oper} {rest : List Oper} {o : Oper} {a : Act} {Q : Exit → Act → World → Prop} (s x : Operand) (hgd : o.guard = none)
  (ho : o.op = .call { callee := .builtin .append,args := #[s,x],argTypes := #[30,30] })
  (hs : a.eval s = .slice va k vc) (hx : a.eval x = .slice sa m sc) (hrow : VRow w base (.slice va k vc) L) (hk : L.length = k) (hV : VsV w (.slice sa m sc) V) (hm : V.length = m) (hz : sa = none → sc = 0) (hkm : k + m ≤ 1000) (hb : base ≤ w.heap.size)
  (h : ∀ va' cap' w',VRow w' base (.slice va' (k + m) cap') (L ++ V) → Below base w w' → w.grownBy w' (Value.ownBlock (.slice va k vc)) → wpList Try.prog ops Q rest (a.put o.dst (.slice va' (k + m) cap')) w') : wpList Try.prog ops Q (o :: rest) a w := by
 obtain ⟨i0,hi0,hy0,hy1,hy2⟩ := info_parts info34
 have hown : w.ownsRow base 43 2 (.slice va k vc) k (flatV L) := by have := hrow;unfold VRow at this;rw [hk] at this;exact this
 cases sa with
 | none =>
  have hm0 : m = 0 := by
   rcases Nat.eq_zero_or_pos m with e | e
   ·exact e
   ·obtain ⟨b,off,e',_⟩ := vs_cells hV (List.getElem?_eq_getElem (show 0 < V.length by omega))
    cases e'
  have hV0 : V = [] := List.eq_nil_of_length_eq_zero (by omega)
  subst hm0 hV0
  rw [hz rfl] at hx
  refine wpList_append_own_none hgd s x 30 ho base 43 i0 2 Try.underlying30 hi0 _ k _ hs hown hx ?_
  exact h va vc w (by rw [List.append_nil];exact hrow) (Below.refl _ _) ⟨rfl,rfl,rfl,Nat.le_refl _,fun _ _ _ => rfl⟩
 | some ad =>
  rcases Nat.eq_zero_or_pos m with e | e
  ·subst e
   have hV0 : V = [] := List.eq_nil_of_length_eq_zero hm
   subst hV0
   refine wpList_append_own w hgd s x 30 ho base 43 i0 _ 2 16 Try.underlying30 hi0 hy0 hy1 hy2 rfl (by decide) _ k _ hs hown ad 0 sc [] hx rfl (fun j u hj => by simp at hj) (fun u hu => by simp at hu) (by unfold maxLen;omega) (by omega) hb ?_
   intro v' w' h1 h2 _
   have hrow2 : VRow w' base v' (L ++ []) := by unfold VRow;rw [List.append_nil,hk];simpa using h1
   obtain ⟨a2,c2,e2,_⟩ := hrow2.shape
   rw [List.append_nil,hk] at e2
   subst e2
   exact h a2 c2 w' hrow2 ((Below.refl _ _).grown h2 hb fun q hq => (hown.lt q hq).1) h2
  ·obtain ⟨b,off,e',_⟩ := vs_cells hV (List.getElem?_eq_getElem (show 0 < V.length by omega))
   injection e' with e'
   subst e'
   refine wpList_append_own w hgd s x 30 ho base 43 i0 _ 2 16 Try.underlying30 hi0 hy0 hy1 hy2 rfl (by decide) _ k _ hs hown ⟨b,off,none⟩ m sc (flatV V) hx (by rw [flatV_len,hm]) (vs_news hV) (flatV_one V) (by unfold maxLen;omega) (by omega) hb ?_
   intro v' w' h1 h2 _
   rw [flatV_app] at h1
   have hrow2 : VRow w' base v' (L ++ V) := by unfold VRow;rw [List.length_append,hk,hm];exact h1
   obtain ⟨a2,c2,e2,_⟩ := hrow2.shape
   rw [List.length_append,hk,hm] at e2
   subst e2
   exact h a2 c2 w' hrow2 ((Below.refl _ _).grown h2 hb fun q hq => (hown.lt q hq).1) h2
end Go.Proofs.Ytndbikoccdjafaa
namespace Go.Proofs.Ytndbikoccdjafaa
open Go.RowKit
theorem one_vs {w : World} {B : Nat} {k i : Int} (h : w.heap[B]? = some (.cells #[.int .i64 k,.int .i64 i] 43)) : VsV w (.slice (some ⟨B,0,none⟩) 1 1) [(k,i)] := by
 refine ⟨some ⟨B,0,none⟩,1,rfl,by simp,fun q hq => ?_⟩
 have hq0 : q = 0 := by simp at hq;omega
 subst hq0
 exact ⟨B,0,rfl,cell_of_row _ _ _ _ _ _ h,cell_of_row _ _ _ _ _ _ h⟩
end Go.Proofs.Ytndbikoccdjafaa
namespace Go.Proofs.Ytndbikoccdjafaa
open Go.RowKit
def encS (s : StepT) (y : Value) : List Value := [.int .i64 s.kind,.int .i64 s.item,.int .i64 s.place,.int .i64 s.arr,.int .i64 s.wait,.int .i64 s.serv,y,.int .i64 s.time,.int .i64 s.dist]
def SatS (base : Nat) (w : World) (y : Value) (s : StepT) : Prop := IRow w base y s.load
theorem loc_steps (base : Nat) : Loc (SatS base) := fun _ _ _ _ h hb => own_of_block h hb
theorem info88 : (Try.prog.info? 45).map (fun i => (i.zero,i.size,i.bytes)) = some (some (.agg #[.int .i64 0,.int .i64 0,.int .i64 0,.int .i64 0,.int .i64 0,.int .i64 0,.slice none 0 0,.int .i64 0,.int .i64 0]),9,88) := by kernel_rfl
def StpR (w : World) (base b2 : Nat) (v : Value) (L : List StepT) (ys : List Value) : Prop := RowS 45 9 encS (SatS base) w b2 v L ys
def planC (vi : Int) (v : Value) (tm ds wt sv co : Int) : Array Value := #[.int .i64 vi,v,.int .i64 tm,.int .i64 ds,.int .i64 wt,.int .i64 sv,.int .i64 co]
structure PlnS (w3 : World) (base x6 : Nat) (vi : Int) (ys : List Value) (L : List StepT) (tm ds wt sv : Int) (q : Nat) (wr : World) : Prop where
 low : Below w3.heap.size w3 wr
 x6a : w3.heap.size ≤ x6
 len : L.length = q
 box : ∃ g gc,wr.heap[x6]? = some (.cells (planC vi (.slice (some ⟨g,0,none⟩) q gc) tm ds wt sv 0) 34 (0,0)) ∧ g ≠ x6 ∧ StpR wr base w3.heap.size (.slice (some ⟨g,0,none⟩) q gc) L ys
theorem below_grw {w w' : World} {r : Option Nat} (h : Below w.heap.size w w') : w.grownBy w' r := ⟨h.os,h.tape,h.output,h.size,fun k hk _ => h.block k hk⟩
theorem grw_trans {a b c : World} {r : Option Nat} (h : a.grownBy b r) (k : b.grownBy c r) : a.grownBy c r := ⟨k.os.trans h.os,k.tape.trans h.tape,k.output.trans h.output,Nat.le_trans h.size k.size,fun q hq hn => (k.block q (Nat.lt_of_lt_of_le hq h.size) hn).trans (h.block q hq hn)⟩
theorem row_set {w w' : World} {base b2 x6 : Nat} {v : Value} {L : List StepT} {ys : List Value} (h : StpR w base b2 v L ys) (hg : w.grownBy w' (some x6)) (hv : ∀ g,v.ownBlock = some g → g ≠ x6) (hy : ∀ y ∈ ys,∀ g,y.ownBlock = some g → g ≠ x6) : StpR w' base b2 v L ys :=
 RowS.of_block h (loc_steps base) hg.size (fun g hv' => hg.block g (World.ownsRow.lt h.own g hv').2 fun e => hv g hv' (by injection e)) (fun y hy' g hg' => hg.block g (RowS.inH h y hy' g hg') fun e => hy y hy' g hg' (by injection e))
theorem plns_next {w3 wA : World} {base x6 q g3 cp3 : Nat} {vi tm ds wt sv : Int} {v0 : Value} {ys : List Value} {L : List StepT} (low : Below w3.heap.size w3 wA) (x6a : w3.heap.size ≤ x6) (len : L.length = q) (hbox : wA.heap[x6]? = some (.cells (planC vi v0 tm ds wt sv 0) 34 (0,0))) (hrow : StpR wA base w3.heap.size (.slice (some ⟨g3,0,none⟩) q cp3) L ys) (hg3 : g3 ≠ x6) (hy : ∀ y ∈ ys,∀ g,y.ownBlock = some g → g ≠ x6) : PlnS w3 base x6 vi ys L tm ds wt sv q (wA.setCell ⟨x6,1,none⟩ (.slice (some ⟨g3,0,none⟩) q cp3)) := by
 have hg : wA.grownBy (wA.setCell ⟨x6,1,none⟩ (.slice (some ⟨g3,0,none⟩) q cp3)) (some x6) := grw_set (grw_refl _ _) _ _
 exact ⟨low.trans (grw_low hg x6a low.size),x6a,len,g3,cp3,heap_setCell_same wA x6 1 _ _ _ hbox,hg3,row_set hrow hg (fun g h9 => by rw [← own_blk h9];exact hg3) hy⟩
theorem range_step {α : Type} (f : Nat → α) (q : Nat) : (List.range (q + 1)).map f = (List.range q).map f ++ [f q] := by rw [List.range_succ,List.map_append];rfl
theorem take_step {ys : List Value} {q : Nat} {y : Value} (h : ys[q]? = some y) : ys.take (q + 1) = ys.take q ++ [y] := by
 obtain ⟨hk,e⟩ := List.getElem?_eq_some_iff.1 h
 rw [List.take_succ_eq_append_getElem hk,e]
theorem PlnS.lt {w3 wr : World} {base x6 q : Nat} {vi tm ds wt sv : Int} {ys : List Value} {L : List StepT} (h : PlnS w3 base x6 vi ys L tm ds wt sv q wr) : x6 < wr.heap.size := by
 obtain ⟨g,gc,hb,_⟩ := h.box
 exact lt_of_block hb
theorem PlnS.on {w3 wr w' : World} {base x6 q : Nat} {vi tm ds wt sv : Int} {ys : List Value} {L : List StepT} (h : PlnS w3 base x6 vi ys L tm ds wt sv q wr) (f : Below wr.heap.size wr w') : PlnS w3 base x6 vi ys L tm ds wt sv q w' := by
 obtain ⟨g,gc,hb,hn,hr⟩ := h.box
 exact ⟨h.low.trans (f.mono h.low.size),h.x6a,h.len,g,gc,(f.block x6 (lt_of_block hb)).trans hb,hn,RowS.on hr (loc_steps base) f⟩
theorem StpR.mono {w : World} {base b2 base' b2' : Nat} {v : Value} {L : List StepT} {ys : List Value} (h : StpR w base b2 v L ys) (h1 : base' ≤ base) (h2 : b2' ≤ b2) : StpR w base' b2' v L ys := ⟨h.len,own_mono h.own h2,fun k x y hx hy => ⟨IRow.mono (h.sat k x y hx hy).1 h1,(h.sat k x y hx hy).2⟩⟩
theorem mul_bd {t c : Int} (h1 : -110 ≤ t) (h2 : t ≤ 3520000000) (h3 : 0 ≤ c) (h4 : c ≤ 1000000) : -110000000 ≤ t * c ∧ t * c ≤ 3520000000000000 := by
 have a1 := Int.mul_le_mul_of_nonneg_right h2 h3
 have a2 := Int.mul_le_mul_of_nonneg_right h1 h3
 omega
theorem step_plan {Z X : World} {base b2 g q gc : Nat} {la : Option Addr} {ln lcp : Nat} {L : List StepT} {ys : List Value} {st : StepT} {cells : Array Value} {ops : Array Oper} {o : Oper} {a : Act} {K : Act → World → Prop} {Q : Exit → Act → World → Prop} {E : Prop} (s xo : Operand) (hgd : o.guard = none)
  (ho : o.op = .call { callee := .builtin .append,args := #[s,xo],argTypes := #[32,32] }) (hs : a.eval s = .slice (some ⟨g,0,none⟩) q gc) (hx : a.eval xo = .slice (some ⟨Z.heap.size,0,none⟩) 1 1)
  (BZ : Below Z.heap.size Z X) (hblk : X.heap[Z.heap.size]? = some (.cells cells 45)) (hcs : cells.toList = encS st (.slice la ln lcp)) (hrow : StpR Z base b2 (.slice (some ⟨g,0,none⟩) q gc) L ys) (hlen : L.length = q) (hq : q ≤ 200) (hb : b2 ≤ Z.heap.size) (hu : IRow Z base (.slice la ln lcp) st.load) (hap : Apt (.slice (some ⟨g,0,none⟩) q gc) (.slice la ln lcp))
  (h : ∀ g3 cp3 wA,StpR wA base b2 (.slice (some ⟨g3,0,none⟩) (q + 1) cp3) (L ++ [st]) (ys ++ [.slice la ln lcp]) → (∀ b,b < Z.heap.size → b ≠ g → wA.heap[b]? = Z.heap[b]?) → (g3 = g ∨ Z.heap.size ≤ g3) → Below b2 Z wA → K (a.put o.dst (.slice (some ⟨g3,0,none⟩) (q + 1) cp3)) wA) : if Region.wanted o (yielded ops a.tmps) = true then Oper.wp Try.prog o a X K Q else E := by
 refine step_app_row (e := 45) (z := 9) (t := 32) (enc := encS) (Sat := SatS base) (fun _ _ => rfl) (by decide) (loc_steps _) info88 rfl Try.underlying32 s xo hgd ho hs hx hblk (RowS.on hrow (loc_steps _) BZ) hlen (by omega) (by omega) (Nat.le_trans hb BZ.size) hcs (by intro u hu;simp [encS] at hu;rcases hu with rfl | rfl | rfl | rfl | rfl | rfl | rfl | rfl | rfl <;> rfl) (hu.later (Nat.le_refl _) BZ) (InH.on (irow_in hu) BZ) hap ?_
 intro g3 cp3 wA r1 r2 r3
 refine h g3 cp3 wA r1 (fun b hb hn => (r2.block b (Nat.lt_of_lt_of_le hb BZ.size) fun e => hn (by injection e)).trans (BZ.block b hb)) ?_ ((BZ.mono hb).grown r2 (Nat.le_trans hb BZ.size) fun q' h9 => (World.ownsRow.lt hrow.own q' h9).1)
 rcases r3 with e | ⟨e,_⟩
 ·have e : some g3 = some g := e
  injection e with e
  exact .inl e
 ·exact .inr (by rw [e];exact BZ.size)
end Go.Proofs.Ytndbikoccdjafaa
