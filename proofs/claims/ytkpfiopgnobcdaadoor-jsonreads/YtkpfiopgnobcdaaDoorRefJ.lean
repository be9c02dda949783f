/-
  The document's reader of JSON: a value is put.
-/
import Derived.Test.YtkpfiopgnobcdaaDoorRefH
namespace Go.Proofs.YtkpfiopgnobcdaaDoor
open Go.RowKit

theorem own_keptG {R : Nat} {o : Option Nat} {w w' : World} {base : Nat} {e tR : TypeId} {size : Nat} {v : Value} {n : Nat} {xs : List Value} (h : w.ownsRow base e size v n xs) (he : e ≠ tR) (he2 : e ≠ 42)
    (f : Fr R o w w') (hR : TyOf w R tR) (ho : ∀ g, o = some g → TyOf w g 42) : w'.ownsRow base e size v n xs := by
  refine own_fr h f fun g hg => ?_
  rcases h.2 with ⟨rfl, _⟩ | ⟨g', cap, cur, rfl, _, hh, _⟩
  · simp [Value.ownBlock] at hg
  · simp only [Value.ownBlock, Option.some.injEq] at hg
    subst hg
    refine ⟨?_, ?_⟩
    · rintro rfl
      obtain ⟨c, f, hc⟩ := hR
      rw [hh] at hc
      simp at hc
      exact he hc.2.1
    · rintro rfl
      obtain ⟨c, f, hc⟩ := ho _ rfl
      rw [hh] at hc
      simp at hc
      exact he2 hc.2.1
theorem VOwn.keptR {R : Nat} {o : Option Nat} {w w' : World} {x : V} {nv kv : Value} (h : VOwn w x nv kv) (f : Fr R o w w') (hR : TyOf w R 45) (ho : ∀ g, o = some g → TyOf w g 42) : VOwn w' x nv kv :=
  ⟨own_keptG h.names (by decide) (by decide) f hR ho, own_keptG h.kids (by decide) (by decide) f hR ho⟩
theorem Reps.keptR {R : Nat} {o : Option Nat} {w w' : World} (f : Fr R o w w') (hR : TyOf w R 45) (ho : ∀ g, o = some g → TyOf w g 42) : ∀ {T : List V} {cs : List Value}, Reps w cs T → Reps w' cs T
  | [], cs, h => h
  | y :: T, cs, h => by
    obtain ⟨n1, k1, rest, rfl, hy, hr⟩ := h
    exact ⟨n1, k1, rest, rfl, hy.keptR f hR ho, Reps.keptR f hR ho hr⟩

/-- The document's reader at a place, with the values that have ended. -/
structure RSt (B : List UInt8) (R cap : Nat) (ta : Option Addr) (w0 w : World) (a b p : Nat) (v : Value) (T : List V) (cs : List Value) : Prop where
  sc : RSc B R cap ta w0 w a b p v
  own : w.ownsRow (R + 1) 42 6 v T.length cs
  reps : Reps w cs T
  le : T.length ≤ 8192
section
variable {B : List UInt8} {R cap : Nat} {ta : Option Addr} {w0 w w' : World} {a b p : Nat} {v : Value} {T : List V} {cs : List Value}
theorem RSc.go (h : RSc B R cap ta w0 w a b p v) {o : Option Nat} (f : Fr R o w w') (ho : ∀ g, o = some g → R < g) {a' b' p' : Nat} {v' : Value} (hr : RdR w' R (.slice ta B.length cap) a' b' p' v') (ha : a' ≤ 70000) : RSc B R cap ta w0 w' a' b' p' v' :=
  ⟨h.below.trans (f.below (Nat.le_of_lt h.rd.lt) ho), hr, ha⟩
theorem RSt.tyR (h : RSt B R cap ta w0 w a b p v T cs) : TyOf w R 45 := ⟨_, _, h.sc.rd⟩
theorem RSt.tyO (h : RSt B R cap ta w0 w a b p v T cs) : ∀ g, v.ownBlock = some g → TyOf w g 42 := by
  intro g hg
  have ho := h.own
  rcases ho.2 with ⟨rfl, _⟩ | ⟨g', cp, cur, rfl, _, hh, _⟩
  · simp [Value.ownBlock] at hg
  · simp only [Value.ownBlock, Option.some.injEq] at hg
    subst hg
    exact ⟨_, _, hh⟩
theorem RSt.shape (h : RSt B R cap ta w0 w a b p v T cs) : ∃ ya tc, v = .slice ya T.length tc := by
  have ho := h.own
  rcases ho.2 with ⟨rfl, h0⟩ | ⟨g', cp, cur, rfl, _⟩
  · exact ⟨none, 0, by rw [h0]⟩
  · exact ⟨_, _, rfl⟩
theorem RSt.ownGt (h : RSt B R cap ta w0 w a b p v T cs) : ∀ g, v.ownBlock = some g → R < g := by
  intro g hg
  have ho := h.own
  exact (ho.lt g hg).1
theorem RSt.ownLt (h : RSt B R cap ta w0 w a b p v T cs) : ∀ g, v.ownBlock = some g → g < w.heap.size := by
  intro g hg
  have ho := h.own
  exact (ho.lt g hg).2
/-- What a scanning call leaves. -/
theorem RSt.scan (h : RSt B R cap ta w0 w a b p v T cs) {a' b' p' : Nat} (f : Fr R none w w') (hs : RSc B R cap ta w0 w' a' b' p' v) : RSt B R cap ta w0 w' a' b' p' v T cs := by
  refine ⟨hs, own_fr h.own f (fun g hg => ⟨?_, by simp⟩), h.reps.keptR f h.tyR (by simp), h.le⟩
  have := h.ownGt g hg; omega
/-- A value is put. -/
theorem RSt.put {W w3 : World} {x : V} {nv kv v3 : Value} (h : RSt B R cap ta w0 w a b p v T cs) (hT : T.length < 8192) (hvo : VOwn w x nv kv)
    (hf : Fr R none w W) (hs : RSc B R cap ta w0 W a b p v) (hown : w3.ownsRow (R + 1) 42 6 v3 (T.length + 1) (cs ++ aggL x nv kv)) (hg : W.grownBy w3 v.ownBlock) (hm : Moved W.heap.size v.ownBlock v3.ownBlock) :
    RSt B R cap ta w0 (w3.setCell ⟨R, 4, none⟩ v3) a b p v3 (T ++ [x]) (cs ++ aggL x nv kv) ∧ Fr R v.ownBlock w (w3.setCell ⟨R, 4, none⟩ v3) ∧ Moved w.heap.size v.ownBlock v3.ownBlock := by
  have hv3 : ∀ g, v3.ownBlock = some g → R < g := fun g e => (hown.lt g e).1
  have f3 : Fr R v.ownBlock w (w3.setCell ⟨R, 4, none⟩ v3) := (hf.weak.trans0 (fr_grown hg)).setR _ _
  have hrd : RdR (w3.setCell ⟨R, 4, none⟩ v3) R (.slice ta B.length cap) a b p v3 := (hs.rd.grown hg (fun e => by have := h.ownGt R e; omega)).set4 v3
  refine ⟨⟨h.sc.go f3 h.ownGt hrd h.sc.at_le, ?_, (h.reps.keptR f3 h.tyR h.tyO).snoc (hvo.keptR f3 h.tyR h.tyO), by simp; omega⟩, f3, hm.imp id (fun ⟨g, e, hg⟩ => ⟨g, e, Nat.le_trans hf.size hg⟩)⟩
  rw [List.length_append]
  exact ownsRow_setCell_other hown (fun e => by have := hv3 _ e; simp at this) v3

/-- Behind a fault nothing is put. -/
theorem put_bad (h : RSc B R cap ta w0 w a b p v) (hb : b ≠ 0) (x : V) (na ka : Option Addr) (nc kc : Nat) (q : Int) :
    Calls Tryd.prog 25 #[.pointer (some ⟨R, 0, none⟩), aggV x na nc ka kc, .int .i64 q] w fun e w' => e = .returned (.int .i64 0) ∧ RSc B R cap ta w0 w' a b p v ∧ Fr R none w w' := by
  simp only [aggV]
  have c2 : ∀ o, (w.alloc o).cell? ⟨R, 2, none⟩ = some (.int .i64 b) := fun o => (h.rd.alloc o).c2
  have hb1 : ((b : Int) == 0) = false := by simp; omega
  have hb2 : ((b : Int) != 0) = true := by simp; omega
  go_enter Tryd.func25, Tryd.ntmps25
  go_wp2
  go_ret
  exact ⟨rfl, h.alloc _, (Fr.refl _ _ _).alloc _⟩
/-- A tree that is full. -/
theorem put_full (h : RSt B R cap ta w0 w a 0 p v T cs) (hT : T.length = 8192) (x : V) (na ka : Option Addr) (nc kc : Nat) (q : Nat) :
    Calls Tryd.prog 25 #[.pointer (some ⟨R, 0, none⟩), aggV x na nc ka kc, .int .i64 q] w fun e w' => e = .returned (.int .i64 0) ∧ RSc B R cap ta w0 w' a 27 q v ∧ Fr R none w w' := by
  simp only [aggV]
  obtain ⟨ya, tc, rfl⟩ := h.shape
  have c2 : ∀ o, (w.alloc o).cell? ⟨R, 2, none⟩ = some (.int .i64 0) := fun o => (h.sc.rd.alloc o).c2
  have c4 : ∀ o, (w.alloc o).cell? ⟨R, 4, none⟩ = some (.slice ya T.length tc) := fun o => (h.sc.rd.alloc o).c4
  have h8 : ¬ (T.length : Int) < 8192 := by omega
  have h8' : (8192 : Int) ≤ (T.length : Int) := by omega
  have HS : Hid (∀ o, RSc B R cap ta w0 (w.alloc o) a 0 p (.slice ya T.length tc)) := fun o => h.sc.alloc o
  clear hT h
  go_enter Tryd.func25, Tryd.ntmps25
  go_wp2_with (go_at_call 18; refine (no_good (HS.out _) q 27).mono ?_; rintro e w2 ⟨rfl, hs2, hf2⟩; have d2 := hs2.rd.c2)
  go_ret
  exact ⟨rfl, hs2, ((Fr.refl _ _ _).alloc _).trans0 hf2⟩

set_option maxRecDepth 100000 in
set_option maxHeartbeats 1600000 in
/-- A value is put. -/
theorem put_good (h : RSt B R cap ta w0 w a 0 p v T cs) (hT : T.length < 8192) (x : V) (na ka : Option Addr) (nc kc : Nat) (q : Nat) (hvo : VOwn w x (.slice na x.names.length nc) (.slice ka x.kids.length kc)) :
    Calls Tryd.prog 25 #[.pointer (some ⟨R, 0, none⟩), aggV x na nc ka kc, .int .i64 q] w fun e w' => ∃ v', e = .returned (natv T.length) ∧ RSt B R cap ta w0 w' a 0 p v' (T ++ [x]) (cs ++ aggL x (.slice na x.names.length nc) (.slice ka x.kids.length kc)) ∧ Fr R v.ownBlock w w' ∧ Moved w.heap.size v.ownBlock v'.ownBlock := by
  simp only [aggV]
  obtain ⟨ya, tc, rfl⟩ := h.shape
  have c2 : ∀ o, (w.alloc o).cell? ⟨R, 2, none⟩ = some (.int .i64 0) := fun o => (h.sc.rd.alloc o).c2
  have c4 : ∀ o, (w.alloc o).cell? ⟨R, 4, none⟩ = some (.slice ya T.length tc) := fun o => (h.sc.rd.alloc o).c4
  have h8 : (T.length : Int) < 8192 := by omega
  have h8' : ¬ (8192 : Int) ≤ (T.length : Int) := by omega
  go_enter Tryd.func25, Tryd.ntmps25
  go_wp2
  have hown := h.own
  have c4b : ∀ o o', ((w.alloc o).alloc o').cell? ⟨R, 4, none⟩ = some (.slice ya T.length tc) := fun o o' => ((h.sc.rd.alloc o).alloc o').c4
  obtain ⟨i0, hi, hz0, hz1, hz2⟩ := info_parts info42
  go_region_law (refine step_append rfl (.tmp 32) (.tmp 34) 25 rfl (R + 1) 42 i0 zeroV 6 88 Tryd.underlying25 hi hz0 hz1 hz2 rfl (by decide) _ T.length cs rfl (((hown.alloc _).drew).alloc _) _ 1 1 (aggL x (.slice na x.names.length nc) (.slice ka x.kids.length kc)) rfl rfl (cells_new _ (aggL x (.slice na x.names.length nc) (.slice ka x.kids.length kc)) 42 _ (by simp)) (aggL_one _ _ _ _ _ _ _) (by unfold maxLen; omega) (by omega) (by simp; have := h.sc.rd.lt; omega) ?_; intro v3 w3 hown3 hg3 hm3; have hP := h.put hT hvo ((((Fr.refl R none w).alloc _).alloc _).drewN 1) (((h.sc.alloc _).alloc _).drewN 1) hown3 hg3 hm3; have hrd3 := RdR.grown (((h.sc.rd.alloc _).alloc _).drewN 1) hg3 (fun e => by have := h.ownGt R e; omega); have c4' := hrd3.c4; have f4' := hrd3.f 4; rcases hown3.2 with ⟨_, h0⟩ | ⟨g3, cp3, cur3, rfl, hrest⟩; exact absurd h0 (by omega))
  all_goals clear hg3 hm3 hrest hown3 hown c4' f4' hrd3
  all_goals have c4z := hP.1.sc.rd.c4
  all_goals go_wp2
  all_goals go_ret
  all_goals exact ⟨_, by simp only [natv]; go_num, hP.1, hP.2.1, hP.2.2⟩
end
end Go.Proofs.YtkpfiopgnobcdaaDoor
