/-
  What the reader's list and the closure of its kids do.
-/
import Derived.Test.YtpffhckimilppaaDoorJOpen
namespace Go.Proofs.YtpffhckimilppaaDoor.Js
open Go.RowKit

def SubOk (sub : Sub) : Prop := ∀ T a x a', sub T a = .ok x a' → T.length < x.2.length ∧ a < a'
def ValueC (B : List UInt8) (R tb toff cap : Nat) (w0 : World) (sub : Sub) (d : Nat) : Prop :=
  ∀ (w : World) (a : Nat) (v : Value) (T : List V) (cs : List Value), St B R tb toff cap w0 w a d v T cs → Calls Tryd.prog 41 #[.pointer (some ⟨R, 0, none⟩)] w (DoneT B R tb toff cap w0 w d v cs natv (sub T a))
theorem hent20 (args : Array Value) (w : World) : (callFunc 41 args).run Tryd.prog w = .ok (.enter 41 args) w := Go.Proofs.enters_of Tryd.func41 (by kernel_rfl) rfl args w
theorem hent54 (args : Array Value) (w : World) : (callFunc 70 args).run Tryd.prog w = .ok (.enter 70 args) w := Go.Proofs.enters_of Tryd.func70 (by kernel_rfl) rfl args w
theorem hent52 (args : Array Value) (w : World) : (callFunc 68 args).run Tryd.prog w = .ok (.enter 68 args) w := Go.Proofs.enters_of Tryd.func68 (by kernel_rfl) rfl args w
theorem hent53 (args : Array Value) (w : World) : (callFunc 69 args).run Tryd.prog w = .ok (.enter 69 args) w := Go.Proofs.enters_of Tryd.func69 (by kernel_rfl) rfl args w
theorem info3 : (Tryd.prog.info? 3).map (fun i => (i.zero, i.size, i.bytes)) = some (some (.int .i64 0), 1, 8) := by kernel_rfl
theorem info9 : (Tryd.prog.info? 9).map (fun i => (i.zero, i.size, i.bytes)) = some (some (.string ⟨#[]⟩), 1, 16) := by kernel_rfl

section
variable {B : List UInt8} {R tb toff cap : Nat} {w0 w w' : World} {a d : Nat} {v : Value} {T : List V} {cs : List Value}
variable {wst wX : World} {o0 : Option Nat} {cs0 : List Value} {hi mb vb rb kind : Nat} {ns : List (List UInt8)} {ks : List Nat} {na ka : Option Addr} {nc kc : Nat}

theorem JG.cK (h : JG B R tb toff cap w0 d wst o0 cs0 hi mb wX vb rb kind ns ks T w a v cs na nc ka kc) : w.cell? ⟨vb, 5, none⟩ = some (.slice ka ks.length kc) := by rw [cell_of_row w vb 5 _ _ _ h.vbk]; rfl
theorem JG.cN (h : JG B R tb toff cap w0 d wst o0 cs0 hi mb wX vb rb kind ns ks T w a v cs na nc ka kc) : w.cell? ⟨vb, 4, none⟩ = some (.slice na ns.length nc) := by rw [cell_of_row w vb 4 _ _ _ h.vbk]; rfl
theorem JG.cR (h : JG B R tb toff cap w0 d wst o0 cs0 hi mb wX vb rb kind ns ks T w a v cs na nc ka kc) : w.cell? ⟨rb, 0, none⟩ = some (.pointer (some ⟨R, 0, none⟩)) := cell_of_one h.rbk
theorem JG.cKa (h : JG B R tb toff cap w0 d wst o0 cs0 hi mb wX vb rb kind ns ks T w a v cs na nc ka kc) (o : Obj) : (w.alloc o).cell? ⟨vb, 5, none⟩ = some (.slice ka ks.length kc) := by rw [cell_of_row _ vb 5 _ _ _ ((Below.heap_alloc w o vb h.tyV.lt).trans h.vbk)]; rfl
theorem JG.cNa (h : JG B R tb toff cap w0 d wst o0 cs0 hi mb wX vb rb kind ns ks T w a v cs na nc ka kc) (o : Obj) : (w.alloc o).cell? ⟨vb, 4, none⟩ = some (.slice na ns.length nc) := by rw [cell_of_row _ vb 4 _ _ _ ((Below.heap_alloc w o vb h.tyV.lt).trans h.vbk)]; rfl
theorem JG.fV (h : JG B R tb toff cap w0 d wst o0 cs0 hi mb wX vb rb kind ns ks T w a v cs na nc ka kc) (i : Nat) : w.frozen? ⟨vb, i, none⟩ = false := frozen_of_row w vb i _ _ h.vbk
theorem St.drewN (h : St B R tb toff cap w0 w a d v T cs) (n : Nat) : St B R tb toff cap w0 (w.drewN n) a d v T cs := h.scan ((Fr.refl _ _ _).drewN n) (h.sc.drewN n)
theorem JG.drewN (h : JG B R tb toff cap w0 d wst o0 cs0 hi mb wX vb rb kind ns ks T w a v cs na nc ka kc) (n : Nat) : JG B R tb toff cap w0 d wst o0 cs0 hi mb wX vb rb kind ns ks T (w.drewN n) a v cs na nc ka kc := h.scan ((Fr.refl _ _ _).drewN n) (h.st.sc.drewN n)
theorem ints_one (x : Nat) : ∀ u ∈ [natv x], u.oneCell' = true := by intro u hu; simp at hu; subst hu; rfl

/-- The kid's step: a value, then its place to the kids' end; whatever else the open value bears. -/
theorem JG.value (h : JG B R tb toff cap w0 d wst o0 cs0 hi mb wX vb rb kind ns ks T w a v cs na nc ka kc) {x : Nat × List V} {a1 : Nat} {w2 : World} {v' : Value} {cs' : List Value} (hT : T.length ≤ x.2.length)
    (hst : St B R tb toff cap w0 w2 a1 d v' x.2 cs') (f : Fr R v.ownBlock w w2) (hm : Moved w.heap.size v.ownBlock v'.ownBlock) (hn : New w.heap.size cs cs') :
    JG B R tb toff cap w0 d wst o0 cs0 hi mb wX vb rb kind ns ks x.2 w2 a1 v' cs' na nc ka kc := h.keep f hst hm hn hT

theorem own_shape {w : World} {base : Nat} {e : TypeId} {size : Nat} {v : Value} {n : Nat} {xs : List Value} (h : w.ownsRow base e size v n xs) : ∃ ao c, v = .slice ao n c := by
  rcases h.2 with ⟨rfl, h0⟩ | ⟨g', cp, cur, rfl, _⟩
  · exact ⟨none, 0, by rw [h0]⟩
  · exact ⟨_, _, rfl⟩
theorem JG.addKid' (h : JG B R tb toff cap w0 d wst o0 cs0 hi mb wX vb rb kind ns ks T w a v cs na nc ka kc) {w3 : World} {b : Obj} {ka3 : Option Addr} {kc3 x : Nat} (hle : ks.length < T.length) (hnn : ns.length ≤ ks.length + 2)
    (hown : w3.ownsRow 0 3 1 (.slice ka3 (ks.length + 1) kc3) (ks.length + 1) (ks.map natv ++ [natv x])) (hg : (w.alloc b).grownBy w3 (Value.slice ka ks.length kc).ownBlock)
    (hm : Moved (w.alloc b).heap.size (Value.slice ka ks.length kc).ownBlock (Value.slice ka3 (ks.length + 1) kc3).ownBlock) :
    JG B R tb toff cap w0 d wst o0 cs0 hi mb wX vb rb kind ns (ks ++ [x]) T (w3.setCell ⟨vb, 5, none⟩ (.slice ka3 (ks.length + 1) kc3)) a v cs na nc ka3 kc3 := by
  have e : ks.length + 1 = (ks ++ [x]).length := by simp
  rw [e] at hown hm ⊢
  exact h.addKid hle hnn (by rw [List.map_append]; exact hown) hg hm
theorem JG.v3 (h : JG B R tb toff cap w0 d wst o0 cs0 hi mb wX vb rb kind ns ks T w a v cs na nc ka kc) {w3 : World} {b : Obj} {row : Option Nat} (hg : (w.alloc b).grownBy w3 row) (hrow : row ≠ some vb) :
    w3.heap[vb]? = some (.cells #[.int .i64 kind, .bool false, .int .i64 0, .string ⟨#[]⟩, .slice na ns.length nc, .slice ka ks.length kc] 42 (0, 0)) := by
  rw [hg.block vb (by have := h.tyV.lt; simp; omega) (fun e => hrow e.symm), Below.heap_alloc w b vb h.tyV.lt]; exact h.vbk
theorem JG.kne (h : JG B R tb toff cap w0 d wst o0 cs0 hi mb wX vb rb kind ns ks T w a v cs na nc ka kc) : (Value.slice ka ks.length kc).ownBlock ≠ some vb := fun e => (h.tyK vb e).ne h.tyV (by decide) rfl
theorem JG.nne (h : JG B R tb toff cap w0 d wst o0 cs0 hi mb wX vb rb kind ns ks T w a v cs na nc ka kc) : (Value.slice na ns.length nc).ownBlock ≠ some vb := fun e => (h.tyN vb e).ne h.tyV (by decide) rfl

def JL (B : List UInt8) (R tb toff cap : Nat) (w0 : World) (d : Nat) (wst : World) (o0 : Option Nat) (cs0 : List Value) (hi mb : Nat) (wX : World) (vb rb : Nat) (s : List Nat × List V) (w : World) (a : Nat) (v : Value) : Prop :=
  ∃ cs na nc ka kc, JG B R tb toff cap w0 d wst o0 cs0 hi mb wX vb rb 5 [] s.1 s.2 w a v cs na nc ka kc

set_option maxRecDepth 100000 in
set_option maxHeartbeats 1600000 in
theorem kid_list {sub : Sub} (HV : ValueC B R tb toff cap w0 sub d) (hsub : SubOk sub) (s : List Nat × List V) (w : World) (a : Nat) (v : Value) (hJ : JL B R tb toff cap w0 d wst o0 cs0 hi mb wX vb rb s w a v) :
    Calls Tryd.prog 68 #[.pointer (some ⟨vb, 0, none⟩), .pointer (some ⟨rb, 0, none⟩)] w (DoneK (JL B R tb toff cap w0 d wst o0 cs0 hi mb wX vb rb) (Fr R o0 wst) (listK sub s a)) := by
  obtain ⟨cs, na, nc, ka, kc, h⟩ := hJ
  have HVC : Hid (ValueC B R tb toff cap w0 sub d) := HV
  clear HV
  have cK := h.cK; have cR := h.cR
  cases hM : sub s.2 a with
  | bad a1 c =>
    have HR : Hid (listK sub s a = .bad a1 c) := by show _ = _; simp [listK, hM, Res.andThen]
    have HM : Hid (sub s.2 a = .bad a1 c) := hM
    clear hM
    go_enter Tryd.func68, Tryd.ntmps68
    go_wp2_with fail
    go_region_dies
    all_goals
      refine (badT (HVC.out w.drew a v s.2 cs (h.st.drewN 1)) HM.out).mono ?_
      rintro e w2 ⟨rfl, hf2⟩
      refine ⟨rfl, ?_⟩
      rw [HR.out]
      exact ⟨rfl, (h.fr.drewN 1).trans hf2 (h.mv.le h.hilo)⟩
  | ok x a1 =>
    have hx := hsub _ _ _ _ hM
    have HR : Hid (listK sub s a = .ok (s.1 ++ [x.1], x.2) a1) := by show _ = _; simp [listK, hM, Res.andThen]
    have HM : Hid (sub s.2 a = .ok x a1) := hM
    clear hM
    have HC := okT (HVC.out w.drew a v s.2 cs (h.st.drewN 1)) HM.out
    have HCal : Hid (Calls Tryd.prog 41 #[.pointer (some ⟨R, 0, none⟩)] w.drew fun e w' => ∃ u, e = .returned u ∧ ∃ v' cs', u = natv x.1 ∧ St B R tb toff cap w0 w' a1 d v' x.2 cs' ∧ Fr R v.ownBlock w.drew w' ∧ Moved w.drew.heap.size v.ownBlock v'.ownBlock ∧ New w.drew.heap.size cs cs') := by
      refine HC.mono ?_
      rintro e w' ⟨v', cs', rfl, h1⟩
      exact ⟨_, rfl, v', cs', rfl, h1⟩
    clear HC
    obtain ⟨i0, hii, hz0, hz1, hz2⟩ := info_parts info3
    have hle := h.le
    have hlT := h.st.le
    go_enter Tryd.func68, Tryd.ntmps68
    go_wp2_with fail
    go_region_law (first | (refine step_call rfl 41 (.tmp 4) 67 rfl hent20 (.pointer (some ⟨R, 0, none⟩)) rfl HCal.out ?_; rintro u w2 ⟨v', cs', rfl, hst2, hf2, hm2, hn2⟩; have h2 := (h.drewN 1).value (by omega) hst2 hf2 hm2 hn2; have cK2 := h2.cK; have cK2a := h2.cKa; have cR2 := h2.cR; simp only [natv]) | (refine step_append rfl (.tmp 3) (.tmp 6) 40 rfl 0 3 i0 (.int .i64 0) 1 8 Tryd.underlying40 hii hz0 hz1 hz2 rfl (by decide) _ s.1.length (s.1.map natv) rfl (h2.own.kids.alloc _) _ 1 1 [natv x.1] rfl rfl (cells_new _ [natv x.1] 3 _ (by simp)) (ints_one _) (by unfold maxLen; omega) (by omega) (by simp) ?_; intro v3 w3 hown3 hg3 hm3; obtain ⟨ka3, kc3, rfl⟩ := own_shape hown3; have hP := h2.addKid' (by omega) (by simp) hown3 hg3 hm3; have hv3 := h2.v3 hg3 h2.kne; have cV3 := cell_of_row w3 vb 5 _ _ _ hv3; have fV3 := frozen_of_row w3 vb 5 _ _ hv3; simp only [List.getElem?_toArray, List.getElem?_cons_succ, List.getElem?_cons_zero] at cV3))
    all_goals go_wp2
    all_goals go_end0
    all_goals rw [HR.out]
    all_goals exact ⟨rfl, v', cs', na, nc, ka3, kc3, hP⟩
end
end Go.Proofs.YtpffhckimilppaaDoor.Js