/-
  The document's reader of JSON: a name whose text is wrong.
-/
import Derived.Test.YtkpfiopgnobcdaaDoorRefL
import Derived.Test.YtkpfiopgnobcdaaDoorObjB
namespace Go.Proofs.YtkpfiopgnobcdaaDoor
open Go.RowKit

section
variable {B : List UInt8} {R cap : Nat} {ta : Option Addr} {w0 w w' : World} {a bb pp : Nat} {v : Value} {T : List V} {cs : List Value}
variable {wst : World} {o0 : Option Nat} {cs0 : List Value} {hi vb kind : Nat} {ns : List (List UInt8)} {ks : List Nat} {na ka : Option Addr} {nc kc : Nat}
theorem RJ.cK (h : RJ B R cap ta w0 wst o0 cs0 hi vb kind ns ks T w a bb pp v cs na nc ka kc) : w.cell? ⟨vb, 5, none⟩ = some (.slice ka ks.length kc) := by rw [cell_of_row w vb 5 _ _ _ h.vbk]; rfl
theorem RJ.cN (h : RJ B R cap ta w0 wst o0 cs0 hi vb kind ns ks T w a bb pp v cs na nc ka kc) : w.cell? ⟨vb, 4, none⟩ = some (.slice na ns.length nc) := by rw [cell_of_row w vb 4 _ _ _ h.vbk]; rfl
theorem RJ.cKa (h : RJ B R cap ta w0 wst o0 cs0 hi vb kind ns ks T w a bb pp v cs na nc ka kc) (o : Obj) : (w.alloc o).cell? ⟨vb, 5, none⟩ = some (.slice ka ks.length kc) := by rw [cell_of_row _ vb 5 _ _ _ ((Below.heap_alloc w o vb h.tyV.lt).trans h.vbk)]; rfl
theorem RJ.cNa (h : RJ B R cap ta w0 wst o0 cs0 hi vb kind ns ks T w a bb pp v cs na nc ka kc) (o : Obj) : (w.alloc o).cell? ⟨vb, 4, none⟩ = some (.slice na ns.length nc) := by rw [cell_of_row _ vb 4 _ _ _ ((Below.heap_alloc w o vb h.tyV.lt).trans h.vbk)]; rfl
theorem RJ.fV (h : RJ B R cap ta w0 wst o0 cs0 hi vb kind ns ks T w a bb pp v cs na nc ka kc) (i : Nat) : w.frozen? ⟨vb, i, none⟩ = false := frozen_of_row w vb i _ _ h.vbk
theorem RJ.kne (h : RJ B R cap ta w0 wst o0 cs0 hi vb kind ns ks T w a bb pp v cs na nc ka kc) : (Value.slice ka ks.length kc).ownBlock ≠ some vb := fun e => (h.tyK vb e).ne h.tyV (by decide) rfl
theorem RJ.nne (h : RJ B R cap ta w0 wst o0 cs0 hi vb kind ns ks T w a bb pp v cs na nc ka kc) : (Value.slice na ns.length nc).ownBlock ≠ some vb := fun e => (h.tyN vb e).ne h.tyV (by decide) rfl
theorem RJ.v3 (h : RJ B R cap ta w0 wst o0 cs0 hi vb kind ns ks T w a bb pp v cs na nc ka kc) {w3 : World} {b : Obj} {row : Option Nat} (hg : (w.alloc b).grownBy w3 row) (hrow : row ≠ some vb) :
    w3.heap[vb]? = some (.cells #[.int .i64 kind, .bool false, .int .i64 0, .string ⟨#[]⟩, .slice na ns.length nc, .slice ka ks.length kc] 42 (0, 0)) := by
  rw [hg.block vb (by simp; have := h.tyV.lt; omega) (fun e => hrow e.symm), Below.heap_alloc w b vb h.tyV.lt]; exact h.vbk
theorem RJ.addName' (h : RJ B R cap ta w0 wst o0 cs0 hi vb kind ns ks T w a bb pp v cs na nc ka kc) {w3 : World} {b : Obj} {ka3 : Option Addr} {kc3 : Nat} {x : List UInt8} (hle : ns.length ≤ ks.length)
    (hown : w3.ownsRow 0 9 1 (.slice ka3 (ns.length + 1) kc3) (ns.length + 1) (ns.map strv ++ [strv x])) (hg : (w.alloc b).grownBy w3 (Value.slice na ns.length nc).ownBlock)
    (hm : Moved (w.alloc b).heap.size (Value.slice na ns.length nc).ownBlock (Value.slice ka3 (ns.length + 1) kc3).ownBlock) :
    RJ B R cap ta w0 wst o0 cs0 hi vb kind (ns ++ [x]) ks T (w3.setCell ⟨vb, 4, none⟩ (.slice ka3 (ns.length + 1) kc3)) a bb pp v cs ka3 kc3 ka kc := by
  have e : ns.length + 1 = (ns ++ [x]).length := by simp
  rw [e] at hown hm ⊢
  exact h.addName hle (by rw [List.map_append]; exact hown) hg hm

set_option maxRecDepth 100000 in
set_option maxHeartbeats 1600000 in
/-- Its text is wrong. -/
theorem rname_text (E : REnv B R cap ta w0) (h : RJ B R cap ta w0 wst o0 cs0 hi vb kind ns ks T w a 0 0 v cs na nc ka kc) (ha : a ≤ B.length) (hle : ns.length ≤ ks.length) {p x c : Nat} (hA : aheadM B a = .ok 34 p) (hQ : quotedM B p = .bad x c) (hc : c ≠ 0) :
    Calls Tryd.prog 37 #[.pointer (some ⟨R, 0, none⟩), .pointer (some ⟨vb, 0, none⟩)] w (DoneNm B R cap ta w0 wst o0 cs0 hi vb kind ns ks T v cs ka kc (colonM B ns a)) := by
  have HM : Hid (colonM B ns a = .bad x c) := by show _ = _; simp [colonM, nameM, hA, hQ, Res.andThen]
  have hl := E.len
  have hkl := h.le; have hTl := h.st.le
  have hp := (aheadM_at hA).2.1
  have HE := hide E
  have HQ := hide hQ
  have HN := hide (okH (next_good E h.st.sc ha) hA)
  have HJ := hide h
  have hc1 : ((c : Int) == 0) = false := by simp; omega
  clear hA h E hQ
  obtain ⟨i9, hi9, hz0, hz1, hz2⟩ := info_parts info9
  go_enter Tryd.func37, Tryd.ntmps37
  go_wp2_with (first | (go_at_call 23; refine HN.out.mono ?_; rintro e w1 ⟨rfl, hs1, hf1⟩; have c1 := hs1.rd.c1; have c2 := hs1.rd.c2) | (go_at_call 26; refine (badG (text_good HE.out hs1 hp) HQ.out).mono ?_; rintro e w2 ⟨x0, q, rfl, hq, hs2, hf2⟩; simp only [strv]))
  have HJ2 := hide (HJ.out.scan (hf1.trans0 hf2) hs2)
  go_loopw [7] (fun i wr => i = .int .i64 0 ∧ wr = w2) (fun _ _ => 0)
  case atStart => exact ⟨rfl, rfl⟩
  case round =>
    obtain ⟨rfl, rfl⟩ := hrel
    have d2 := hs2.rd.c2
    have dN := HJ2.out.cN
    have hsk := skip_far hq
    have HNB := hide (next_bad HE.out hs2 hc)
    rcases Nat.eq_zero_or_pos ns.length with hn0 | hn0
    · have hn1 : ¬ (0 : Int) < (ns.length : Int) := by omega
      clear hn0
      go_wp2_with (first | (at_builtin; refine wpList_append_moved rfl _ _ 39 rfl 0 9 i9 (.string ⟨#[]⟩) 1 16 Tryd.underlying39 hi9 hz0 hz1 hz2 rfl (by decide) _ ns.length (ns.map strv) rfl (hJ3.own.names.alloc _) _ 1 1 [strv x0] rfl rfl (cells_new _ [strv x0] 9 _ (by simp)) (strs_one _) (by unfold maxLen; omega) (by omega) (by simp) ?_; intro v4 w4 hown4 hg4 hm4; obtain ⟨ka4, kc4, rfl⟩ := own_shape hown4; have hP := hJ3.addName' hle hown4 hg4 hm4; have hv4 := hJ3.v3 hg4 hJ3.nne; have cV4 := cell_of_row w4 vb 4 _ _ _ hv4; have fV4 := frozen_of_row w4 vb 4 _ _ hv4; simp only [List.getElem?_toArray, List.getElem?_cons_succ, List.getElem?_cons_zero] at cV4) | (go_at_call 23; refine HNB.out.mono ?_; rintro e w3 ⟨rfl, hs3, hf3⟩; have e1 := hs3.rd.c1; have g1 := hs3.rd.f 1; have hJ3 := HJ2.out.scan (hf3.setR 1 (.int .i64 ((skip B q : Nat) + 1 : Int))) (hs3.stepZ (a' := skip B q + 1) (by omega) (by omega)); have eN := hJ3.cN; have eNa := hJ3.cNa))
      go_end0
      rw [HM.out]
      exact ⟨rfl, _, _, _, skip B q + 1, by omega, hP⟩
    · have hn1 : (0 : Int) < (ns.length : Int) := by omega
      clear hn0
      go_wp2_with (first | (at_builtin; refine wpList_append_moved rfl _ _ 39 rfl 0 9 i9 (.string ⟨#[]⟩) 1 16 Tryd.underlying39 hi9 hz0 hz1 hz2 rfl (by decide) _ ns.length (ns.map strv) rfl (hJ3.own.names.alloc _) _ 1 1 [strv x0] rfl rfl (cells_new _ [strv x0] 9 _ (by simp)) (strs_one _) (by unfold maxLen; omega) (by omega) (by simp) ?_; intro v4 w4 hown4 hg4 hm4; obtain ⟨ka4, kc4, rfl⟩ := own_shape hown4; have hP := hJ3.addName' hle hown4 hg4 hm4; have hv4 := hJ3.v3 hg4 hJ3.nne; have cV4 := cell_of_row w4 vb 4 _ _ _ hv4; have fV4 := frozen_of_row w4 vb 4 _ _ hv4; simp only [List.getElem?_toArray, List.getElem?_cons_succ, List.getElem?_cons_zero] at cV4) | (go_at_call 23; refine HNB.out.mono ?_; rintro e w3 ⟨rfl, hs3, hf3⟩; have e1 := hs3.rd.c1; have g1 := hs3.rd.f 1; have hJ3 := HJ2.out.scan (hf3.setR 1 (.int .i64 ((skip B q : Nat) + 1 : Int))) (hs3.stepZ (a' := skip B q + 1) (by omega) (by omega)); have eN := hJ3.cN; have eNa := hJ3.cNa))
      go_end0
      rw [HM.out]
      exact ⟨rfl, _, _, _, skip B q + 1, by omega, hP⟩
end
end Go.Proofs.YtkpfiopgnobcdaaDoor
