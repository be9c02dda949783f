/-
  Several texts in one.
-/
import Derived.Test.YtkpfiopgnobcdaaDoorRefM
import Derived.Laws.OwnMore
import Derived.Test.YtkpfiopgnobcdaaDoorRec
/-  The document's reader of JSON: a name that is read. -/
namespace Go.Proofs.YtkpfiopgnobcdaaDoor
open Go.RowKit

section
variable {B : List UInt8} {R cap : Nat} {ta : Option Addr} {w0 w w' : World} {a bb pp : Nat} {v : Value} {T : List V} {cs : List Value}
variable {wst : World} {o0 : Option Nat} {cs0 : List Value} {hi vb kind : Nat} {ns : List (List UInt8)} {ks : List Nat} {na ka : Option Addr} {nc kc : Nat}
theorem RJ.nm (h : RJ B R cap ta w0 wst o0 cs0 hi vb kind ns ks T w a bb pp v cs na nc ka kc) {k : Nat} (hk : k < ns.length) : ∃ g, na = some ⟨g, 0, none⟩ ∧ w.cell? ⟨g, k, none⟩ = some (.string ⟨(ns[k]).toArray⟩) ∧ ns.length ≤ nc := by
  have ho := h.own.names
  rcases ho.2 with ⟨e, h0⟩ | ⟨g, cp, cur, e, _, _, hcap, _⟩
  · simp only at h0; omega
  · have e' := e
    simp only [Value.slice.injEq] at e'
    obtain ⟨rfl, _, rfl⟩ := e'
    refine ⟨g, rfl, ?_, hcap⟩
    rw [World.ownsRow.cellAt ho k (by simp; omega)]
    simp [hk, strv]

/-- The loop over the names. -/
def NameR (B : List UInt8) (R cap : Nat) (ta : Option Addr) (w0 wst : World) (o0 : Option Nat) (cs0 : List Value) (hi vb kind : Nat) (ns : List (List UInt8)) (ks : List Nat) (T : List V) (v : Value) (cs : List Value) (na : Option Addr) (nc : Nat) (ka : Option Addr) (kc : Nat) (s : List UInt8) (p q : Nat) (i : Value) (wr : World) : Prop :=
  ∃ k, k ≤ ns.length ∧ i = .int .i64 (k : Nat) ∧ ((RJ B R cap ta w0 wst o0 cs0 hi vb kind ns ks T wr q 0 0 v cs na nc ka kc ∧ s ∉ ns.take k) ∨ (RJ B R cap ta w0 wst o0 cs0 hi vb kind ns ks T wr q 28 p v cs na nc ka kc ∧ s ∈ ns))

set_option maxRecDepth 100000 in
set_option maxHeartbeats 3200000 in
theorem rname_read (E : REnv B R cap ta w0) (h : RJ B R cap ta w0 wst o0 cs0 hi vb kind ns ks T w a 0 0 v cs na nc ka kc) (ha : a ≤ B.length) (hle : ns.length ≤ ks.length) {p q : Nat} {s : List UInt8} (hA : aheadM B a = .ok 34 p) (hQ : quotedM B p = .ok s q) (hqB : q ≤ B.length) :
    Calls Tryd.prog 37 #[.pointer (some ⟨R, 0, none⟩), .pointer (some ⟨vb, 0, none⟩)] w (DoneNm B R cap ta w0 wst o0 cs0 hi vb kind ns ks T v cs ka kc (colonM B ns a)) := by
  have HM : Hid (colonM B ns a = if s ∈ ns then .bad p 28 else (wantM B 58 (skip B q)).andThen fun _ r => .ok s r) := by
    show _ = _; simp only [colonM, nameM, hA, hQ, Res.andThen]; by_cases hin : s ∈ ns <;> simp [hin]
  have hl := E.len
  have hkl := h.le; have hTl := h.st.le
  have hp := (aheadM_at hA).2.1
  have HE := hide E
  have HQ := hide hQ
  have HN := hide (okH (next_good E h.st.sc ha) hA)
  have HJ := hide h
  clear hA h E hQ
  obtain ⟨i9, hi9, hz0, hz1, hz2⟩ := info_parts info9
  go_enter Tryd.func37, Tryd.ntmps37
  go_wp2_with (first | (go_at_call 23; refine HN.out.mono ?_; rintro e w1 ⟨rfl, hs1, hf1⟩; have c1 := hs1.rd.c1; have c2 := hs1.rd.c2) | (go_at_call 26; refine (okG (text_good HE.out hs1 hp) HQ.out).mono ?_; rintro e w2 ⟨rfl, hs2, hf2⟩; simp only [strv]))
  have HJ2 := hide (HJ.out.scan (hf1.trans0 hf2) hs2)
  go_loopw [7] (fun i wr => NameR B R cap ta w0 wst o0 cs0 hi vb kind ns ks T v cs na nc ka kc s p q i wr) (fun i _ => ns.length - (intOf i).toNat)
  case atStart => exact ⟨0, by omega, rfl, .inl ⟨HJ2.out, by simp⟩⟩
  case round =>
    obtain ⟨k, hk, rfl, hrel⟩ := hrel
    rcases hrel with ⟨hJ, hno⟩ | ⟨hJ, hin⟩
    · have hs := hJ.st.sc
      have d2 := hs.rd.c2
      have dN := hJ.cN
      by_cases hkl2 : k < ns.length
      · have hk1 : (k : Int) < (ns.length : Int) := by omega
        obtain ⟨g, rfl, hcell, hcap⟩ := hJ.nm hkl2
        have hck : ¬ nc = 0 := by omega
        by_cases he : ns[k] = s
        · have hin : s ∈ ns := by rw [← he]; exact List.getElem_mem _
          rw [he] at hcell
          have HNo := hide (no_good hs p 28)
          go_wp2_with (go_at_call 18; refine HNo.out.mono ?_; rintro e w3 ⟨rfl, hs3, hf3⟩)
          go_roundw
          case rel => exact ⟨k + 1, by omega, by go_num, .inr ⟨hJ.scan hf3 hs3, hin⟩⟩
          case measure => simp [intOf]; omega
        · obtain ⟨t, ht⟩ : ∃ t, Hid (ns[k] = t) := ⟨ns[k], hide rfl⟩
          rw [ht.out] at hcell he
          have HNT : Hid (s ∉ ns.take (k + 1)) := by
            show s ∉ _
            rw [← List.take_append_getElem hkl2, ht.out]
            simp only [List.mem_append, List.mem_singleton, not_or]
            exact ⟨hno, fun e => he e.symm⟩
          have he2 : (t == s) = false := by rw [beq_eq_false_iff_ne]; exact he
          clear hno
          go_wp2
          go_roundw
          case rel => exact ⟨k + 1, by omega, by go_num, .inl ⟨hJ, HNT.out⟩⟩
          case measure => simp [intOf]; omega
      · have hk1 : ¬ (k : Int) < (ns.length : Int) := by omega
        have hin : s ∉ ns := by rw [List.take_of_length_le (by omega)] at hno; exact hno
        have HJa := hide hJ
        clear hno hJ
        cases hA : aheadM B q with
        | bad x c =>
          have hxc : x = skip B q ∧ c = 21 ∧ ¬ skip B q < B.length := by
            unfold aheadM peekM at hA
            split at hA
            · cases hA
            · rename_i hnl
              simp only [Res.bad.injEq] at hA; exact ⟨hA.1.symm, hA.2.symm, hnl⟩
          obtain ⟨rfl, rfl, hnl⟩ := hxc
          have HW : Hid (((wantM B 58 (skip B q)).andThen fun _ r => Res.ok s r) = .bad (skip B q) 21) := by show _ = _; simp [wantM, hnl, Res.andThen]
          have HNx := hide (badH (next_good HE.out hs hqB) hA)
          clear hA hnl
          go_wp2_with (first | (at_builtin; refine wpList_append_moved rfl _ _ 39 rfl 0 9 i9 (.string ⟨#[]⟩) 1 16 Tryd.underlying39 hi9 hz0 hz1 hz2 rfl (by decide) _ ns.length (ns.map strv) rfl (hJ3.own.names.alloc _) _ 1 1 [strv s] rfl rfl (cells_new _ [strv s] 9 _ (by simp)) (strs_one _) (by unfold maxLen; omega) (by omega) (by simp) ?_; intro v4 w4 hown4 hg4 hm4; obtain ⟨ka4, kc4, rfl⟩ := own_shape hown4; have hP := hJ3.addName' hle hown4 hg4 hm4; have hv4 := hJ3.v3 hg4 hJ3.nne; have cV4 := cell_of_row w4 vb 4 _ _ _ hv4; have fV4 := frozen_of_row w4 vb 4 _ _ hv4; simp only [List.getElem?_toArray, List.getElem?_cons_succ, List.getElem?_cons_zero] at cV4) | (go_at_call 23; refine HNx.out.mono ?_; rintro e w3 ⟨rfl, r, hr, hs3, hf3⟩; have e1 := hs3.rd.c1; have g1 := hs3.rd.f 1; have hJ3 := HJa.out.scan (hf3.setR 1 (.int .i64 ((r : Nat) + 1 : Int))) (hs3.stepZ (a' := r + 1) (by omega) (by omega)); have eN := hJ3.cN; have eNa := hJ3.cNa))
          go_end0
          rw [HM.out, if_neg hin, HW.out]
          exact ⟨rfl, _, _, _, r + 1, by omega, hP⟩
        | ok c r =>
          have hr : r = skip B q ∧ c = byteAt B r ∧ r < B.length := by
            unfold aheadM peekM at hA
            split at hA
            · rename_i hlt
              simp only [Res.ok.injEq] at hA
              obtain ⟨rfl, rfl⟩ := hA
              exact ⟨rfl, rfl, hlt⟩
            · cases hA
          obtain ⟨hr1, hr2, hr3⟩ := hr
          have HNx := hide (okH (next_good HE.out hs hqB) hA)
          clear hA
          have h0 : (0 : Int) ≤ (c : Int) := by omega
          by_cases h58 : c = 58
          · have HW : Hid (((wantM B 58 (skip B q)).andThen fun _ r => Res.ok s r) = .ok s (r + 1)) := by
              show _ = _; rw [← hr1, wantM, if_pos hr3, if_pos (by rw [← hr2]; exact h58)]; rfl
            subst h58
            clear hr1 hr2
            go_wp2_with (first | (at_builtin; refine wpList_append_moved rfl _ _ 39 rfl 0 9 i9 (.string ⟨#[]⟩) 1 16 Tryd.underlying39 hi9 hz0 hz1 hz2 rfl (by decide) _ ns.length (ns.map strv) rfl (hJ3.own.names.alloc _) _ 1 1 [strv s] rfl rfl (cells_new _ [strv s] 9 _ (by simp)) (strs_one _) (by unfold maxLen; omega) (by omega) (by simp) ?_; intro v4 w4 hown4 hg4 hm4; obtain ⟨ka4, kc4, rfl⟩ := own_shape hown4; have hP := hJ3.addName' hle hown4 hg4 hm4; have hv4 := hJ3.v3 hg4 hJ3.nne; have cV4 := cell_of_row w4 vb 4 _ _ _ hv4; have fV4 := frozen_of_row w4 vb 4 _ _ hv4; simp only [List.getElem?_toArray, List.getElem?_cons_succ, List.getElem?_cons_zero] at cV4) | (go_at_call 23; refine HNx.out.mono ?_; rintro e w3 ⟨rfl, hs3, hf3⟩; have e1 := hs3.rd.c1; have g1 := hs3.rd.f 1; have hJ3 := HJa.out.scan (hf3.setR 1 (.int .i64 ((r : Nat) + 1 : Int))) (hs3.stepZ (a' := r + 1) (by omega) (by omega)); have eN := hJ3.cN; have eNa := hJ3.cNa))
            go_end0
            rw [HM.out, if_neg hin, HW.out]
            exact ⟨rfl, _, _, hP⟩
          · have HW : Hid (((wantM B 58 (skip B q)).andThen fun _ r => Res.ok s r) = .bad r 22) := by
              show _ = _; rw [← hr1, wantM, if_pos hr3, if_neg (by rw [← hr2]; exact h58)]; rfl
            have h58' : ((c : Int) != 58) = true := by simp; omega
            clear hr1 hr2
            go_wp2_with (first | (at_builtin; refine wpList_append_moved rfl _ _ 39 rfl 0 9 i9 (.string ⟨#[]⟩) 1 16 Tryd.underlying39 hi9 hz0 hz1 hz2 rfl (by decide) _ ns.length (ns.map strv) rfl (hJ3.own.names.alloc _) _ 1 1 [strv s] rfl rfl (cells_new _ [strv s] 9 _ (by simp)) (strs_one _) (by unfold maxLen; omega) (by omega) (by simp) ?_; intro v4 w4 hown4 hg4 hm4; obtain ⟨ka4, kc4, rfl⟩ := own_shape hown4; have hP := hJ3.addName' hle hown4 hg4 hm4; have hv4 := hJ3.v3 hg4 hJ3.nne; have cV4 := cell_of_row w4 vb 4 _ _ _ hv4; have fV4 := frozen_of_row w4 vb 4 _ _ hv4; simp only [List.getElem?_toArray, List.getElem?_cons_succ, List.getElem?_cons_zero] at cV4) | (go_at_call 23; refine HNx.out.mono ?_; rintro e w3 ⟨rfl, hs3, hf3⟩; have e1 := hs3.rd.c1) | (go_at_call 18; refine (no_good hs3 r 22).mono ?_; rintro e w5 ⟨rfl, hs5, hf5⟩; have e5 := hs5.rd.c1; have g5 := hs5.rd.f 1; have hJ3 := HJa.out.scan ((hf3.trans0 hf5).setR 1 (.int .i64 ((r : Nat) + 1 : Int))) (hs5.stepZ (a' := r + 1) (by omega) (by omega)); have eN := hJ3.cN; have eNa := hJ3.cNa))
            go_end0
            rw [HM.out, if_neg hin, HW.out]
            exact ⟨rfl, _, _, _, r + 1, by omega, hP⟩
    · have hs := hJ.st.sc
      have d2 := hs.rd.c2
      have dN := hJ.cN
      have HNB := hide (next_bad HE.out hs (by decide))
      have hsk : skip B q ≤ B.length + 0 := skip_far (by omega)
      have HJb := hide hJ
      clear hJ
      by_cases hkl2 : k < ns.length
      · have hk1 : (k : Int) < (ns.length : Int) := by omega
        go_wp2_with (first | (at_builtin; refine wpList_append_moved rfl _ _ 39 rfl 0 9 i9 (.string ⟨#[]⟩) 1 16 Tryd.underlying39 hi9 hz0 hz1 hz2 rfl (by decide) _ ns.length (ns.map strv) rfl (hJ3.own.names.alloc _) _ 1 1 [strv s] rfl rfl (cells_new _ [strv s] 9 _ (by simp)) (strs_one _) (by unfold maxLen; omega) (by omega) (by simp) ?_; intro v4 w4 hown4 hg4 hm4; obtain ⟨ka4, kc4, rfl⟩ := own_shape hown4; have hP := hJ3.addName' hle hown4 hg4 hm4; have hv4 := hJ3.v3 hg4 hJ3.nne; have cV4 := cell_of_row w4 vb 4 _ _ _ hv4; have fV4 := frozen_of_row w4 vb 4 _ _ hv4; simp only [List.getElem?_toArray, List.getElem?_cons_succ, List.getElem?_cons_zero] at cV4) | (go_at_call 23; refine HNB.out.mono ?_; rintro e w3 ⟨rfl, hs3, hf3⟩; have e1 := hs3.rd.c1; have g1 := hs3.rd.f 1; have hJ3 := HJb.out.scan (hf3.setR 1 (.int .i64 ((skip B q : Nat) + 1 : Int))) (hs3.stepZ (a' := skip B q + 1) (by omega) (by omega)); have eN := hJ3.cN; have eNa := hJ3.cNa))
        go_end0
        rw [HM.out, if_pos hin]
        exact ⟨rfl, _, _, _, skip B q + 1, by omega, hP⟩
      · have hk1 : ¬ (k : Int) < (ns.length : Int) := by omega
        go_wp2_with (first | (at_builtin; refine wpList_append_moved rfl _ _ 39 rfl 0 9 i9 (.string ⟨#[]⟩) 1 16 Tryd.underlying39 hi9 hz0 hz1 hz2 rfl (by decide) _ ns.length (ns.map strv) rfl (hJ3.own.names.alloc _) _ 1 1 [strv s] rfl rfl (cells_new _ [strv s] 9 _ (by simp)) (strs_one _) (by unfold maxLen; omega) (by omega) (by simp) ?_; intro v4 w4 hown4 hg4 hm4; obtain ⟨ka4, kc4, rfl⟩ := own_shape hown4; have hP := hJ3.addName' hle hown4 hg4 hm4; have hv4 := hJ3.v3 hg4 hJ3.nne; have cV4 := cell_of_row w4 vb 4 _ _ _ hv4; have fV4 := frozen_of_row w4 vb 4 _ _ hv4; simp only [List.getElem?_toArray, List.getElem?_cons_succ, List.getElem?_cons_zero] at cV4) | (go_at_call 23; refine HNB.out.mono ?_; rintro e w3 ⟨rfl, hs3, hf3⟩; have e1 := hs3.rd.c1; have g1 := hs3.rd.f 1; have hJ3 := HJb.out.scan (hf3.setR 1 (.int .i64 ((skip B q : Nat) + 1 : Int))) (hs3.stepZ (a' := skip B q + 1) (by omega) (by omega)); have eN := hJ3.cN; have eNa := hJ3.cNa))
        go_end0
        rw [HM.out, if_pos hin]
        exact ⟨rfl, _, _, _, skip B q + 1, by omega, hP⟩
end
end Go.Proofs.YtkpfiopgnobcdaaDoor
/-  The document's reader of JSON: a name and its colon, at every text. -/
namespace Go.Proofs.YtkpfiopgnobcdaaDoor
open Go.RowKit

section
variable {B : List UInt8} {R cap : Nat} {ta : Option Addr} {w0 w : World} {a : Nat} {v : Value} {T : List V} {cs : List Value}
variable {wst : World} {o0 : Option Nat} {cs0 : List Value} {hi vb kind : Nat} {ns : List (List UInt8)} {ks : List Nat} {na ka : Option Addr} {nc kc : Nat}
theorem rname_good (E : REnv B R cap ta w0) (h : RJ B R cap ta w0 wst o0 cs0 hi vb kind ns ks T w a 0 0 v cs na nc ka kc) (ha : a ≤ B.length) (hle : ns.length ≤ ks.length) :
    Calls Tryd.prog 37 #[.pointer (some ⟨R, 0, none⟩), .pointer (some ⟨vb, 0, none⟩)] w (DoneNm B R cap ta w0 wst o0 cs0 hi vb kind ns ks T v cs ka kc (colonM B ns a)) := by
  cases hA : aheadM B a with
  | bad x c => exact rname_end E h ha hA
  | ok c p =>
    by_cases hc : c = 34
    · subst hc
      have hf := quoted_fine (aheadM_at hA).2.1
      cases hQ : quotedM B p with
      | bad x k => rw [hQ] at hf; exact rname_text E h ha hle hA hQ hf.2
      | ok s q => rw [hQ] at hf; exact rname_read E h ha hle hA hQ hf.2
    · exact rname_byte E h ha hA hc
end
end Go.Proofs.YtkpfiopgnobcdaaDoor
/-  The document's reader of JSON: how value and many end; a list or object that begins and that ends. -/
namespace Go.Proofs.YtkpfiopgnobcdaaDoor
open Go.RowKit

/-- How value ends: behind a fault it answers 0, at most n places behind the text. -/
def DoneRV (B : List UInt8) (R cap : Nat) (ta : Option Addr) (w0 w : World) (v : Value) (T : List V) (cs : List Value) (n : Nat) : Res (Nat × List V) → Ending → World → Prop
  | .ok x q, e, w' => e = .returned (natv x.1) ∧ ∃ v' cs', RSt B R cap ta w0 w' q 0 0 v' x.2 cs' ∧ Fr R v.ownBlock w w' ∧ Moved w.heap.size v.ownBlock v'.ownBlock ∧ New w.heap.size cs cs'
  | .bad x c, e, w' => e = .returned (natv 0) ∧ ∃ q v' T' cs', q ≤ B.length + n ∧ RSt B R cap ta w0 w' q c x v' T' cs' ∧ Fr R v.ownBlock w w' ∧ Moved w.heap.size v.ownBlock v'.ownBlock ∧ New w.heap.size cs cs' ∧ T.length ≤ T'.length
section
variable {B : List UInt8} {R cap : Nat} {ta : Option Addr} {w0 w w' : World} {a bb pp : Nat} {v : Value} {T : List V} {cs : List Value}
theorem okRV {n : Nat} {f : FuncId} {args : Array Value} {M : Res (Nat × List V)} {x : Nat × List V} {a1 : Nat} (H : Calls Tryd.prog f args w (DoneRV B R cap ta w0 w v T cs n M)) (h : M = .ok x a1) :
    Calls Tryd.prog f args w fun e w' => e = .returned (natv x.1) ∧ ∃ v' cs', RSt B R cap ta w0 w' a1 0 0 v' x.2 cs' ∧ Fr R v.ownBlock w w' ∧ Moved w.heap.size v.ownBlock v'.ownBlock ∧ New w.heap.size cs cs' := by
  subst h; exact H
theorem badRV {n : Nat} {f : FuncId} {args : Array Value} {M : Res (Nat × List V)} {x c : Nat} (H : Calls Tryd.prog f args w (DoneRV B R cap ta w0 w v T cs n M)) (h : M = .bad x c) :
    Calls Tryd.prog f args w fun e w' => e = .returned (natv 0) ∧ ∃ q v' T' cs', q ≤ B.length + n ∧ RSt B R cap ta w0 w' q c x v' T' cs' ∧ Fr R v.ownBlock w w' ∧ Moved w.heap.size v.ownBlock v'.ownBlock ∧ New w.heap.size cs cs' ∧ T.length ≤ T'.length := by
  subst h; exact H
/-- What value does, at a depth. -/
def RValueC (B : List UInt8) (R cap : Nat) (ta : Option Addr) (w0 : World) (sub : Sub) (deep n : Nat) : Prop :=
  ∀ (w : World) (a : Nat) (v : Value) (T : List V) (cs : List Value) (z : Int), z = (deep : Int) → RSt B R cap ta w0 w a 0 0 v T cs → a ≤ B.length → Calls Tryd.prog 16 #[.pointer (some ⟨R, 0, none⟩), .int .i64 z] w (DoneRV B R cap ta w0 w v T cs n (sub T a))
set_option maxHeartbeats 800000 in
/-- Behind a fault. -/
theorem value_bad (E : REnv B R cap ta w0) (h : RSc B R cap ta w0 w a bb pp v) (hb : bb ≠ 0) (z : Int) : Calls Tryd.prog 16 #[.pointer (some ⟨R, 0, none⟩), .int .i64 z] w fun e w' => e = .returned (natv 0) ∧ RSc B R cap ta w0 w' (skip B a) bb pp v ∧ Fr R none w w' := by
  have HN := hide (next_bad E h hb)
  clear h E
  go_enter Tryd.func16, Tryd.ntmps16
  go_wp2_with (go_at_call 23; refine HN.out.mono ?_; rintro e w1 ⟨rfl, hs1, hf1⟩; have c1 := hs1.rd.c1)
  go_ret
  exact ⟨rfl, hs1, hf1⟩
variable {wst : World} {o0 : Option Nat} {cs0 : List Value} {hi vb kind : Nat} {ns : List (List UInt8)} {ks : List Nat} {na ka : Option Addr} {nc kc : Nat}
theorem RJ.drew (h : RJ B R cap ta w0 wst o0 cs0 hi vb kind ns ks T w a bb pp v cs na nc ka kc) : RJ B R cap ta w0 wst o0 cs0 hi vb kind ns ks T w.drew a bb pp v cs na nc ka kc :=
  h.scan ((Fr.refl R none w).drewN 1) (h.st.sc.drewN 1)
theorem RJ.addKid' (h : RJ B R cap ta w0 wst o0 cs0 hi vb kind ns ks T w a bb pp v cs na nc ka kc) {w3 : World} {b : Obj} {ka3 : Option Addr} {kc3 x : Nat} (hle : ks.length ≤ T.length) (hnn : ns.length ≤ ks.length + 2)
    (hown : w3.ownsRow 0 3 1 (.slice ka3 (ks.length + 1) kc3) (ks.length + 1) (ks.map natv ++ [natv x])) (hg : (w.alloc b).grownBy w3 (Value.slice ka ks.length kc).ownBlock)
    (hm : Moved (w.alloc b).heap.size (Value.slice ka ks.length kc).ownBlock (Value.slice ka3 (ks.length + 1) kc3).ownBlock) :
    RJ B R cap ta w0 wst o0 cs0 hi vb kind ns (ks ++ [x]) T (w3.setCell ⟨vb, 5, none⟩ (.slice ka3 (ks.length + 1) kc3)) a bb pp v cs na nc ka3 kc3 := by
  have e : ks.length + 1 = (ks ++ [x]).length := by simp
  rw [e] at hown hm ⊢
  exact h.addKid hle hnn (by rw [List.map_append]; exact hown) hg hm
/-- It begins: its box is laid. -/
theorem RJ.start (h : RSt B R cap ta w0 w a bb pp v T cs) (kind : Nat) :
    RJ B R cap ta w0 w v.ownBlock cs (w.heap.size + 1) w.heap.size kind [] [] T (w.alloc (.cells #[.int .i64 kind, .bool false, .int .i64 0, .string ⟨#[]⟩, .slice none 0 0, .slice none 0 0] 42)) a bb pp v cs none 0 none 0 := by
  have hf : Fr R none w (w.alloc (.cells #[.int .i64 kind, .bool false, .int .i64 0, .string ⟨#[]⟩, .slice none 0 0, .slice none 0 0] 42)) := (Fr.refl _ _ _).alloc _
  exact {
    st := h.scan hf (h.sc.alloc _)
    vbk := heap_alloc_new _ _
    own := ⟨World.ownsRow_nil _ _ _ _, World.ownsRow_nil _ _ _ _⟩
    fr := hf.weak
    mv := Moved.refl _ _
    hilo := by omega
    hisz := by simp
    olt := h.ownLt
    vhi := by omega
    vne := fun e => by have := h.ownLt _ e; omega
    nnew := fun g e => by cases e
    knew := fun g e => by cases e
    nsep := fun g e => by cases e
    ksep := fun g e => by cases e
    new := New.refl _ _
    le := by simp
    nle := by simp
    hvb := Nat.le_refl _
    hR := h.sc.rd.lt }
/-- It has ended: how value ends. -/
theorem RJ.fin (h : RJ B R cap ta w0 wst o0 cs0 hi vb kind ns ks T w a bb pp v cs na nc ka kc) {v' : Value} {a' : Nat} (_hst : RSt B R cap ta w0 w' a' 0 0 v' (T ++ [{ kind := kind, names := ns, kids := ks }]) (cs ++ aggL { kind := kind, names := ns, kids := ks } (.slice na ns.length nc) (.slice ka ks.length kc))) (f : Fr R v.ownBlock w w') (hm : Moved w.heap.size v.ownBlock v'.ownBlock) :
    Fr R o0 wst w' ∧ Moved wst.heap.size o0 v'.ownBlock ∧ New wst.heap.size cs0 (cs ++ aggL { kind := kind, names := ns, kids := ks } (.slice na ns.length nc) (.slice ka ks.length kc)) :=
  ⟨h.fr.trans f (h.mv.le h.hilo), (h.mv.le h.hilo).trans hm (Nat.le_trans h.hilo h.hisz), h.new.snoc (fun g e => Nat.le_trans h.hilo (h.nnew g e)) (fun g e => Nat.le_trans h.hilo (h.knew g e))⟩
theorem RJ.badfin (h : RJ B R cap ta w0 wst o0 cs0 hi vb kind ns ks T w a bb pp v cs na nc ka kc) : Fr R o0 wst w ∧ Moved wst.heap.size o0 v.ownBlock ∧ New wst.heap.size cs0 cs := ⟨h.fr, h.mv.le h.hilo, h.new⟩
end
end Go.Proofs.YtkpfiopgnobcdaaDoor
/-  The document's reader of JSON: a list, an object. -/
namespace Go.Proofs.YtkpfiopgnobcdaaDoor
open Go.RowKit

/-- A value is put, if there is room. -/
def putM (from_ : Nat) (x : V) (T : List V) (a : Nat) : Res (Nat × List V) := if T.length = 8192 then .bad from_ 27 else .ok (T.length, T ++ [x]) a
theorem hent16 (args : Array Value) (w : World) : (callFunc 16 args).run Tryd.prog w = .ok (.enter 16 args) w := Go.Proofs.enters_of Tryd.func16 (by kernel_rfl) rfl args w
theorem objK_colon (B : List UInt8) (sub : Sub) (s : List (List UInt8) × List Nat × List V) (a : Nat) : objK B sub s a = (colonM B s.1 a).andThen fun nm q => (sub s.2.2 q).andThen fun x a' => .ok (s.1 ++ [nm], s.2.1 ++ [x.1], x.2) a' := by
  unfold objK colonM
  cases nameM B s.1 a with
  | bad x c => rfl
  | ok nm p =>
    show (wantM B 58 (skip B p)).andThen _ = ((wantM B 58 (skip B p)).andThen _).andThen _
    cases wantM B 58 (skip B p) <;> rfl
theorem colon_fine {B : List UInt8} {ns : List (List UInt8)} {a : Nat} (h : a ≤ B.length) : Fine B (a + 1) (colonM B ns a) := by
  unfold colonM
  refine (name_fine h).bind fun nm p _ h1 h2 => (want_fine (pl_skip_le B p h2).2).bind fun _ q _ h3 h4 => ⟨?_, h4⟩
  have := (pl_skip_le B p h2).1
  omega
theorem want_at {B : List UInt8} {a c p : Nat} (h : aheadM B a = .ok c p) : wantM B 44 p = if c = 44 then .ok () (p + 1) else .bad p 22 := by
  obtain ⟨h1, h2, _⟩ := aheadM_at h
  unfold wantM
  rw [if_pos h2, ← h1]
section
variable {B : List UInt8} {R cap : Nat} {ta : Option Addr} {w0 w w' : World} {a bb pp : Nat} {v : Value} {T : List V} {cs : List Value}
variable {wst : World} {o0 : Option Nat} {cs0 : List Value} {hi vb kind : Nat} {ns : List (List UInt8)} {ks : List Nat} {na ka : Option Addr} {nc kc : Nat}
theorem RJ.six (h : RJ B R cap ta w0 wst o0 cs0 hi vb kind ns ks T w a bb pp v cs na nc ka kc) : w.cell? ⟨vb, 0, none⟩ = some (.int .i64 kind) ∧ w.cell? ⟨vb, 1, none⟩ = some (.bool false) ∧ w.cell? ⟨vb, 2, none⟩ = some (.int .i64 0) ∧ w.cell? ⟨vb, 3, none⟩ = some (.string ⟨#[]⟩) ∧ w.cell? ⟨vb, 4, none⟩ = some (.slice na ns.length nc) ∧ w.cell? ⟨vb, 5, none⟩ = some (.slice ka ks.length kc) := by
  refine ⟨?_, ?_, ?_, ?_, ?_, ?_⟩
  · rw [cell_of_row w vb 0 _ _ _ h.vbk]; rfl
  · rw [cell_of_row w vb 1 _ _ _ h.vbk]; rfl
  · rw [cell_of_row w vb 2 _ _ _ h.vbk]; rfl
  · rw [cell_of_row w vb 3 _ _ _ h.vbk]; rfl
  · rw [cell_of_row w vb 4 _ _ _ h.vbk]; rfl
  · rw [cell_of_row w vb 5 _ _ _ h.vbk]; rfl
/-- The list or object that has ended is put. -/
theorem put_any {v0 : Value} {T0 : List V} {n from_ : Nat} (h : RJ B R cap ta w0 wst v0.ownBlock cs0 hi vb kind ns ks T w a 0 0 v cs na nc ka kc) (hT : T0.length ≤ T.length) (ha : a ≤ B.length + n) :
    Calls Tryd.prog 25 #[.pointer (some ⟨R, 0, none⟩), .agg #[.int .i64 kind, .bool false, .int .i64 0, .string ⟨#[]⟩, .slice na ns.length nc, .slice ka ks.length kc], .int .i64 from_] w (DoneRV B R cap ta w0 wst v0 T0 cs0 n (putM from_ { kind := kind, names := ns, kids := ks } T a)) := by
  by_cases h8 : T.length = 8192
  · have := put_full h.st h8 { kind := kind, names := ns, kids := ks } na ka nc kc from_
    refine this.mono ?_
    rintro e w' ⟨rfl, hs, hf⟩
    unfold putM
    rw [if_pos h8]
    obtain ⟨f1, f2, f3⟩ := (h.scan hf hs).badfin
    exact ⟨rfl, a, v, T, cs, ha, (h.scan hf hs).st, f1, f2, f3, hT⟩
  · have := put_good h.st (by have := h.st.le; omega) { kind := kind, names := ns, kids := ks } na ka nc kc from_ ⟨h.own.names, h.own.kids⟩
    refine this.mono ?_
    rintro e w' ⟨v', rfl, hst, hf, hm⟩
    unfold putM
    rw [if_neg h8]
    obtain ⟨f1, f2, f3⟩ := h.fin hst hf hm
    exact ⟨rfl, v', _, hst, f1, f2, f3⟩
theorem put_len {B : List UInt8} {R cap : Nat} {ta : Option Addr} {w0 w wst : World} {a hi vb kind : Nat} {v : Value} {T : List V} {cs cs0 : List Value} {ns : List (List UInt8)} {ks : List Nat} {na ka : Option Addr} {nc kc : Nat} {v0 : Value} {T0 : List V} {n from_ l1 l2 : Nat} {kz : Int} (h : RJ B R cap ta w0 wst v0.ownBlock cs0 hi vb kind ns ks T w a 0 0 v cs na nc ka kc) (hT : T0.length ≤ T.length) (ha : a ≤ B.length + n) (e0 : (kind : Int) = kz) (e1 : ns.length = l1) (e2 : ks.length = l2) :
    Calls Tryd.prog 25 #[.pointer (some ⟨R, 0, none⟩), .agg #[.int .i64 kz, .bool false, .int .i64 0, .string ⟨#[]⟩, .slice na l1 nc, .slice ka l2 kc], .int .i64 from_] w (DoneRV B R cap ta w0 wst v0 T0 cs0 n (putM from_ { kind := kind, names := ns, kids := ks } T a)) := by
  subst e0 e1 e2
  exact put_any h hT ha
theorem DoneRV.ret {B : List UInt8} {R cap : Nat} {ta : Option Addr} {w0 w w' : World} {v : Value} {T : List V} {cs : List Value} {n : Nat} {M : Res (Nat × List V)} {e : Ending} (h : DoneRV B R cap ta w0 w v T cs n M e w') : ∃ k : Nat, e = .returned (.int .i64 k) := by
  cases M with
  | ok x q => exact ⟨x.1, h.1⟩
  | bad x c => exact ⟨0, h.1⟩
end
end Go.Proofs.YtkpfiopgnobcdaaDoor
