/-
  What the call of the reader's name does: a name that is new to its object.
-/
import Derived.Test.YtpffhckimilppaaDoorJTree
import Derived.Maps.OwnSet
import Derived.StringKeys
namespace Go.Proofs.YtpffhckimilppaaDoor.Js
open Go.RowKit Go.Maps

def litS (s : List UInt8) : Lit := .string s
def setD (ns : List (List UInt8)) : DataW Unit := setOf (.agg []) (ns.map litS)
def SetIs (w : World) (mb : Nat) (ns : List (List UInt8)) : Prop := w.ownsMap Tryd.prog 9 (unitElem (H := Unit)) mb ns.length (setD ns)
theorem lawS : Keyed Tryd.prog 9 := string_keyed Tryd.underlying9
theorem zero83 (w : World) : (zeroValue 77).run Tryd.prog w = .ok (.agg #[]) w := by kernel_rfl
theorem any_str (x : List UInt8) : ∀ l : List (List UInt8), (l.map litS).any (fun y => y.sameKey (litS x)) = decide (x ∈ l)
  | [] => by simp
  | a :: r => by
    rw [List.map_cons, List.any_cons, any_str x r]
    have : (litS a).sameKey (litS x) = decide (x = a) := by
      unfold litS Lit.sameKey
      rw [Bool.eq_iff_iff, beq_iff_eq, decide_eq_true_eq]
      exact ⟨fun h => h.symm, fun h => h.symm⟩
    rw [this]
    by_cases e : x = a <;> simp [e]
theorem has_setD (ns : List (List UInt8)) (x : List UInt8) : Maps.has (setD ns) (litS x) = decide (x ∈ ns) := by
  unfold setD
  rw [has_setOf _ _ _ (fun y hy => by obtain ⟨_, _, rfl⟩ := List.mem_map.1 hy; trivial)]
  exact any_str x ns
theorem setD_snoc (ns : List (List UInt8)) (x : List UInt8) : setD (ns ++ [x]) = (setD ns).put (litS x) (.agg []) := by
  unfold setD; rw [List.map_append, List.map_cons, List.map_nil, setOf_snoc]
theorem SetIs.fr {R : Nat} {o : Option Nat} {w w' : World} {mb : Nat} {ns : List (List UInt8)} (h : SetIs w mb ns) (f : Fr R o w w') (hR : mb ≠ R) (ho : o ≠ some mb) : SetIs w' mb ns := by
  have hlt := World.ownsMap.lt h
  obtain ⟨es, clock, hb, F, hs, hD⟩ := h
  exact ⟨es, clock, (f.block mb hlt hR ho).trans hb, F, hs, hD⟩
theorem quotedL_bd (B : List UInt8) : ∀ (k p : Nat) (acc s : List UInt8) (q : Nat), quotedL B k p acc = .ok s q → s.length ≤ acc.length + 4 * k
  | 0, p, acc, s, q, e => by simp [quotedL] at e
  | k + 1, p, acc, s, q, e => by
    simp only [quotedL, peekM] at e
    split at e
    · simp only [Res.andThen] at e
      split at e
      · simp only [Res.ok.injEq] at e; obtain ⟨rfl, _⟩ := e; omega
      · cases h : letterM B p with
        | bad x y => rw [h] at e; cases e
        | ok r a' =>
          rw [h] at e
          have := quotedL_bd B k _ _ _ _ e
          have h4 := Lib.runeCells_le r
          rw [Lib.runeCells_length] at h4
          rw [List.length_append] at this
          omega
    · cases e

section
variable {B : List UInt8} {R tb toff cap : Nat} {w0 w : World} {a d : Nat} {v : Value}
def DoneN (B : List UInt8) (R tb toff cap : Nat) (w0 w : World) (d : Nat) (v : Value) (mb : Nat) (ns : List (List UInt8)) : Res (List UInt8) → Ending → World → Prop
  | .ok s q, e, w' => e = .returned (strv s) ∧ Sc B R tb toff cap w0 w' q d v ∧ Fr R (some mb) w w' ∧ SetIs w' mb (ns ++ [s])
  | .bad a c, e, w' => e = .panicked (flt a c) ∧ Fr R (some mb) w w'

set_option maxRecDepth 100000 in
set_option maxHeartbeats 1600000 in
theorem name_any (E : Env B R tb toff cap w0) (h : Sc B R tb toff cap w0 w a d v) (mb : Nat) (hmb : R < mb) (ns : List (List UInt8)) (hm : SetIs w mb ns) (hns : ns.length ≤ 65536) :
    Calls Tryd.prog 70 #[.pointer (some ⟨R, 0, none⟩), .map (some mb)] w (DoneN B R tb toff cap w0 w d v mb ns (nameM B ns a)) := by
  have hl := E.len
  have HE : Hid (Env B R tb toff cap w0) := E
  clear E
  cases hA : aheadM B a with
  | bad a1 c =>
    have HR : Hid (nameM B ns a = .bad a1 c) := by show _ = _; simp [nameM, hA, Res.andThen]
    have HA : Hid (aheadM B a = .bad a1 c) := hA
    clear hA
    go_enter Tryd.func70, Tryd.ntmps70
    go_wp2_with (go_at_call 50; refine (badS (ahead_any HE.out h) HA.out).mono ?_; rintro e w1 ⟨rfl, hf1⟩)
    refine ⟨rfl, ?_⟩
    rw [HR.out]
    exact ⟨rfl, hf1.weak⟩
  | ok c p =>
    have hpc : c = byteAt B p ∧ p < B.length := by
      unfold aheadM peekM at hA
      split at hA
      · rename_i hlt
        simp only [Res.ok.injEq] at hA
        obtain ⟨rfl, rfl⟩ := hA
        exact ⟨rfl, hlt⟩
      · cases hA
    obtain ⟨hcb, hpl⟩ := hpc
    clear hcb
    have HA : Hid (aheadM B a = .ok c p) := hA
    clear hA
    by_cases h34 : c = 34
    · subst h34
      cases hQ : quotedM B p with
      | bad a1 k =>
        have HR : Hid (nameM B ns a = .bad a1 k) := by show _ = _; simp [nameM, HA.out, hQ, Res.andThen]
        have HQ : Hid (quotedM B p = .bad a1 k) := hQ
        clear hQ
        go_enter Tryd.func70, Tryd.ntmps70
        go_wp2_with (first | (go_at_call 50; refine (okS (ahead_any HE.out h) HA.out).mono ?_; rintro e w1 ⟨rfl, hs1, hf1⟩; simp only [u8v]; have c1 := hs1.rd.c1) | (go_at_call 57; refine (badS (quoted_any HE.out hs1 hpl) HQ.out).mono ?_; rintro e w2 ⟨rfl, hf2⟩))
        refine ⟨rfl, ?_⟩
        rw [HR.out]
        exact ⟨rfl, (hf1.trans0 hf2).weak⟩
      | ok s q =>
        have HQ : Hid (quotedM B p = .ok s q) := hQ
        have hsl : s.length ≤ 4 * (B.length + 1) := by have := quotedL_bd B _ _ _ _ _ hQ; simpa using this
        clear hQ
        have hz : (⟨s.toArray⟩ : ByteArray).size = s.length := by simp [ByteArray.size]
        have hkey : keyOf Tryd.prog 9 (.string ⟨s.toArray⟩) = some (litS s) := by
          have := Go.WideMaps.keyOf_string_mk (P := Tryd.prog) (k := 9) Tryd.underlying9 (s := ⟨s.toArray⟩) (by rw [hz]; unfold maxLen; omega)
          show _ = some (Lit.string s)
          simpa using this
        by_cases hin : s ∈ ns
        · have HR : Hid (nameM B ns a = .bad p 28) := by show _ = _; simp [nameM, HA.out, HQ.out, Res.andThen, hin]
          have hhas : Maps.has (setD ns) (litS s) = true := by rw [has_setD]; simp [hin]
          go_enter Tryd.func70, Tryd.ntmps70
          go_wp2_with (first | (go_at_call 50; refine (okS (ahead_any HE.out h) HA.out).mono ?_; rintro e w1 ⟨rfl, hs1, hf1⟩; simp only [u8v]; have c1 := hs1.rd.c1) | (go_at_call 57; refine (okS (quoted_any HE.out hs1 hpl) HQ.out).mono ?_; rintro e w2 ⟨rfl, hs2, hf2⟩; simp only [strv]; have hm2 := hm.fr (hf1.trans0 hf2) (by omega) (by simp)) | (at_lookup; refine wpList_lookup_own_unit _ rfl _ _ 76 rfl 9 77 lawS Tryd.underlying76 (zero83 _) mb ns.length _ rfl hm2 _ _ rfl hkey ?_) | (go_at_call 43; refine (fail_any _ _ _).mono ?_; rintro e w' ⟨rfl, rfl⟩))
          refine ⟨rfl, ?_⟩
          rw [HR.out]
          exact ⟨rfl, ((hf1.trans0 hf2).alloc _).weak⟩
        · have HR : Hid (nameM B ns a = .ok s q) := by show _ = _; simp [nameM, HA.out, HQ.out, Res.andThen, hin]
          have hhas : Maps.has (setD ns) (litS s) = false := by rw [has_setD]; simp [hin]
          go_enter Tryd.func70, Tryd.ntmps70
          go_wp2_with (first | (go_at_call 50; refine (okS (ahead_any HE.out h) HA.out).mono ?_; rintro e w1 ⟨rfl, hs1, hf1⟩; simp only [u8v]; have c1 := hs1.rd.c1) | (go_at_call 57; refine (okS (quoted_any HE.out hs1 hpl) HQ.out).mono ?_; rintro e w2 ⟨rfl, hs2, hf2⟩; simp only [strv]; have hm2 := hm.fr (hf1.trans0 hf2) (by omega) (by simp)) | (at_lookup; refine wpList_lookup_own_unit _ rfl _ _ 76 rfl 9 77 lawS Tryd.underlying76 (zero83 _) mb ns.length _ rfl hm2 _ _ rfl hkey ?_) | (at_mapUpdate; refine wpList_mapUpdate_own _ rfl _ _ _ 76 rfl 9 77 lawS Tryd.underlying76 (unitElem (H := Unit)) mb ns.length _ rfl (hm2.alloc _) (by unfold maxLen; omega) _ _ _ rfl rfl hkey _ [] unitElem_mk ?_; intro w4 hown4 hgrow4))
          go_ret
          rw [HR.out]
          refine ⟨rfl, (hs2.alloc _).grown hgrow4 (fun k e => by cases e; exact hmb), (((hf1.trans0 hf2).alloc _).weak).trans0 (fr_grown hgrow4), ?_⟩
          unfold SetIs
          rw [setD_snoc, List.length_append]
          exact hown4
    · have HR : Hid (nameM B ns a = .bad p 22) := by show _ = _; simp [nameM, HA.out, Res.andThen, h34]
      have h34' : ((c : Int) == 34) = false := by simp; omega
      clear h34
      go_enter Tryd.func70, Tryd.ntmps70
      go_wp2_with (first | (go_at_call 50; refine (okS (ahead_any HE.out h) HA.out).mono ?_; rintro e w1 ⟨rfl, hs1, hf1⟩; simp only [u8v]; have c1 := hs1.rd.c1) | (go_at_call 43; refine (fail_any _ _ _).mono ?_; rintro e w' ⟨rfl, rfl⟩))
      refine ⟨rfl, ?_⟩
      rw [HR.out]
      exact ⟨rfl, hf1.weak⟩
end
end Go.Proofs.YtpffhckimilppaaDoor.Js