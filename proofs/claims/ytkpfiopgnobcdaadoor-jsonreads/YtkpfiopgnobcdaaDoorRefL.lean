/-
  The document's reader of JSON: a name, where none begins.
-/
import Derived.Test.YtkpfiopgnobcdaaDoorRefK
namespace Go.Proofs.YtkpfiopgnobcdaaDoor
open Go.RowKit

section
variable {B : List UInt8} {R cap : Nat} {ta : Option Addr} {w0 w w' : World} {a bb pp : Nat} {v : Value} {T : List V} {cs : List Value}
variable {wst : World} {o0 : Option Nat} {cs0 : List Value} {hi vb kind : Nat} {ns : List (List UInt8)} {ks : List Nat} {na ka : Option Addr} {nc kc : Nat}
/-- A name and its colon. -/
def colonM (B : List UInt8) (ns : List (List UInt8)) (a : Nat) : Res (List UInt8) :=
  (nameM B ns a).andThen fun n p => (wantM B 58 (skip B p)).andThen fun _ q => .ok n q
def DoneNm (B : List UInt8) (R cap : Nat) (ta : Option Addr) (w0 wst : World) (o0 : Option Nat) (cs0 : List Value) (hi vb kind : Nat) (ns : List (List UInt8)) (ks : List Nat) (T : List V) (v : Value) (cs : List Value) (ka : Option Addr) (kc : Nat) : Res (List UInt8) → Ending → World → Prop
  | .ok n q, e, w' => e = .returned (.tuple #[]) ∧ ∃ na nc, RJ B R cap ta w0 wst o0 cs0 hi vb kind (ns ++ [n]) ks T w' q 0 0 v cs na nc ka kc
  | .bad x c, e, w' => e = .returned (.tuple #[]) ∧ ∃ ns' na nc q, q ≤ B.length + 4 ∧ RJ B R cap ta w0 wst o0 cs0 hi vb kind ns' ks T w' q c x v cs na nc ka kc
/-- The text ends. -/
theorem rname_end (E : REnv B R cap ta w0) (h : RJ B R cap ta w0 wst o0 cs0 hi vb kind ns ks T w a 0 0 v cs na nc ka kc) (ha : a ≤ B.length) {x c : Nat} (hA : aheadM B a = .bad x c) :
    Calls Tryd.prog 37 #[.pointer (some ⟨R, 0, none⟩), .pointer (some ⟨vb, 0, none⟩)] w (DoneNm B R cap ta w0 wst o0 cs0 hi vb kind ns ks T v cs ka kc (colonM B ns a)) := by
  have HM : Hid (colonM B ns a = .bad x c) := by show _ = _; simp [colonM, nameM, hA, Res.andThen]
  have hc : c = 21 := by
    unfold aheadM peekM at hA
    split at hA
    · cases hA
    · simp only [Res.bad.injEq] at hA; exact hA.2.symm
  subst hc
  have HN := hide (badH (next_good E h.st.sc ha) hA)
  have HJ := hide h
  clear hA h
  go_enter Tryd.func37, Tryd.ntmps37
  go_wp2_with (go_at_call 23; refine HN.out.mono ?_; rintro e w1 ⟨rfl, q, hq, hs1, hf1⟩; have c1 := hs1.rd.c1; have c2 := hs1.rd.c2)
  go_end0
  rw [HM.out]
  exact ⟨rfl, ns, na, nc, q, by omega, HJ.out.scan hf1 hs1⟩
/-- Another byte stands there. -/
theorem rname_byte (E : REnv B R cap ta w0) (h : RJ B R cap ta w0 wst o0 cs0 hi vb kind ns ks T w a 0 0 v cs na nc ka kc) (ha : a ≤ B.length) {c p : Nat} (hA : aheadM B a = .ok c p) (hc : c ≠ 34) :
    Calls Tryd.prog 37 #[.pointer (some ⟨R, 0, none⟩), .pointer (some ⟨vb, 0, none⟩)] w (DoneNm B R cap ta w0 wst o0 cs0 hi vb kind ns ks T v cs ka kc (colonM B ns a)) := by
  have HM : Hid (colonM B ns a = .bad p 22) := by show _ = _; simp [colonM, nameM, hA, Res.andThen, hc]
  have hp := (aheadM_at hA).2.1
  have h0 : (0 : Int) ≤ (c : Int) := by omega
  have h34 : ((c : Int) != 34) = true := by simp; omega
  have HN := hide (okH (next_good E h.st.sc ha) hA)
  have HJ := hide h
  clear hA h
  go_enter Tryd.func37, Tryd.ntmps37
  go_wp2_with (first | (go_at_call 23; refine HN.out.mono ?_; rintro e w1 ⟨rfl, hs1, hf1⟩; have c1 := hs1.rd.c1) | (go_at_call 18; refine (no_good hs1 p 22).mono ?_; rintro e w2 ⟨rfl, hs2, hf2⟩; have c2 := hs2.rd.c2))
  go_end0
  rw [HM.out]
  exact ⟨rfl, ns, na, nc, p, by omega, HJ.out.scan (hf1.trans0 hf2) hs2⟩
end
end Go.Proofs.YtkpfiopgnobcdaaDoor
