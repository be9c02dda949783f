/-
  Several texts in one.
-/
import Derived.Test.YtkpfiopgnobcdaaDoorVS
import Derived.Test.YtkpfiopgnobcdaaDoorVB
import Derived.Test.YtkpfiopgnobcdaaDoorVSame
import Derived.Laws.MakeOwn
import Derived.Laws.AppendOwnNone
import Derived.Lib.AppendStr
import Derived.Lib.AppendIntMem
import Derived.Deep.RegionHeld3
/-  The document's Parse of JSON, whatever the bytes. -/
namespace Go.Proofs.YtkpfiopgnobcdaaDoor
open Go.RowKit

theorem own_less {w : World} {base n : Nat} {e : TypeId} {size : Nat} {v : Value} {xs : List Value} (h : w.ownsRow base e size v n xs) : w.ownsRow 0 e size v n xs :=
  ⟨h.1, h.2.imp id fun ⟨g, c, cur, e1, _, r⟩ => ⟨g, c, cur, e1, Nat.zero_le _, r⟩⟩
section
variable {B : List UInt8} {cap : Nat} {ta : Option Addr} {w : World}
set_option maxRecDepth 100000 in
set_option maxHeartbeats 3200000 in
theorem rparse_all (htxt : ∀ j, j < B.length → ∃ y, ta = some y ∧ (y.add j).block < w.heap.size ∧ w.cell? (y.add j) = some (.int .u8 (byteAt B j))) (hc : B.length ≤ cap) (hcm : cap ≤ 9223372036854775807) :
    Calls Tryd.prog 11 #[.slice ta B.length cap] w (DoneR w (parseM B)) := by
  by_cases hl : 65536 < B.length
  · have HR : Hid (parseM B = .bad 65536 20) := by show _ = _; simp [parseM, hl]
    have hl' : (65536 : Int) < (B.length : Int) := by omega
    clear hl htxt
    go_enter Tryd.func11, Tryd.ntmps11
    go_wp2
    go_ret3
    rw [HR.out]
    exact ⟨rfl, Below.refl _ _⟩
  · have hl' : ¬ (65536 : Int) < (B.length : Int) := by omega
    have E : REnv B w.heap.size cap ta w := ⟨htxt, by omega, hc, hcm⟩
    have hPM : parseM B = readM B := by unfold parseM; rw [if_neg hl]
    obtain ⟨W0, hW0⟩ : ∃ W0, w.alloc (.cells #[.slice ta B.length cap, .int .i64 0, .int .i64 0, .int .i64 0, .slice none 0 0] 45) = W0 := ⟨_, rfl⟩
    have hS : RSt B w.heap.size cap ta w W0 0 0 0 (.slice none 0 0) [] [] := by
      rw [← hW0]
      exact ⟨⟨(Below.refl _ _).alloc (Nat.le_refl _) _, heap_alloc_new _ _, by omega⟩, World.ownsRow_nil _ _ _ _, rfl, by simp⟩
    have HB0 : Hid (Below w.heap.size w W0) := by show Below _ _ _; rw [← hW0]; exact (Below.refl _ _).alloc (Nat.le_refl _) _
    have HE := hide E
    have HV := hide (rvalue_all E 16 1 rfl W0 0 (.slice none 0 0) [] [] 1 rfl hS (by omega))
    have HPM := hide hPM
    have HWW := hide hW0
    clear htxt E hPM hS
    cases hM : valueM B 16 [] 0 with
    | bad x c =>
      have HR : Hid (parseM B = .bad x c) := by show _ = _; rw [HPM.out]; unfold readM; rw [hM]; rfl
      have hcc : c ≠ 0 := by have := value_fine (B := B) 16 [] 0 (by omega); rw [hM] at this; exact this.2
      have hc1 : ((c : Int) == 0) = false := by simp; omega
      have hc2 : ((c : Int) != 0) = true := by simp; omega
      have HVB := hide (badRV HV.out hM)
      clear hM HV
      go_enter Tryd.func11, Tryd.ntmps11
      go_wp2_with (first
        | (go_at_call 16; refine HVB.out.mono ?_; rintro e w1 ⟨rfl, q, v1, T1, cs1, hq, hst, _, _, _, _⟩; have H1 := hide hst; clear hst)
        | (go_at_call 17; refine (gap_any HE.out H1.out.sc).mono ?_; rintro e w2 ⟨rfl, hs2, hf2⟩; have H2 := hide hs2; have c2 := hs2.rd.c2; have c3 := hs2.rd.c3; clear hs2 hf2))
      go_quiet (fail)
      go_wp2
      go_ret3
      rw [HR.out]
      exact ⟨rfl, below_drewN H2.out.below _⟩
    | ok x q =>
      have hfa := value_fine (B := B) 16 [] 0 (by omega)
      rw [hM] at hfa
      have hsk := (pl_skip_le B q hfa.2).2
      have HVO := hide (okRV HV.out hM)
      have HRD : Hid (readM B = if skip B q < B.length then .bad (skip B q) 22 else .ok x.2 0) := by show _ = _; unfold readM; rw [hM]; rfl
      clear hM HV hfa
      by_cases hlt : skip B q < B.length
      · have HR : Hid (parseM B = .bad (skip B q) 22) := by show _ = _; rw [HPM.out, HRD.out, if_pos hlt]
        have hlt' : ((skip B q : Nat) : Int) < (B.length : Int) := by omega
        clear HRD
        go_enter Tryd.func11, Tryd.ntmps11
        go_wp2_with (first
          | (go_at_call 16; refine HVO.out.mono ?_; rintro e w1 ⟨rfl, v1, cs1, hst, _, _, _⟩; have H1 := hide hst; clear hst)
          | (go_at_call 17; refine (gap_any HE.out H1.out.sc).mono ?_; rintro e w2 ⟨rfl, hs2, hf2⟩; have H2 := hide hs2; have c1 := hs2.rd.c1; have c2 := hs2.rd.c2; clear hs2 hf2)
          | (go_at_call 18; refine (no_good H2.out (skip B q) 22).mono ?_; rintro e w3 ⟨rfl, hs3, hf3⟩; have H3 := hide hs3; have d2 := hs3.rd.c2; have d3 := hs3.rd.c3; clear hs3 hf3))
        go_quiet (fail)
        go_wp2
        go_ret3
        rw [HR.out]
        exact ⟨rfl, below_drewN H3.out.below _⟩
      · have HR : Hid (parseM B = .ok x.2 0) := by show _ = _; rw [HPM.out, HRD.out, if_neg hlt]
        have hlt' : ¬ ((skip B q : Nat) : Int) < (B.length : Int) := by omega
        clear HRD
        go_enter Tryd.func11, Tryd.ntmps11
        go_wp2_with (first
          | (go_at_call 16; refine HVO.out.mono ?_; rintro e w1 ⟨rfl, v1, cs1, hst, _, _, _⟩; have H1 := hide hst; clear hst)
          | (go_at_call 17; refine (gap_any HE.out H1.out.sc).mono ?_; rintro e w2 ⟨rfl, hs2, hf2⟩; have H2 := hide (H1.out.scan hf2 hs2); have c1 := hs2.rd.c1; have c2 := hs2.rd.c2; have c4 := hs2.rd.c4; clear hs2 hf2))
        go_ret3
        rw [HR.out]
        exact ⟨v1, cs1, rfl, own_less H2.out.own, H2.out.reps, H2.out.sc.below⟩
end
end Go.Proofs.YtkpfiopgnobcdaaDoor
/-  What the law JsonReads does. -/
namespace Go.Proofs.YtkpfiopgnobcdaaDoor
open Go.RowKit

def spareL : List UInt8 := [115, 112, 97, 114, 101]
/-- A tree of the answer, or none. -/
def TreeR (w : World) (v : Value) : Res (List V) → Prop
  | .ok T _ => TreeAt w v (T.map V.toI)
  | .bad _ _ => v = .slice none 0 0
def posR : Res (List V) → Int
  | .ok _ _ => 0
  | .bad a _ => a
def errR : Res (List V) → Int
  | .ok _ _ => 0
  | .bad _ c => c
theorem doneR_out {w : World} {M : Res (List V)} {e : Ending} {w' : World} (h : DoneR w M e w') : ∃ v, e = .returned (.tuple #[v, .int .i64 (posR M), .int .i64 (errR M)]) ∧ TreeR w' v M ∧ Below w.heap.size w w' := by
  cases M with
  | ok T z =>
    obtain ⟨v, cs, h1, h2, h3, h4⟩ := h
    exact ⟨v, h1, tree_own h2 h3, h4⟩
  | bad a c => exact ⟨_, h.1, rfl, h.2⟩
theorem TreeR.later {w w' : World} {v : Value} {M : Res (List V)} (h : TreeR w v M) (f : Below w.heap.size w w') : TreeR w' v M := by
  cases M with
  | ok T z => exact TreeAt.later h f
  | bad a c => exact h
theorem tree_nil (w : World) : TreeAt w (.slice none 0 0) [] := ⟨none, 0, rfl, by simp, fun i x h => by simp at h⟩
theorem sameR {w : World} {v u : Value} {M : Res (List V)} (h : TreeR w v M) (k : TreeR w u M) : Calls Tryd.prog 12 #[v, u] w fun e w' => e = .returned (.bool true) ∧ Below w.heap.size w w' := by
  cases M with
  | ok T z => exact same_true h k
  | bad a c =>
    rw [show v = .slice none 0 0 from h, show u = .slice none 0 0 from k]
    exact same_true (tree_nil w) (tree_nil w)
theorem bytes_conv {w : World} {y : Addr} {cap : Nat} {l : List UInt8} (h : BytesAt w y l) : (convert 22 9 (.slice (some y) l.length cap)).run Tryd.prog w = .ok (.string ⟨l.toArray⟩) w :=
  run_convert_bytes_back (P := Tryd.prog) w 22 9 5 y cap l Tryd.underlying22 Tryd.underlying5 Tryd.underlying9 fun j hj => by
    rw [h j hj]
    unfold byteAt
    simp [hj]
theorem slice_conv {w : World} {a : Option Addr} {len cap : Nat} {l : List UInt8} (h : SliceOf w a len cap l) : (convert 22 9 (.slice a len cap)).run Tryd.prog w = .ok (.string ⟨l.toArray⟩) w := by
  rcases h with ⟨rfl, rfl, rfl, rfl⟩ | ⟨y, rfl, rfl, _, _, hy⟩
  · rw [run_convert_bytes_string w 22 9 5 none 0 0 Tryd.underlying22 Tryd.underlying5 Tryd.underlying9]
    rfl
  · exact bytes_conv hy
theorem SliceOf.later {w w' : World} {a : Option Addr} {len cap : Nat} {l : List UInt8} (h : SliceOf w a len cap l) (f : Below w.heap.size w w') : SliceOf w' a len cap l :=
  h.imp id fun ⟨y, h1, h2, h3, h4, h5⟩ => ⟨y, h1, h2, h3, h4, h5.later f⟩
theorem SliceOf.parse {w : World} {a : Option Addr} {len cap : Nat} {l : List UInt8} (h : SliceOf w a len cap l) : Calls Tryd.prog 11 #[.slice a len cap] w (DoneR w (parseM l)) := by
  rcases h with ⟨rfl, rfl, rfl, rfl⟩ | ⟨y, rfl, rfl, h3, h4, hy⟩
  · exact rparse_all (B := []) (cap := 0) (ta := none) (fun j hj => by simp at hj) (by simp) (by omega)
  · exact rparse_all (fun j hj => ⟨y, rfl, block_lt_of_cell (hy j hj), hy j hj⟩) h3 h4
/-- The row that the law makes: the bytes, and five more. -/
structure InRow (w : World) (g cp : Nat) (B : List UInt8) : Prop where
  at_ : BytesAt w ⟨g, 0, none⟩ (B ++ spareL)
  lt : g < w.heap.size
  cap : B.length + 5 ≤ cp ∧ cp ≤ 9223372036854775807
theorem add0 (g j : Nat) : (⟨g, 0, none⟩ : Addr).add j = ⟨g, j, none⟩ := by
  unfold Addr.add
  split
  · rename_i h; subst h; rfl
  · simp
theorem addO (g o j : Nat) : (⟨g, o, none⟩ : Addr).add j = ⟨g, o + j, none⟩ := by
  unfold Addr.add
  split
  · rename_i h; subst h; rfl
  · rfl
theorem byteAt_left {A C : List UInt8} {j : Nat} (h : j < A.length) : byteAt (A ++ C) j = byteAt A j := by
  unfold byteAt; simp [List.getElem?_append_left h]
theorem byteAt_right {A C : List UInt8} {j : Nat} : byteAt (A ++ C) (A.length + j) = byteAt C j := by
  unfold byteAt; simp [List.getElem?_append_right]
section
variable {w w' : World} {g cp : Nat} {B : List UInt8}
theorem InRow.later (h : InRow w g cp B) (f : Below w.heap.size w w') : InRow w' g cp B := ⟨h.at_.later f, Nat.lt_of_lt_of_le h.lt f.size, h.cap⟩
theorem InRow.head (h : InRow w g cp B) : BytesAt w ⟨g, 0, none⟩ B := fun j hj => by
  rw [h.at_ j (by rw [List.length_append]; omega), byteAt_left hj]
theorem InRow.tail (h : InRow w g cp B) : BytesAt w ⟨g, B.length, none⟩ spareL := fun j hj => by
  have := h.at_ (B.length + j) (by rw [List.length_append]; omega)
  rw [add0, byteAt_right] at this
  rw [addO]; exact this
end
theorem inrow_own {w : World} {base n : Nat} {v : Value} {B : List UInt8} (h : w.ownsRow base 5 1 v n (Lib.byteCells B ++ Lib.strCells ⟨spareL.toArray⟩)) : ∃ g cp, v = .slice (some ⟨g, 0, none⟩) (B.length + 5) cp ∧ InRow w g cp B := by
  have hc : Lib.byteCells B ++ Lib.strCells ⟨spareL.toArray⟩ = Lib.byteCells (B ++ spareL) := by
    rw [Lib.strCells_toArray]; unfold Lib.byteCells; rw [List.map_append]
  rw [hc] at h
  have hn : n = B.length + 5 := by have := h.1; rw [Lib.byteCells_length, List.length_append] at this; simp [spareL] at this; omega
  subst hn
  rcases h.2 with ⟨_, h0⟩ | ⟨g, cap, cur, rfl, _, hg, h1, h2, _⟩
  · omega
  · unfold maxLen at h2
    refine ⟨g, cap, rfl, fun j hj => ?_, (h.lt g rfl).2, h1, by omega⟩
    have hlen : j < (Lib.byteCells (B ++ spareL)).length := by rw [Lib.byteCells_length]; exact hj
    obtain ⟨_, hu⟩ := byteCells_at (List.getElem?_eq_getElem hlen)
    have hx := h.cells (g := g) rfl j _ (List.getElem?_eq_getElem hlen)
    rw [hu] at hx
    exact hx
theorem app_bytes {w : World} {ops : Array Oper} {rest : List Oper} {o : Oper} {a : Act} {Q : Exit → Act → World → Prop} (s x : Operand)
    (hgd : o.guard = none) (ho : o.op = .call { callee := .builtin .append, args := #[s, x], argTypes := #[22, 22] }) (base : Nat) (v : Value) (n : Nat) (xs : List UInt8) (hs : a.eval s = v) (hown : w.ownsRow base 5 1 v n (Lib.byteCells xs))
    {ad : Option Addr} {len c : Nat} {B : List UInt8} (hx : a.eval x = .slice ad len c) (hr : SliceOf w ad len c B) (hlen : n + len ≤ 1000000) (hbase : base ≤ w.heap.size)
    (h : ∀ v' w', w'.ownsRow base 5 1 v' (n + len) (Lib.byteCells (xs ++ B)) → w.grownBy w' v.ownBlock → wpList Tryd.prog ops Q rest (a.put o.dst v') w') : wpList Tryd.prog ops Q (o :: rest) a w := by
  obtain ⟨i5, hi5, hz0, hz1, hz2⟩ := info_parts info5
  rcases hr with ⟨rfl, rfl, rfl, rfl⟩ | ⟨y, rfl, rfl, hc1, hc2, hy⟩
  · refine wpList_append_own_none hgd s x 22 ho base 5 i5 1 Tryd.underlying22 hi5 v n _ hs hown hx ?_
    exact h v w (by rw [List.append_nil]; exact hown) ⟨rfl, rfl, rfl, Nat.le_refl _, fun _ _ _ => rfl⟩
  · refine wpList_append_own _ hgd s x 22 ho base 5 i5 (.int .u8 0) 1 1 Tryd.underlying22 hi5 hz0 hz1 hz2 rfl (by decide) v n _ hs hown y B.length c (Lib.byteCells B) hx (by simp [Lib.byteCells_length]) hy.news (byteCells_one _) (by unfold maxLen; omega) (by omega) hbase ?_
    intro v' w' h1 h2 _
    refine h v' w' ?_ h2
    unfold Lib.byteCells at h1 ⊢
    rw [List.map_append]
    exact h1
/-- What the last row reads. -/
structure KS (w0 : World) (g cp : Nat) (B : List UInt8) (a : Option Addr) (cap : Nat) (v u : Value) (w : World) : Prop where
  t4 : TreeR w v (parseM B)
  t5 : TreeR w u (parseM B)
  row : InRow w g cp B
  src : SliceOf w a B.length cap B
  below : Below w0.heap.size w0 w
theorem KS.later {w0 w w' : World} {g cp : Nat} {B : List UInt8} {a : Option Addr} {cap : Nat} {v u : Value} (h : KS w0 g cp B a cap v u w) (f : Below w.heap.size w w') : KS w0 g cp B a cap v u w' :=
  ⟨h.t4.later f, h.t5.later f, h.row.later f, h.src.later f, h.below.trans (f.mono h.below.size)⟩
theorem KS.convs {w0 w : World} {g cp : Nat} {B : List UInt8} {a : Option Addr} {cap : Nat} {v u : Value} (h : KS w0 g cp B a cap v u w) :
    (convert 22 9 (.slice (some ⟨g, 0, none⟩) B.length cp)).run Tryd.prog w = .ok (.string ⟨B.toArray⟩) w ∧ (convert 22 9 (.slice a B.length cap)).run Tryd.prog w = .ok (.string ⟨B.toArray⟩) w ∧ (convert 22 9 (.slice (some ⟨g, B.length, none⟩) 5 (cp - B.length))).run Tryd.prog w = .ok (.string ⟨#[115, 112, 97, 114, 101]⟩) w :=
  ⟨bytes_conv h.row.head, slice_conv h.src, bytes_conv (l := spareL) h.row.tail⟩
theorem in_parse {w : World} {g cp : Nat} {B : List UInt8} (h : InRow w g cp B) (ht : Lib.Utf8Tabs 0 1 w) (h2 : 2 ≤ w.heap.size) : Calls Tryd.prog 10 #[.slice (some ⟨g, 0, none⟩) B.length cp] w (DoneR w (parseM B)) :=
  parse_json (tb := g) (toff := 0) (fun j hj => by rw [Nat.zero_add, ← add0]; exact h.head j hj) h.lt (by have := h.cap.1; omega) h.cap.2 ht h2
set_option maxRecDepth 100000 in
set_option maxHeartbeats 6400000 in
theorem reads_in (a : Option Addr) (cap : Nat) (B : List UInt8) (w : World) (hB : SliceOf w a B.length cap B) (ht : Lib.Utf8Tabs 0 1 w) (h2 : 2 ≤ w.heap.size) (hL : B.length ≤ 131072) :
    Calls Tryd.prog 3 #[.slice a B.length cap] w fun e w' => e = .returned (.bool true) ∧ Below w.heap.size w w' := by
  have HT : Hid (Lib.Utf8Tabs 0 1 w) := ht
  have HS := hide hB
  have hL' : ¬ (131072 : Int) < (B.length : Int) := by omega
  obtain ⟨i5, hi5, hz0, hz1, hz2⟩ := info_parts info5
  have HI := hide (And.intro hi5 (And.intro hz0 (And.intro hz1 hz2)))
  clear ht hB hi5 hz0 hz1 hz2
  go_enter Tryd.func3, Tryd.ntmps3
  go_wp2_with (first
    | (go_at_call 9; refine (awake_any w HT.out h2).mono ?_; rintro e w1 ⟨rfl, hb1⟩; obtain ⟨wm, r1, hom, hgm⟩ := run_makeSlice_owned (P := Tryd.prog) (w := w1) w.heap.size 22 5 i5 (.int .u8 0) 1 Tryd.underlying22 HI.out.1 HI.out.2.1 HI.out.2.2.1 .i64 .i64 (B.length + 9) (by omega) (by rw [HI.out.2.2.2]; omega) (by unfold maxLen; omega) hb1.size; rw [show ((B.length + 9 : Nat) : Int) = (B.length : Int) + 9 by omega] at r1; have HBm := hide (hb1.grown hgm hb1.size fun k hk => (by cases hk)); have HOm := hide hom; clear hom hgm)
    | (at_builtin; refine app_bytes (.tmp 18) (.tmp 19) rfl rfl w.heap.size _ 0 [] rfl HOm.out rfl (HS.out.later HBm.out) (by omega) HBm.out.size ?_; intro v2 w2 ho2 hg2; have HB2 := hide (HBm.out.grown hg2 HBm.out.size fun k hk => (HOm.out.lt k hk).1); have HO2 := hide ho2; clear ho2 hg2)
    | (at_builtin; refine Lib.wpList_append_own_string _ rfl (.tmp 20) (.const (.string ⟨#[115, 112, 97, 114, 101]⟩)) 22 9 rfl w.heap.size 5 i5 Tryd.underlying22 Tryd.underlying9 HI.out.1 HI.out.2.1 HI.out.2.2.1 HI.out.2.2.2 _ _ _ rfl HO2.out ⟨#[115, 112, 97, 114, 101]⟩ rfl (by have e5 : ByteArray.size ⟨#[115, 112, 97, 114, 101]⟩ = 5 := rfl; rw [e5]; unfold maxLen; omega) (by have e5 : ByteArray.size ⟨#[115, 112, 97, 114, 101]⟩ = 5 := rfl; rw [e5]; omega) HB2.out.size ?_; intro v3 w3 ho3 hg3 _; have HB3 := hide (HB2.out.grown hg3 HB2.out.size fun k hk => (HO2.out.lt k hk).1); simp only [List.nil_append] at ho3; obtain ⟨g, cp, rfl, hin⟩ := inrow_own ho3; have HIN := hide hin; have hcp := hin.cap.1; have hcp2 := hin.cap.2; have hs1 : B.length ≤ cp := (by omega); have hs2 : (B.length : Int) ≤ (cp : Int) := (by omega); have hs3 : ¬ (cp : Int) < (B.length : Int) := (by omega); have hs8 : (B.length : Int) ≤ (B.length : Int) + 5 := (by omega); have hs9 : B.length ≤ B.length + 5 := Nat.le_add_right _ _; have hs10 : ¬ cp - B.length = 0 := (by omega); have hs11 : ¬ B.length = cp := (by omega); have hs12 : ¬ cp = B.length := (by omega); have hs13 : B.length < cp := (by omega); have hs14 : ¬ cp ≤ B.length := (by omega); have hs4 : (0 : Int) ≤ (B.length : Int) := Int.natCast_nonneg _; have hs5 : (B.length : Int) ≤ ((B.length + 5 : Nat) : Int) := (by omega); have hs6 : B.length + 5 - B.length = 5 := Nat.add_sub_cancel_left _ _; have hs7 : (0 : Int) ≤ (B.length : Int) ∧ (B.length : Int) ≤ (cp : Int) := ⟨hs4, hs2⟩; clear ho3 hg3 hin)
    | (go_at_call 10; refine (in_parse HIN.out (tabs_below HB3.out h2 HT.out) (Nat.le_trans h2 HB3.out.size)).mono ?_; intro e w4 hD; obtain ⟨v4, rfl, ht4, hb4⟩ := doneR_out hD; have H4 := hide (And.intro ht4 (And.intro (HIN.out.later hb4) (HB3.out.trans (hb4.mono HB3.out.size)))); clear hD ht4 hb4)
    | (go_at_call 11; refine ((HS.out.later H4.out.2.2).parse).mono ?_; intro e w5 hD; obtain ⟨v5, rfl, ht5, hb5⟩ := doneR_out hD; have H5 := hide (And.intro ht5 (And.intro (H4.out.1.later hb5) (And.intro (H4.out.2.1.later hb5) (H4.out.2.2.trans (hb5.mono H4.out.2.2.size))))); clear hD ht5 hb5))
  have hk5 : KS w g cp B a cap v4 v5 w5 := ⟨H5.out.2.1, H5.out.1, H5.out.2.2.1, HS.out.later H5.out.2.2.2, H5.out.2.2.2⟩
  have hk6 := hk5.later (Below.refl w5.heap.size w5).drew
  obtain ⟨q1, q2, q3⟩ := hk5.convs
  obtain ⟨p1, p2, p3⟩ := hk6.convs
  clear HIN HS H4 H5 HB3 HB2 HO2 HBm HOm HT
  go_region_held3 (fun w' => (convert 22 9 (.slice (some ⟨g, 0, none⟩) B.length cp)).run Tryd.prog w' = .ok (.string ⟨B.toArray⟩) w' ∧ (convert 22 9 (.slice a B.length cap)).run Tryd.prog w' = .ok (.string ⟨B.toArray⟩) w' ∧ (convert 22 9 (.slice (some ⟨g, B.length, none⟩) 5 (cp - B.length))).run Tryd.prog w' = .ok (.string ⟨#[115, 112, 97, 114, 101]⟩) w' ∧ KS w g cp B a cap v4 v5 w') (refine ⟨?_, ?_, ?_, ?_⟩ <;> assumption) (first
    | (go_at_call 12; refine (sameR (KS.t4 (by assumption)) (KS.t5 (by assumption))).mono ?_; rintro e w6 ⟨rfl, hb6⟩; have hk7 := KS.later (by assumption) hb6; obtain ⟨r1, r2, r3⟩ := hk7.convs; clear hb6))
  all_goals
    go_wp2
    go_ret
    exact ⟨rfl, KS.below (by assumption)⟩
set_option maxRecDepth 100000 in
set_option maxHeartbeats 3200000 in
theorem reads_out (a : Option Addr) (len cap : Nat) (w : World) (ht : Lib.Utf8Tabs 0 1 w) (h2 : 2 ≤ w.heap.size) (hL : 131072 < len) :
    Calls Tryd.prog 3 #[.slice a len cap] w fun e w' => e = .returned (.bool true) ∧ Below w.heap.size w w' := by
  have HT : Hid (Lib.Utf8Tabs 0 1 w) := ht
  clear ht
  have hL' : (131072 : Int) < (len : Int) := by omega
  go_enter Tryd.func3, Tryd.ntmps3
  go_wp2_with (go_at_call 9; refine (awake_any w HT.out h2).mono ?_; rintro e w1 ⟨rfl, hb1⟩)
  go_ret
  exact ⟨rfl, hb1⟩
end Go.Proofs.YtkpfiopgnobcdaaDoor
