/-
  Several texts in one.
-/
import Derived.Test.YtkpfiopgnobcdaaDoorRead
import Derived.Test.YtkpfiopgnobcdaaDoorModel
import Derived.Test.YtkpfiopgnobcdaaDoorRows
import Derived.ProofKit
import Derived.LaidMore
import Derived.OpenShut
import Derived.Lib.LaidU8T
import Derived.PinnedBridge
import Derived.Lay
/-  What json.Parse does. -/
namespace Go.Proofs.YtkpfiopgnobcdaaDoor
open Go.RowKit

def parseM (B : List UInt8) : Res (List V) := if 65536 < B.length then .bad 65536 20 else readM B
section
variable {B : List UInt8} {tb toff cap : Nat} {w : World}
set_option maxRecDepth 100000 in
set_option maxHeartbeats 800000 in
theorem parse_json (htxt : ∀ j, j < B.length → w.cell? ⟨tb, toff + j, none⟩ = some (.int .u8 (byteAt B j))) (htb : tb < w.heap.size) (hc : B.length ≤ cap) (hcm : cap ≤ 9223372036854775807) (ht : Lib.Utf8Tabs 0 1 w) (h2 : 2 ≤ w.heap.size) :
    Calls Tryd.prog 10 #[.slice (some ⟨tb, toff, none⟩) B.length cap] w (DoneR w (parseM B)) := by
  by_cases hl : 65536 < B.length
  · have HR : Hid (parseM B = .bad 65536 20) := by show _ = _; simp [parseM, hl]
    have hl' : (65536 : Int) < (B.length : Int) := by omega
    clear hl htxt ht
    go_enter Tryd.func10, Tryd.ntmps10
    go_wp2
    go_ret3
    rw [HR.out]
    exact ⟨rfl, Below.refl _ _⟩
  · have HR : Hid (parseM B = readM B) := by show _ = _; simp [parseM, hl]
    have hl' : ¬ (65536 : Int) < (B.length : Int) := by omega
    have HC : Hid (Calls Tryd.prog 15 #[.slice (some ⟨tb, toff, none⟩) B.length cap] w (DoneR w (readM B))) := read_any (read_env htxt htb (by omega) hc hcm ht h2)
    clear hl htxt ht
    cases hM : readM B with
    | bad a c =>
      rw [hM] at HC HR
      have HC2 : Hid (Calls Tryd.prog 15 #[.slice (some ⟨tb, toff, none⟩) B.length cap] w fun e w' => e = .returned (.tuple #[.slice none 0 0, .int .i64 a, .int .i64 c]) ∧ Below w.heap.size w w') := HC
      clear HC hM
      go_enter Tryd.func10, Tryd.ntmps10
      go_wp2_with (go_at_call 15; refine HC2.out.mono ?_; rintro e w1 ⟨rfl, hb1⟩)
      go_ret3
      rw [HR.out]
      exact ⟨rfl, hb1⟩
    | ok T a =>
      rw [hM] at HC HR
      have HC2 : Hid (Calls Tryd.prog 15 #[.slice (some ⟨tb, toff, none⟩) B.length cap] w fun e w' => ∃ v cs, e = .returned (.tuple #[v, .int .i64 0, .int .i64 0]) ∧ w'.ownsRow 0 42 6 v T.length cs ∧ Reps w' cs T ∧ Below w.heap.size w w') := HC
      clear HC hM
      go_enter Tryd.func10, Tryd.ntmps10
      go_wp2_with (go_at_call 15; refine HC2.out.mono ?_; rintro e w1 ⟨v, cs, rfl, ho, hr, hb1⟩)
      go_ret3
      rw [HR.out]
      exact ⟨v, cs, rfl, ho, hr, hb1⟩
end
end Go.Proofs.YtkpfiopgnobcdaaDoor
/-  What the fixed facts (Awake) of layer 2 do. -/
namespace Go.Proofs.YtkpfiopgnobcdaaDoor
open Go.RowKit

theorem parse_row (l : List UInt8) (w : World) (fz : Nat × Nat) (ht : Lib.Utf8Tabs 0 1 w) (h2 : 2 ≤ w.heap.size) (hl : l.length ≤ 9223372036854775807) :
    Calls Tryd.prog 10 #[.slice (some ⟨w.heap.size, 0, none⟩) l.length l.length] (w.alloc (.cells (Lib.byteCells l).toArray 5 fz)) (DoneR (w.alloc (.cells (Lib.byteCells l).toArray 5 fz)) (parseM l)) := by
  refine parse_json (B := l) (tb := w.heap.size) (toff := 0) ?_ (by simp) (Nat.le_refl _) hl (tabs_below ((Below.refl _ w).alloc (Nat.le_refl _) _) h2 ht) (by simp; omega)
  intro j hj
  rw [cell_of_row _ w.heap.size (0 + j) _ _ _ (heap_alloc_new w _), Nat.zero_add]
  simp [Lib.byteCells, byteAt, List.getD_eq_getElem?_getD, List.getElem?_eq_getElem hj]

def t1 : List UInt8 := [91, 49, 44, 32, 34, 97, 34, 93]
def t2 : List UInt8 := [123, 34, 97, 34, 58, 49, 44, 34, 97, 34, 58, 50, 125]
theorem p1 : parseM t1 = .ok [{ kind := 3, num := 1 }, { kind := 4, text := [97] }, { kind := 5, kids := [0, 1] }] 0 := by kernel_rfl
theorem p2 : parseM t2 = .bad 7 28 := by kernel_rfl
theorem row1 (w : World) (ht : Lib.Utf8Tabs 0 1 w) (h2 : 2 ≤ w.heap.size) :
    Calls Tryd.prog 10 #[.slice (some ⟨w.heap.size, 0, none⟩) 8 8] (w.alloc (.cells #[.int .u8 91, .int .u8 49, .int .u8 44, .int .u8 32, .int .u8 34, .int .u8 97, .int .u8 34, .int .u8 93] 5 (8, 9))) fun e w' =>
      ∃ g cap, e = .returned (.tuple #[.slice (some ⟨g, 0, none⟩) 3 cap, .int .i64 0, .int .i64 0]) ∧ w'.cell? ⟨g, 12, none⟩ = some (.int .i64 5) ∧ w'.cell? ⟨g, 9, none⟩ = some (.string ⟨#[97]⟩) ∧ Below w.heap.size w w' := by
  have h := parse_row t1 w (8, 9) ht h2 (by decide)
  rw [p1] at h
  refine Calls.mono h ?_
  rintro e w' ⟨v, cs, rfl, ho, hr, hb⟩
  obtain ⟨n0, k0, r0, e0, _, n1, k1, r1, e1, _, n2, k2, r2, e2, _, e3⟩ := hr
  subst e3 e2 e1
  rcases ho.2 with ⟨_, h0⟩ | ⟨g, cap, cur, rfl, _⟩
  · cases h0
  · have hadd : ∀ j, (⟨g, 0, none⟩ : Addr).add j = ⟨g, j, none⟩ := fun j => by unfold Addr.add; split <;> simp_all
    refine ⟨g, cap, rfl, ?_, ?_, ((Below.refl _ w).alloc (Nat.le_refl _) _).trans (hb.mono (by simp))⟩
    · have := ho.cells (g := g) rfl 12 (.int .i64 5) (by rw [e0]; rfl)
      rwa [hadd] at this
    · have := ho.cells (g := g) rfl 9 (.string ⟨#[97]⟩) (by rw [e0]; rfl)
      rwa [hadd] at this
theorem row2 (w : World) (ht : Lib.Utf8Tabs 0 1 w) (h2 : 2 ≤ w.heap.size) :
    Calls Tryd.prog 10 #[.slice (some ⟨w.heap.size, 0, none⟩) 13 13] (w.alloc (.cells #[.int .u8 123, .int .u8 34, .int .u8 97, .int .u8 34, .int .u8 58, .int .u8 49, .int .u8 44, .int .u8 34, .int .u8 97, .int .u8 34, .int .u8 58, .int .u8 50, .int .u8 125] 5 (13, 14))) fun e w' =>
      e = .returned (.tuple #[.slice none 0 0, .int .i64 7, .int .i64 28]) ∧ Below w.heap.size w w' := by
  have h := parse_row t2 w (13, 14) ht h2 (by decide)
  rw [p2] at h
  refine Calls.mono h ?_
  rintro e w' ⟨rfl, hb⟩
  exact ⟨rfl, ((Below.refl _ w).alloc (Nat.le_refl _) _).trans (hb.mono (by simp))⟩

theorem conv_mark (w : World) (C : Array Value) (n c : Nat) : (convert 22 22 (.slice (some ⟨w.heap.size, 0, none⟩) n c)).run Tryd.prog (w.alloc (.cells C 5)) = .ok (.slice (some ⟨w.heap.size, 0, none⟩) n c) (w.alloc (.cells C 5 (C.size, C.size + 1))) := by
  have hb : (w.alloc (.cells C 5)).heap[w.heap.size]? = some (.cells C 5 (0, 0)) := heap_alloc_new w _
  have hsh : (w.alloc (.cells C 5)).shape? w.heap.size = some (5, C.size) := by unfold World.shape?; rw [hb]
  have hfr : (w.alloc (.cells C 5)).freeze ⟨w.heap.size, C.size, none⟩ 1 = w.alloc (.cells C 5 (C.size, C.size + 1)) := by
    unfold World.freeze
    rw [if_neg (by decide)]
    show ({ w with heap := (w.heap.push (.cells C 5)).modify w.heap.size _ } : World) = { w with heap := w.heap.push (.cells C 5 (C.size, C.size + 1)) }
    congr 1
    apply Array.ext_getElem?
    intro i
    simp only [Array.getElem?_modify, Array.getElem?_push]
    by_cases e : i = w.heap.size
    · subst e; simp
    · have e' : ¬ w.heap.size = i := fun h => e h.symm
      rw [if_neg e, if_neg e', if_neg e]
  simp [convert, run_underlying Tryd.underlying22, run_underlying Tryd.underlying5, markStringish, hsh, hfr]

set_option maxRecDepth 100000 in
set_option maxHeartbeats 800000 in
theorem awake_any (w : World) (ht : Lib.Utf8Tabs 0 1 w) (h2 : 2 ≤ w.heap.size) :
    Calls Tryd.prog 9 #[] w fun e w' => e = .returned (.bool true) ∧ Below w.heap.size w w' := by
  have HT : Hid (Lib.Utf8Tabs 0 1 w) := ht
  clear ht
  have hcv := conv_mark
  go_enter Tryd.func9, Tryd.ntmps9
  go_wp2_with (first | (go_at_call 10; refine (row2 w1 (tabs_below hb1 h2 HT.out) (Nat.le_trans h2 hb1.size)).mono ?_; rintro e w2 ⟨rfl, hb2⟩; have c12' := (hb2.cell (p := ⟨g, 12, none⟩) (block_lt_of_cell c12)).trans c12; have c9' := (hb2.cell (p := ⟨g, 9, none⟩) (block_lt_of_cell c9)).trans c9) | (go_at_call 10; refine (row1 w HT.out h2).mono ?_; rintro e w1 ⟨g, cap, rfl, c12, c9, hb1⟩))
  go_ret
  exact ⟨rfl, hb1.trans (hb2.mono hb1.size)⟩
end Go.Proofs.YtkpfiopgnobcdaaDoor
/-  What reading a list of so many sevens answers; no program in it. -/
namespace Go.Proofs.YtkpfiopgnobcdaaDoor
open Go.RowKit

/-- A list of n sevens. -/
structure Sev (B : List UInt8) (n : Nat) : Prop where
  len : B.length = 2 * n + 1
  b0 : byteAt B 0 = 91
  bs : ∀ i, i < n → byteAt B (1 + 2 * i) = 55
  bc : ∀ i, i + 1 < n → byteAt B (2 + 2 * i) = 44
  be : byteAt B (2 * n) = 93
  pos : 0 < n
def v7 : V := { kind := 3, num := 7 }
section
variable {B : List UInt8} {n : Nat}
theorem ahead_at {a : Nat} (h : blankB (byteAt B a) = false) (ha : a < B.length) : aheadM B a = .ok (byteAt B a) a := by
  have : skip B a = a := run_no _ _ _ (fun _ => h)
  unfold aheadM peekM
  rw [this, if_pos ha]
theorem Sev.next (S : Sev B n) (i : Nat) (hi : i < n) : byteAt B (2 + 2 * i) = 44 ∨ byteAt B (2 + 2 * i) = 93 := by
  by_cases h : i + 1 < n
  · exact .inl (S.bc i h)
  · have : 2 + 2 * i = 2 * n := by omega
    rw [this]; exact .inr S.be
theorem Sev.number (S : Sev B n) (i : Nat) (hi : i < n) : numberM B (1 + 2 * i) = .ok 7 (2 + 2 * i) := by
  have hl := S.len
  have h1 : 1 + 2 * i < B.length := by omega
  have e1 : numEnd B (1 + 2 * i) = 2 + 2 * i := by
    unfold numEnd
    rw [run_yes _ _ _ h1 (by rw [S.bs i hi]; rfl), run_no _ _ _ (fun _ => ?_)]
    · omega
    · have : 1 + 2 * i + 1 = 2 + 2 * i := by omega
      rw [this]
      rcases S.next i hi with e | e <;> rw [e] <;> rfl
  have e2 : numTxt B (1 + 2 * i) = [55] := by
    unfold numTxt
    rw [e1, List.drop_eq_getElem_cons h1]
    have : 2 + 2 * i - (1 + 2 * i) = 1 := by omega
    rw [this]
    have h3 := S.bs i hi
    rw [byteAt_get B _ h1] at h3
    have : B[1 + 2 * i] = 55 := UInt8.toNat_inj.1 (by rw [h3]; rfl)
    rw [this]; rfl
  unfold numberM
  rw [e2, e1]
  rfl
theorem Sev.kid (S : Sev B n) (i : Nat) (hi : i < n) (sub : Option Sub) (T : List V) : valueS B sub T (1 + 2 * i) = if T.length = 8192 then .bad (1 + 2 * i) 27 else .ok (T.length, T ++ [v7]) (2 + 2 * i) := by
  have hl := S.len
  unfold valueS
  rw [ahead_at (by rw [S.bs i hi]; rfl) (by omega), S.bs i hi]
  simp only [Res.andThen]
  have : begunM B sub 55 T (1 + 2 * i) = .ok (v7, T) (2 + 2 * i) := by
    unfold begunM
    rw [if_neg (by decide), if_neg (by decide), if_neg (by decide), if_neg (by decide), if_pos (by decide), S.number i hi]
    rfl
  rw [this]
theorem Sev.each (S : Sev B n) (sub : Option Sub) : ∀ (r i k : Nat) (ks : List Nat) (T : List V), i + r + 1 = n → T.length = i → i ≤ 8192 →
    (n ≤ 8192 → ∃ ks' T', eachL B 93 (listK (valueS B sub)) (r + 1 + k) (ks, T) (1 + 2 * i) = .ok (ks', T') (2 * n + 1) ∧ T'.length = n) ∧ (8192 < n → eachL B 93 (listK (valueS B sub)) (r + 1 + k) (ks, T) (1 + 2 * i) = .bad 16385 27)
  | r, i, k, ks, T, hr, hT, hi => by
    have hl := S.len
    have e0 : r + 1 + k = (r + k) + 1 := by omega
    rw [e0]
    by_cases h8 : i = 8192
    · have hk : listK (valueS B sub) (ks, T) (1 + 2 * i) = .bad (1 + 2 * i) 27 := by
        unfold listK
        rw [S.kid i (by omega), if_pos (by simp only; omega)]; rfl
      refine ⟨fun h => by omega, fun _ => ?_⟩
      unfold eachL
      rw [hk]
      simp only [Res.andThen]
      congr 1; omega
    · have hk : listK (valueS B sub) (ks, T) (1 + 2 * i) = .ok (ks ++ [T.length], T ++ [v7]) (2 + 2 * i) := by
        unfold listK
        rw [S.kid i (by omega), if_neg (by simp only; omega)]; rfl
      have hstep : eachL B 93 (listK (valueS B sub)) (r + k + 1) (ks, T) (1 + 2 * i) = (aheadM B (2 + 2 * i)).andThen fun c p => if c = 93 then .ok (ks ++ [T.length], T ++ [v7]) (p + 1) else (wantM B 44 p).andThen fun _ q => eachL B 93 (listK (valueS B sub)) (r + k) (ks ++ [T.length], T ++ [v7]) q := by
        conv => lhs; unfold eachL
        rw [hk]; rfl
      rw [hstep]
      cases r with
      | zero =>
        have e2 : 2 + 2 * i = 2 * n := by omega
        rw [e2, ahead_at (by rw [S.be]; rfl) (by omega), S.be]
        refine ⟨fun _ => ⟨_, _, rfl, by simp; omega⟩, fun h => by omega⟩
      | succ r =>
        have hb := S.bc i (by omega)
        have ha : aheadM B (2 + 2 * i) = .ok 44 (2 + 2 * i) := by rw [ahead_at (by rw [hb]; rfl) (by omega), hb]
        have hw : wantM B 44 (2 + 2 * i) = .ok () (2 + 2 * i + 1) := by unfold wantM; rw [if_pos (by omega), if_pos hb]
        have hn : (Res.ok 44 (2 + 2 * i) : Res Nat).andThen (fun c p => if c = 93 then .ok (ks ++ [T.length], T ++ [v7]) (p + 1) else (wantM B 44 p).andThen fun _ q => eachL B 93 (listK (valueS B sub)) (r + 1 + k) (ks ++ [T.length], T ++ [v7]) q) = eachL B 93 (listK (valueS B sub)) (r + 1 + k) (ks ++ [T.length], T ++ [v7]) (1 + 2 * (i + 1)) := by
          simp only [Res.andThen]
          rw [if_neg (by decide), hw]
          simp only
          congr 1; omega
        rw [ha, hn]
        exact Sev.each S sub r (i + 1) k _ _ (by omega) (by simp; omega) (by omega)
theorem Sev.read (S : Sev B n) (hn : n ≤ 10000) : (n < 8192 → ∃ T, readM B = .ok T 0 ∧ T.length = n + 1) ∧ (n = 8192 → readM B = .bad 0 27) ∧ (8192 < n → readM B = .bad 16385 27) := by
  have hl := S.len
  have hp := S.pos
  have hE := S.each (some (valueM B 14)) (n - 1) 0 (B.length + 1 - n) [] [] (by omega) rfl (by omega)
  have hk : n - 1 + 1 + (B.length + 1 - n) = B.length + 1 := by omega
  rw [hk] at hE
  have hv : valueM B 16 [] 0 = (eachL B 93 (listK (valueS B (some (valueM B 14)))) (B.length + 1) ([], []) (1 + 2 * 0)).andThen fun s a' => if s.2.length = 8192 then .bad 0 27 else .ok (s.2.length, s.2 ++ [{ kind := 5, kids := s.1 }]) a' := by
    rw [show valueS B (some (valueM B 14)) = valueM B 15 from rfl]
    show valueS B (some (valueM B 15)) [] 0 = _
    unfold valueS
    rw [ahead_at (by rw [S.b0]; rfl) (by omega), S.b0]
    simp only [Res.andThen]
    have : begunM B (some (valueM B 15)) 91 [] 0 = listM B (some (valueM B 15)) [] 0 := by
      unfold begunM
      rw [if_neg (by decide), if_neg (by decide), if_neg (by decide), if_neg (by decide), if_neg (by decide), if_pos rfl]
    rw [this]
    unfold listM eachM
    have hb1 : byteAt B (0 + 1) = 55 := S.bs 0 hp
    rw [ahead_at (by rw [hb1]; rfl) (by omega), hb1]
    simp only [Res.andThen]
    rw [if_neg (by decide)]
    rw [show (0 + 1 : Nat) = 1 from rfl]
    cases eachL B 93 (listK (valueM B 15)) (B.length + 1) ([], []) 1 <;> rfl
  have hend : skip B (2 * n + 1) = 2 * n + 1 := run_no _ _ _ (fun h => by omega)
  refine ⟨fun h => ?_, fun h => ?_, fun h => ?_⟩
  · obtain ⟨ks, T, e, hT⟩ := hE.1 (by omega)
    refine ⟨T ++ [{ kind := 5, kids := ks }], ?_, by simp; omega⟩
    unfold readM; rw [hv, e]; simp only [Res.andThen]; rw [if_neg (by omega)]; simp only; rw [hend, if_neg (by omega)]
  · obtain ⟨ks, T, e, hT⟩ := hE.1 (by omega)
    unfold readM; rw [hv, e]; simp only [Res.andThen]; rw [if_pos (by omega)]
  · unfold readM; rw [hv, hE.2 h]; rfl
end
end Go.Proofs.YtkpfiopgnobcdaaDoor
/-  What the law of nested brackets (JsonNests) does. -/
namespace Go.Proofs.YtkpfiopgnobcdaaDoor
open Go.RowKit

def opL (obj : Bool) (n i : Nat) : List UInt8 := if obj = true ∧ i + 1 < n then [123, 34, 107, 34, 58] else [91]
def clL (obj : Bool) (n i : Nat) : List UInt8 := if obj = true ∧ i + 1 < n then [125] else [93]
def nestS (obj : Bool) (n : Nat) : Nat → List UInt8
  | 0 => []
  | k + 1 => nestS obj n k ++ opL obj n k
def nestE (obj : Bool) (n : Nat) : Nat → List UInt8
  | 0 => []
  | k + 1 => clL obj n k ++ nestE obj n k
theorem nestS_len (obj : Bool) (n : Nat) : ∀ k, (nestS obj n k).length ≤ 5 * k
  | 0 => by simp [nestS]
  | k + 1 => by have := nestS_len obj n k; simp only [nestS, List.length_append, opL]; split <;> simp <;> omega
theorem nestE_len (obj : Bool) (n : Nat) : ∀ k, (nestE obj n k).length ≤ k
  | 0 => by simp [nestE]
  | k + 1 => by have := nestE_len obj n k; simp only [nestE, List.length_append, clL]; split <;> simp <;> omega
def resOk (obj : Bool) (n : Nat) : Bool :=
  match parseM (nestS obj n n ++ nestE obj n n) with
  | .ok T _ => decide (n ≤ 16 ∧ T.length = n)
  | .bad a c => decide (16 < n ∧ c = 26 ∧ a = if obj then 80 else 16)
theorem res_all : ((List.range 41).all fun n => n == 0 || (resOk true n && resOk false n)) = true := by kernel_rfl

theorem str_app (a b : List UInt8) : (⟨a.toArray⟩ : ByteArray) ++ ⟨b.toArray⟩ = ⟨(a ++ b).toArray⟩ := by
  apply ByteArray.ext
  simp [ByteArray.data_append]

theorem small_mod (x : Int) : ∃ m : Nat, wrap64 (1 + wrap64 ((IntKind.u64.wrap x).tmod 40)) = (m : Int) ∧ 1 ≤ m ∧ m ≤ 40 := by
  have h0 : 0 ≤ IntKind.u64.wrap x := by
    unfold IntKind.wrap; simp [IntKind.signed, IntKind.bits]; omega
  have h1 := Int.tmod_nonneg 40 h0
  have h2 := Int.tmod_lt_of_pos (IntKind.u64.wrap x) (show (0 : Int) < 40 by decide)
  refine ⟨(1 + (IntKind.u64.wrap x).tmod 40).toNat, ?_, by omega, by omega⟩
  simp only [wrap64]
  omega
/-- The bytes of a string, in new memory. -/
theorem bytes_of (l : List UInt8) (w : World) (hl : l.length ≤ 9223372036854775807) : ∃ (C : Nat) (D : Array Value) (fz : Nat × Nat), (convert 9 22 (.string ⟨l.toArray⟩)).run Tryd.prog w = .ok (.slice (some ⟨w.heap.size, 0, none⟩) l.length C) (w.drew.alloc (.cells D 5 fz)) ∧
    l.length ≤ C ∧ C ≤ 9223372036854775807 ∧ ∀ j, j < l.length → D[j]? = some (.int .u8 (byteAt l j)) := by
  have hz : (⟨l.toArray⟩ : ByteArray).size = l.length := by simp [ByteArray.size]
  have h := run_bytes_of_string (P := Tryd.prog) w 9 22 5 ⟨l.toArray⟩ Tryd.underlying9 Tryd.underlying22 Tryd.underlying5
  rw [hz] at h
  have h1 := grownCap_ge w l.length 0 5
  have h2 := grownCap_le_maxLen w l.length 0 5 (by unfold maxLen; omega)
  unfold maxLen at h2
  refine ⟨_, _, _, h, h1, by omega, fun j hj => ?_⟩
  unfold bytesRow
  rw [Array.getElem?_append_left (by simpa using hj)]
  simp [byteAt, List.getD_eq_getElem?_getD, List.getElem?_eq_getElem hj]
theorem parse_new (l : List UInt8) (w : World) (C : Nat) (D : Array Value) (fz : Nat × Nat) (h1 : l.length ≤ C) (h2 : C ≤ 9223372036854775807) (hD : ∀ j, j < l.length → D[j]? = some (.int .u8 (byteAt l j))) (ht : Lib.Utf8Tabs 0 1 w) (hw : 2 ≤ w.heap.size) :
    Calls Tryd.prog 10 #[.slice (some ⟨w.heap.size, 0, none⟩) l.length C] (w.drew.alloc (.cells D 5 fz)) (DoneR (w.drew.alloc (.cells D 5 fz)) (parseM l)) := by
  refine parse_json (B := l) (tb := w.heap.size) (toff := 0) ?_ (by simp) h1 h2 (tabs_below (((Below.refl _ w).drew).alloc (Nat.le_refl _) _) hw ht) (by simp; omega)
  intro j hj
  have := heap_alloc_new w.drew (.cells D 5 fz)
  rw [cell_of_row _ w.heap.size (0 + j) _ _ _ this, Nat.zero_add]
  exact hD j hj

set_option maxRecDepth 100000 in
set_option maxHeartbeats 1600000 in
theorem nests_any (x : Int) (obj : Bool) (w : World) (ht : Lib.Utf8Tabs 0 1 w) (h2 : 2 ≤ w.heap.size) :
    Calls Tryd.prog 6 #[.int .i64 x, .bool obj] w fun e w' => e = .returned (.bool true) ∧ Below w.heap.size w w' := by
  have HT : Hid (Lib.Utf8Tabs 0 1 w) := ht
  clear ht
  obtain ⟨m, hm, hm1, hm2⟩ := small_mod x
  have HRES : Hid (resOk obj m = true) := by
    show _ = _
    have h := List.all_eq_true.1 res_all m (List.mem_range.2 (by omega))
    have hm0 : (m == 0) = false := by simp; omega
    rw [hm0, Bool.false_or, Bool.and_eq_true] at h
    cases obj
    · exact h.2
    · exact h.1
  go_enter Tryd.func6, Tryd.ntmps6
  go_wp2_with (go_at_call 9; refine (awake_any w HT.out h2).mono ?_; rintro e w1 ⟨rfl, hb1⟩)
  rw [hm]
  clear hm
  go_loop [5, 6, 7] (fun s en i => ∃ k : Nat, k ≤ m ∧ i = .int .i64 k ∧ s = .string ⟨(nestS obj m k).toArray⟩ ∧ en = .string ⟨(nestE obj m k).toArray⟩) (fun _ _ i => m - (intOf i).toNat)
  case atStart => exact ⟨0, Nat.zero_le _, rfl, rfl, rfl⟩
  case round =>
    obtain ⟨k, hk, rfl, rfl, rfl⟩ := hrel
    have hs1 := nestS_len obj m k
    have hs2 := nestE_len obj m k
    by_cases hlt : k < m
    · by_cases ho : obj = true ∧ k + 1 < m
      · have HS : Hid ((⟨(nestS obj m k).toArray⟩ : ByteArray) ++ ⟨#[123, 34, 107, 34, 58]⟩ = ⟨(nestS obj m (k + 1)).toArray⟩) := by
          show _ = _; rw [nestS, opL, if_pos ho]; exact str_app (nestS obj m k) [123, 34, 107, 34, 58]
        have HN : Hid ((⟨#[125]⟩ : ByteArray) ++ ⟨(nestE obj m k).toArray⟩ = ⟨(nestE obj m (k + 1)).toArray⟩) := by
          show _ = _; rw [nestE, clL, if_pos ho]; exact str_app [125] (nestE obj m k)
        obtain ⟨rfl, ho2⟩ := ho
        have ho3 : (k : Int) < (m : Int) - 1 := by omega
        go_wp2
        go_round
        case rel => exact ⟨k + 1, by omega, by go_num, by rw [HS.out], by rw [HN.out]⟩
        case measure => simp [intOf]; omega
      · have HS : Hid ((⟨(nestS obj m k).toArray⟩ : ByteArray) ++ ⟨#[91]⟩ = ⟨(nestS obj m (k + 1)).toArray⟩) := by
          show _ = _; rw [nestS, opL, if_neg ho]; exact str_app (nestS obj m k) [91]
        have HN : Hid ((⟨#[93]⟩ : ByteArray) ++ ⟨(nestE obj m k).toArray⟩ = ⟨(nestE obj m (k + 1)).toArray⟩) := by
          show _ = _; rw [nestE, clL, if_neg ho]; exact str_app [93] (nestE obj m k)
        have ho2 : obj = false ∨ obj = true ∧ ¬ (k : Int) < (m : Int) - 1 := by
          cases obj
          · exact .inl rfl
          · exact .inr ⟨rfl, by simp at ho; omega⟩
        clear ho
        rcases ho2 with rfl | ⟨rfl, ho3⟩
        all_goals
          go_wp2
          go_round
          case rel => exact ⟨k + 1, by omega, by go_num, by rw [HS.out], by rw [HN.out]⟩
          case measure => simp [intOf]; omega
    · obtain rfl : k = m := by omega
      obtain ⟨L, hL⟩ : ∃ L, Hid (nestS obj k k ++ nestE obj k k = L) := ⟨_, rfl⟩
      have hap : (⟨(nestS obj k k).toArray⟩ : ByteArray) ++ ⟨(nestE obj k k).toArray⟩ = ⟨L.toArray⟩ := by rw [← hL.out]; exact str_app _ _
      have hLl : L.length ≤ 1000 := by rw [← hL.out, List.length_append]; omega
      obtain ⟨C, D, fz, hcv, hC1, hC2, hD⟩ := bytes_of L w1 (by omega)
      have HP : Hid (Calls Tryd.prog 10 #[.slice (some ⟨w1.heap.size, 0, none⟩) L.length C] (w1.drew.alloc (.cells D 5 fz)) (DoneR (w1.drew.alloc (.cells D 5 fz)) (parseM L))) := parse_new L w1 C D fz hC1 hC2 hD (tabs_below hb1 h2 HT.out) (Nat.le_trans h2 hb1.size)
      have HRS := HRES.out
      unfold resOk at HRS
      rw [hL.out] at HRS
      cases hM : parseM L with
      | ok T z =>
        rw [hM] at HRS HP
        simp only [decide_eq_true_eq] at HRS
        obtain ⟨hk16, hTl⟩ := HRS
        have HP2 : Hid (Calls Tryd.prog 10 #[.slice (some ⟨w1.heap.size, 0, none⟩) L.length C] (w1.drew.alloc (.cells D 5 fz)) fun e w' => ∃ ta tc, e = .returned (.tuple #[.slice ta k tc, .int .i64 0, .int .i64 0]) ∧ Below w.heap.size w w') := by
          have H : Calls Tryd.prog 10 #[.slice (some ⟨w1.heap.size, 0, none⟩) L.length C] (w1.drew.alloc (.cells D 5 fz)) fun e w' => ∃ v cs, e = .returned (.tuple #[v, .int .i64 0, .int .i64 0]) ∧ w'.ownsRow 0 42 6 v T.length cs ∧ Reps w' cs T ∧ Below (w1.drew.alloc (.cells D 5 fz)).heap.size (w1.drew.alloc (.cells D 5 fz)) w' := HP
          refine H.mono ?_
          rintro e w' ⟨v, cs, rfl, ho, _, hb⟩
          obtain ⟨ta, tc, rfl⟩ := own_shape ho
          exact ⟨ta, tc, by rw [hTl], (hb1.drew.alloc hb1.size _).trans (hb.mono (by have := hb1.size; simp; omega))⟩
        clear HP hM hTl
        have hk16' : (k : Int) ≤ 16 := by omega
        go_wp2_with (go_at_call 10; refine HP2.out.mono ?_; rintro e w2 ⟨ta, tc, rfl, hb2⟩)
        go_ret
        exact ⟨rfl, hb2⟩
      | bad z c =>
        rw [hM] at HRS HP
        simp only [decide_eq_true_eq] at HRS
        obtain ⟨hk16, rfl, rfl⟩ := HRS
        have HP2 : Hid (Calls Tryd.prog 10 #[.slice (some ⟨w1.heap.size, 0, none⟩) L.length C] (w1.drew.alloc (.cells D 5 fz)) fun e w' => e = .returned (.tuple #[.slice none 0 0, .int .i64 ((if obj = true then 80 else 16 : Nat) : Int), .int .i64 (26 : Nat)]) ∧ Below w.heap.size w w') := by
          have H : Calls Tryd.prog 10 #[.slice (some ⟨w1.heap.size, 0, none⟩) L.length C] (w1.drew.alloc (.cells D 5 fz)) fun e w' => e = .returned (.tuple #[.slice none 0 0, .int .i64 ((if obj = true then 80 else 16 : Nat) : Int), .int .i64 (26 : Nat)]) ∧ Below (w1.drew.alloc (.cells D 5 fz)).heap.size (w1.drew.alloc (.cells D 5 fz)) w' := HP
          refine H.mono ?_
          rintro e w' ⟨rfl, hb⟩
          exact ⟨rfl, (hb1.drew.alloc hb1.size _).trans (hb.mono (by have := hb1.size; simp; omega))⟩
        clear HP hM
        have hk16' : ¬ (k : Int) ≤ 16 := by omega
        cases obj
        all_goals
          go_wp2_with (go_at_call 10; refine HP2.out.mono ?_; rintro e w2 ⟨rfl, hb2⟩)
          go_ret
          exact ⟨rfl, hb2⟩
end Go.Proofs.YtkpfiopgnobcdaaDoor
/-  What the law of so many values (JsonValues) does. -/
namespace Go.Proofs.YtkpfiopgnobcdaaDoor
open Go.RowKit

def sevF (j : Nat) : UInt8 := if j = 0 then 91 else if j % 2 = 1 then 55 else 44
def sevP (k : Nat) : List UInt8 := if k = 0 then [91] else (List.range (2 * k)).map sevF
theorem sevP_one : sevP 1 = sevP 0 ++ [55] := by rfl
theorem sevP_succ (k : Nat) (h : 0 < k) : sevP (k + 1) = (sevP k ++ [44]) ++ [55] := by
  unfold sevP
  rw [if_neg (by omega), if_neg (by omega)]
  have e : 2 * (k + 1) = 2 * k + 1 + 1 := by omega
  rw [e, List.range_succ, List.range_succ, List.map_append, List.map_append]
  have h1 : sevF (2 * k) = 44 := by unfold sevF; rw [if_neg (by omega), if_neg (by omega)]
  have h2 : sevF (2 * k + 1) = 55 := by unfold sevF; rw [if_neg (by omega), if_pos (by omega)]
  simp [h1, h2]
theorem sevP_len (k : Nat) : (sevP k).length = if k = 0 then 1 else 2 * k := by unfold sevP; split <;> simp
theorem sev_byte (n j : Nat) (hn : 0 < n) (hj : j < 2 * n) : byteAt (sevP n ++ [93]) j = (sevF j).toNat := by
  unfold byteAt sevP
  rw [if_neg (by omega), List.getD_eq_getElem?_getD, List.getElem?_append_left (by simp; omega)]
  simp [hj]
theorem sev_is (n : Nat) (hn : 0 < n) : Sev (sevP n ++ [93]) n := by
  have hl : (sevP n).length = 2 * n := by rw [sevP_len, if_neg (by omega)]
  refine ⟨by simp [hl], ?_, fun i hi => ?_, fun i hi => ?_, ?_, hn⟩
  · rw [sev_byte n 0 hn (by omega)]; rfl
  · rw [sev_byte n _ hn (by omega)]; unfold sevF; rw [if_neg (by omega), if_pos (by omega)]; rfl
  · rw [sev_byte n _ hn (by omega)]; unfold sevF; rw [if_neg (by omega), if_neg (by omega)]; rfl
  · unfold byteAt
    rw [List.getD_eq_getElem?_getD, List.getElem?_append_right (by omega), hl]
    simp
theorem small_ten (x : Int) : ∃ m : Nat, wrap64 (8187 + wrap64 ((IntKind.u64.wrap x).tmod 10)) = (m : Int) ∧ 8187 ≤ m ∧ m ≤ 8196 := by
  have h0 : 0 ≤ IntKind.u64.wrap x := by
    unfold IntKind.wrap; simp [IntKind.signed, IntKind.bits]; omega
  have h1 := Int.tmod_nonneg 10 h0
  have h2 := Int.tmod_lt_of_pos (IntKind.u64.wrap x) (show (0 : Int) < 10 by decide)
  refine ⟨(8187 + (IntKind.u64.wrap x).tmod 10).toNat, ?_, by omega, by omega⟩
  simp only [wrap64]
  omega
theorem byte_one (c : Int) : ∀ u ∈ [Value.int .u8 c], u.oneCell' = true := by intro u hu; simp at hu; subst hu; rfl
theorem info5 : (Tryd.prog.info? 5).map (fun i => (i.zero, i.size, i.bytes)) = some (some (.int .u8 0), 1, 1) := by kernel_rfl
/-- A row of bytes of the call's own, parsed. -/
theorem parse_own (l : List UInt8) {w : World} {base n : Nat} {v : Value} (ho : w.ownsRow base 5 1 v n (Lib.byteCells l)) (hl : 0 < l.length) (ht : Lib.Utf8Tabs 0 1 w) (hw : 2 ≤ w.heap.size) : Calls Tryd.prog 10 #[v] w (DoneR w (parseM l)) := by
  have hn : n = l.length := by have := ho.1; rw [Lib.byteCells_length] at this; omega
  subst hn
  rcases ho.2 with ⟨_, h0⟩ | ⟨g, cap, cur, rfl, _, hg, hc1, hc2, _⟩
  · omega
  · unfold maxLen at hc2
    refine parse_json (B := l) (tb := g) (toff := 0) ?_ (lt_of_block hg) hc1 (by omega) ht hw
    intro j hj
    have hadd : (⟨g, 0, none⟩ : Addr).add j = ⟨g, 0 + j, none⟩ := by unfold Addr.add; split <;> simp_all
    have := ho.cells (g := g) rfl j (.int .u8 (byteAt l j)) (by simp [Lib.byteCells, byteAt, List.getD_eq_getElem?_getD, List.getElem?_eq_getElem hj])
    rwa [hadd] at this

set_option maxRecDepth 100000 in
set_option maxHeartbeats 3200000 in
theorem values_any (x : Int) (w : World) (ht : Lib.Utf8Tabs 0 1 w) (h2 : 2 ≤ w.heap.size) :
    Calls Tryd.prog 7 #[.int .i64 x] w fun e w' => e = .returned (.bool true) ∧ Below w.heap.size w w' := by
  have HT : Hid (Lib.Utf8Tabs 0 1 w) := ht
  clear ht
  obtain ⟨m, hm, hm1, hm2⟩ := small_ten x
  obtain ⟨i5, hi5, hz0, hz1, hz2⟩ := info_parts info5
  go_enter Tryd.func7, Tryd.ntmps7
  go_wp2_with (go_at_call 9; refine (awake_any w HT.out h2).mono ?_; rintro e w1 ⟨rfl, hb1⟩)
  rw [hm]
  clear hm
  obtain ⟨base, hbase⟩ : ∃ base, Hid (base = w1.heap.size) := ⟨_, rfl⟩
  go_loopw [3, 4] (fun v i wr => ∃ k : Nat, k ≤ m ∧ i = .int .i64 k ∧ wr.ownsRow base 5 1 v (sevP k).length (Lib.byteCells (sevP k)) ∧ Below base w1 wr ∧ base ≤ wr.heap.size) (fun _ i _ => m - (intOf i).toNat)
  case atStart =>
    refine ⟨0, Nat.zero_le _, rfl, ⟨rfl, .inr ⟨w1.heap.size, 1, _, rfl, by rw [hbase.out]; exact Nat.le_refl _, heap_alloc_new w1 _, Nat.le_refl _, by decide, rfl, rfl⟩⟩, (Below.refl _ _).alloc (by rw [hbase.out]; exact Nat.le_refl _) _, by rw [hbase.out]; simp⟩
  case round =>
    obtain ⟨k, hk, rfl, hown, hbr, hbs⟩ := hrel
    have hlen := sevP_len k
    by_cases hlt : k < m
    · by_cases hk0 : k = 0
      · subst hk0
        have hlen0 : (sevP 0).length = 1 := rfl
        clear hlen
        go_wp2_with (at_builtin; refine wpList_append_own _ rfl (.tmp 26) (.tmp 27) 22 rfl base 5 i5 (.int .u8 0) 1 1 Tryd.underlying22 hi5 hz0 hz1 hz2 rfl (by decide) _ _ _ rfl (hown.alloc _) ⟨wr.heap.size, 0, none⟩ 1 1 [.int .u8 55] rfl rfl (cells_new _ [.int .u8 55] 5 _ rfl) (byte_one _) (by unfold maxLen; omega) (by omega) (by simp; omega) ?_; intro vb wb hownb hgb _)
        go_roundw
        case rel => exact ⟨1, by omega, by go_num, by rw [sevP_one]; unfold Lib.byteCells at hownb ⊢; rw [List.map_append, List.length_append]; exact hownb, (hbr.alloc hbs _).grown hgb (by simp; omega) (fun j hj => (hown.lt j hj).1), by have := hgb.size; simp at this; omega⟩
        case measure => simp [intOf]; omega
      · rw [if_neg hk0] at hlen
        have hlen2 : (sevP k).length ≤ 20000 := by omega
        have hkp : (0 : Int) < (k : Int) := by omega
        have HLEN : Hid ((sevP k).length = 2 * k) := hlen
        clear hlen
        go_wp2_with (first | (at_builtin; refine wpList_append_own _ rfl (.tmp 23) (.tmp 24) 22 rfl base 5 i5 (.int .u8 0) 1 1 Tryd.underlying22 hi5 hz0 hz1 hz2 rfl (by decide) _ _ _ rfl (hown.alloc _) ⟨wr.heap.size, 0, none⟩ 1 1 [.int .u8 44] rfl rfl (cells_new _ [.int .u8 44] 5 _ rfl) (byte_one _) (by unfold maxLen; omega) (by omega) (by simp; omega) ?_; intro va wa howna hga _; have hsa : base ≤ wa.heap.size := (by have := hga.size; simp at this; omega)) | (at_builtin; refine wpList_append_own _ rfl (.tmp 26) (.tmp 27) 22 rfl base 5 i5 (.int .u8 0) 1 1 Tryd.underlying22 hi5 hz0 hz1 hz2 rfl (by decide) _ _ _ rfl (howna.alloc _) ⟨wa.heap.size, 0, none⟩ 1 1 [.int .u8 55] rfl rfl (cells_new _ [.int .u8 55] 5 _ rfl) (byte_one _) (by unfold maxLen; omega) (by omega) (by simp; omega) ?_; intro vb wb hownb hgb _))
        go_roundw
        case rel =>
          have ha := hga.size; have hb := hgb.size
          simp at ha hb
          refine ⟨k + 1, by omega, by go_num, ?_, (((hbr.alloc hbs _).grown hga (by simp; omega) (fun j hj => (hown.lt j hj).1)).alloc (by omega) _).grown hgb (by simp; omega) (fun j hj => (howna.lt j hj).1), by omega⟩
          rw [sevP_succ k (by omega)]; unfold Lib.byteCells at hownb ⊢; rw [List.map_append, List.map_append, List.length_append, List.length_append]; exact hownb
        case measure => simp [intOf]; omega
    · obtain rfl : k = m := by omega
      rw [if_neg (by omega)] at hlen
      have hlen2 : (sevP k).length ≤ 20000 := by omega
      have HS := (sev_is k (by omega)).read (by omega)
      rw [show readM (sevP k ++ [93]) = parseM (sevP k ++ [93]) by unfold parseM; rw [if_neg (by have := (sev_is k (by omega)).len; omega)]] at HS
      have HLEN : Hid ((sevP k).length = 2 * k) := hlen
      clear hlen
      rcases (show k < 8192 ∨ k = 8192 ∨ 8192 < k by omega) with h8 | h8 | h8
      · have HP : Hid (∀ (v' : Value) (w' : World) (n : Nat), w'.ownsRow base 5 1 v' n (Lib.byteCells (sevP k) ++ [.int .u8 93]) → Below base w1 w' → Calls Tryd.prog 10 #[v'] w' fun e w'' => (∃ ta tc, e = .returned (.tuple #[.slice ta (k + 1) tc, .int .i64 0, .int .i64 0])) ∧ Below w.heap.size w w'') := by
          intro v' w' n ho hb
          have hbw := hb1.trans (hb.mono (by rw [hbase.out]; exact hb1.size))
          have ho2 : w'.ownsRow base 5 1 v' n (Lib.byteCells (sevP k ++ [93])) := by unfold Lib.byteCells at ho ⊢; rw [List.map_append]; exact ho
          have H := parse_own (sevP k ++ [93]) ho2 (by simp) (tabs_below hbw h2 HT.out) (Nat.le_trans h2 hbw.size)
          obtain ⟨T, e1, e2⟩ := HS.1 h8
          rw [e1] at H
          refine Calls.mono H ?_
          rintro e w'' ⟨v2, cs, rfl, hr, _, hb3⟩
          obtain ⟨ta, tc, rfl⟩ := own_shape hr
          exact ⟨⟨ta, tc, by rw [e2]⟩, hbw.trans (hb3.mono hbw.size)⟩
        clear HS
        have h8' : (k : Int) < 8192 := by omega
        go_wp2_with (first | (at_builtin; refine wpList_append_own _ rfl (.tmp 30) (.tmp 31) 22 rfl base 5 i5 (.int .u8 0) 1 1 Tryd.underlying22 hi5 hz0 hz1 hz2 rfl (by decide) _ _ _ rfl (hown.alloc _) ⟨wr.heap.size, 0, none⟩ 1 1 [.int .u8 93] rfl rfl (cells_new _ [.int .u8 93] 5 _ rfl) (byte_one _) (by unfold maxLen; omega) (by omega) (by simp; omega) ?_; intro vb wb hownb hgb _; have hbb := (hbr.alloc hbs _).grown hgb (by simp; omega) (fun j hj => (hown.lt j hj).1)) | (go_at_call 10; refine (HP.out vb wb _ hownb hbb).mono ?_; rintro e w2 ⟨⟨ta, tc, rfl⟩, hb2⟩))
        go_ret
        exact ⟨rfl, hb2⟩
      · have HP : Hid (∀ (v' : Value) (w' : World) (n : Nat), w'.ownsRow base 5 1 v' n (Lib.byteCells (sevP k) ++ [.int .u8 93]) → Below base w1 w' → Calls Tryd.prog 10 #[v'] w' fun e w'' => e = .returned (.tuple #[.slice none 0 0, .int .i64 (0 : Nat), .int .i64 (27 : Nat)]) ∧ Below w.heap.size w w'') := by
          intro v' w' n ho hb
          have hbw := hb1.trans (hb.mono (by rw [hbase.out]; exact hb1.size))
          have ho2 : w'.ownsRow base 5 1 v' n (Lib.byteCells (sevP k ++ [93])) := by unfold Lib.byteCells at ho ⊢; rw [List.map_append]; exact ho
          have H := parse_own (sevP k ++ [93]) ho2 (by simp) (tabs_below hbw h2 HT.out) (Nat.le_trans h2 hbw.size)
          rw [HS.2.1 h8] at H
          refine Calls.mono H ?_
          rintro e w'' ⟨rfl, hb3⟩
          exact ⟨rfl, hbw.trans (hb3.mono hbw.size)⟩
        clear HS
        have h8' : ¬ (k : Int) < 8192 := by omega
        have h8q : ((k : Int) == 8192) = true := by simp; omega
        clear h8
        go_wp2_with (first | (at_builtin; refine wpList_append_own _ rfl (.tmp 30) (.tmp 31) 22 rfl base 5 i5 (.int .u8 0) 1 1 Tryd.underlying22 hi5 hz0 hz1 hz2 rfl (by decide) _ _ _ rfl (hown.alloc _) ⟨wr.heap.size, 0, none⟩ 1 1 [.int .u8 93] rfl rfl (cells_new _ [.int .u8 93] 5 _ rfl) (byte_one _) (by unfold maxLen; omega) (by omega) (by simp; omega) ?_; intro vb wb hownb hgb _; have hbb := (hbr.alloc hbs _).grown hgb (by simp; omega) (fun j hj => (hown.lt j hj).1)) | (go_at_call 10; refine (HP.out vb wb _ hownb hbb).mono ?_; rintro e w2 ⟨rfl, hb2⟩))
        go_ret
        exact ⟨rfl, hb2⟩
      · have HP : Hid (∀ (v' : Value) (w' : World) (n : Nat), w'.ownsRow base 5 1 v' n (Lib.byteCells (sevP k) ++ [.int .u8 93]) → Below base w1 w' → Calls Tryd.prog 10 #[v'] w' fun e w'' => e = .returned (.tuple #[.slice none 0 0, .int .i64 (16385 : Nat), .int .i64 (27 : Nat)]) ∧ Below w.heap.size w w'') := by
          intro v' w' n ho hb
          have hbw := hb1.trans (hb.mono (by rw [hbase.out]; exact hb1.size))
          have ho2 : w'.ownsRow base 5 1 v' n (Lib.byteCells (sevP k ++ [93])) := by unfold Lib.byteCells at ho ⊢; rw [List.map_append]; exact ho
          have H := parse_own (sevP k ++ [93]) ho2 (by simp) (tabs_below hbw h2 HT.out) (Nat.le_trans h2 hbw.size)
          rw [HS.2.2 h8] at H
          refine Calls.mono H ?_
          rintro e w'' ⟨rfl, hb3⟩
          exact ⟨rfl, hbw.trans (hb3.mono hbw.size)⟩
        clear HS
        have h8' : ¬ (k : Int) < 8192 := by omega
        have h8q : ((k : Int) == 8192) = false := by simp; omega
        clear h8
        go_wp2_with (first | (at_builtin; refine wpList_append_own _ rfl (.tmp 30) (.tmp 31) 22 rfl base 5 i5 (.int .u8 0) 1 1 Tryd.underlying22 hi5 hz0 hz1 hz2 rfl (by decide) _ _ _ rfl (hown.alloc _) ⟨wr.heap.size, 0, none⟩ 1 1 [.int .u8 93] rfl rfl (cells_new _ [.int .u8 93] 5 _ rfl) (byte_one _) (by unfold maxLen; omega) (by omega) (by simp; omega) ?_; intro vb wb hownb hgb _; have hbb := (hbr.alloc hbs _).grown hgb (by simp; omega) (fun j hj => (hown.lt j hj).1)) | (go_at_call 10; refine (HP.out vb wb _ hownb hbb).mono ?_; rintro e w2 ⟨rfl, hb2⟩))
        go_ret
        exact ⟨rfl, hb2⟩
end Go.Proofs.YtkpfiopgnobcdaaDoor
/-  Rows of bytes: of the call's own, parsed; of others', read. -/
namespace Go.Proofs.YtkpfiopgnobcdaaDoor
open Go.RowKit

/-- A row of bytes of the call's own that is not nil, parsed. -/
theorem parse_own2 (l : List UInt8) {w : World} {base n : Nat} {v : Value} (ho : w.ownsRow base 5 1 v n (Lib.byteCells l)) (hl : v ≠ .slice none 0 0) (ht : Lib.Utf8Tabs 0 1 w) (hw : 2 ≤ w.heap.size) : Calls Tryd.prog 10 #[v] w (DoneR w (parseM l)) := by
  have hn : n = l.length := by have := ho.1; rw [Lib.byteCells_length] at this; omega
  subst hn
  rcases ho.2 with ⟨h1, _⟩ | ⟨g, cap, cur, rfl, _, hg, hc1, hc2, _⟩
  · exact absurd h1 hl
  · unfold maxLen at hc2
    refine parse_json (B := l) (tb := g) (toff := 0) ?_ (lt_of_block hg) hc1 (by omega) ht hw
    intro j hj
    have hadd : (⟨g, 0, none⟩ : Addr).add j = ⟨g, 0 + j, none⟩ := by unfold Addr.add; split <;> simp_all
    have := ho.cells (g := g) rfl j (.int .u8 (byteAt l j)) (by simp [Lib.byteCells, byteAt, List.getD_eq_getElem?_getD, List.getElem?_eq_getElem hj])
    rwa [hadd] at this
theorem byteCells_at {l : List UInt8} {j : Nat} {u : Value} (h : (Lib.byteCells l)[j]? = some u) : j < l.length ∧ u = .int .u8 (byteAt l j) := by
  have hj : j < l.length := by have := (List.getElem?_eq_some_iff.1 h).1; rwa [Lib.byteCells_length] at this
  refine ⟨hj, ?_⟩
  simp [Lib.byteCells, List.getElem?_eq_getElem hj] at h
  rw [← h]; simp [byteAt, List.getD_eq_getElem?_getD, List.getElem?_eq_getElem hj]
theorem byteCells_one (l : List UInt8) : ∀ u ∈ Lib.byteCells l, u.oneCell' = true := by
  intro u hu
  simp only [Lib.byteCells, List.mem_map] at hu
  obtain ⟨c, _, rfl⟩ := hu
  rfl
/-- A slice of bytes that came in. -/
def BytesAt (w : World) (y : Addr) (B : List UInt8) : Prop := ∀ j, j < B.length → w.cell? (y.add j) = some (.int .u8 (byteAt B j))
theorem BytesAt.later {w w' : World} {y : Addr} {B : List UInt8} (h : BytesAt w y B) (hb : Below w.heap.size w w') : BytesAt w' y B := fun j hj => (hb.cell (block_lt_of_cell (h j hj))).trans (h j hj)
theorem BytesAt.head {w : World} {y : Addr} {B : List UInt8} (h : BytesAt w y B) (hl : 0 < B.length) : w.cell? y = some (.int .u8 (byteAt B 0)) := by
  have := h 0 hl
  rwa [show y.add 0 = y by unfold Addr.add; split <;> simp_all] at this
theorem BytesAt.news {w : World} {y : Addr} {B : List UInt8} (h : BytesAt w y B) : ∀ j u, (Lib.byteCells B)[j]? = some u → w.cell? (y.add j) = some u := by
  intro j u hj
  obtain ⟨h1, rfl⟩ := byteCells_at hj
  exact h j h1
theorem BytesAt.take {w : World} {y : Addr} {B : List UInt8} (h : BytesAt w y B) (n : Nat) : BytesAt w y (B.take n) := by
  intro j hj
  rw [List.length_take] at hj
  rw [h j (by omega)]
  simp only [byteAt, List.getD_eq_getElem?_getD]
  rw [List.getElem?_take_of_lt (by omega)]

theorem after_app {w w1 w2 : World} {fz : Nat × Nat} (hb : Below w.heap.size w w1) (hg : (w1.alloc (.cells #[] 5 fz)).grownBy w2 (Value.slice (some ⟨w1.heap.size, 0, none⟩) 0 0).ownBlock) : Below w.heap.size w w2 := by
  refine (hb.alloc hb.size _).grown hg (by have := hb.size; simp; omega) (fun k hk => ?_)
  have hs := hb.size
  simp only [Value.ownBlock, Option.some.injEq] at hk
  omega
end Go.Proofs.YtkpfiopgnobcdaaDoor
/-  What the cards of this seat's laws share: the two listed tables of unicode/utf8, and that they hold what the list says. -/
namespace Go.Proofs.YtkpfiopgnobcdaaDoor
open Go.ChangeShapes Go.WideShapes Go.ChangeAt Go.WideMaps Go.WideElems Go.RowKit
set_option maxRecDepth 100000

theorem own : ownKnob Tryd.prog.godebug = none := by kernel_rfl
def laid2 : List (String × DataW Unit) := [("unicode/utf8.acceptRanges", Rows.laid_unicode_utf8_acceptRanges), ("unicode/utf8.first", Rows.laid_unicode_utf8_first)]
def tabRen : Go.Shelf.Ren := ⟨fun n => n, fun | 5 => 5 | 119 => 86 | 138 => 88 | 139 => 89 | n => n, fun | 3 => 0 | 4 => 1 | n => n⟩
theorem tabTypes : U8Types Tryd.prog tabRen := ⟨Tryd.underlying5, Tryd.underlying86, Tryd.underlying88, Tryd.underlying89⟩
theorem tabExtra : U8Extra Tryd.prog tabRen := ⟨by kernel_rfl, by kernel_rfl, by kernel_rfl, by kernel_rfl, by kernel_rfl, by kernel_rfl, by kernel_rfl⟩
theorem acc_datum : (Rows.laid_unicode_utf8_acceptRanges : DataW Unit) = Lib.acceptData := by kernel_rfl
theorem first_datum : Rows.laid_unicode_utf8_first = Lib.firstData := Pinned.utf8First_eq
theorem tabs_of_laid {W : World} (h : laidMetH Tryd.prog laid2 W) : Lib.Utf8Tabs 0 1 W := by
  rw [MakeChecks.laidMetH_plain _ _ _ (by kernel_rfl)] at h
  have h1 := Lib.laidMet.reads h (n := "unicode/utf8.acceptRanges") (d := Rows.laid_unicode_utf8_acceptRanges) (by simp [laid2])
  have h2 := Lib.laidMet.reads h (n := "unicode/utf8.first") (d := Rows.laid_unicode_utf8_first) (by simp [laid2])
  rw [acc_datum] at h1
  rw [first_datum] at h2
  exact utf8Tabs_of_readsT tabTypes tabExtra h2 h1
theorem two_of_tabs {W : World} (h : Lib.Utf8Tabs 0 1 W) : 2 ≤ W.heap.size := by
  have := block_lt_of_cell (h.2 0 (by omega)).1
  simp at this; omega
end Go.Proofs.YtkpfiopgnobcdaaDoor
/-  Slices of bytes that came in. -/
namespace Go.Proofs.YtkpfiopgnobcdaaDoor
open Go.ChangeShapes Go.WideShapes Go.ChangeAt Go.WideMaps Go.WideElems Go.RowKit
set_option maxRecDepth 100000

theorem laidOut : laidOutB Tryd.prog = true := by kernel_rfl
theorem cells5 : Tryd.prog.cellsOf 5 = 1 := by kernel_rfl
/-- A slice of bytes. -/
def SliceOf (w : World) (a : Option Addr) (len cap : Nat) (B : List UInt8) : Prop :=
  (a = none ∧ len = 0 ∧ cap = 0 ∧ B = []) ∨ ∃ y, a = some y ∧ len = B.length ∧ len ≤ cap ∧ cap ≤ 9223372036854775807 ∧ BytesAt w y B
theorem open_bytes {H : Type} {enc : TypeId × Value → H} {W : World} {a : Option Addr} {len cap : Nat} {d : DataW H} {p : List MemPlace}
    (h : DataW.Trod enc Tryd.prog W 0 (fun _ => true) true 22 (.slice a len cap) d p) : ∃ B, SliceOf W a len cap B := by
  obtain ⟨fuel, hf⟩ := h
  rcases open_ints Tryd.underlying22 Tryd.underlying5 cells5 hf with ⟨hcs, _⟩ | ⟨x, l, c, zs, hcs, _, hl, hm, hz, hx, hcell, hwz⟩
  · simp [Value.cells] at hcs
    obtain ⟨rfl, rfl, rfl⟩ := hcs
    exact ⟨[], .inl ⟨rfl, rfl, rfl, rfl⟩⟩
  · simp [Value.cells] at hcs
    obtain ⟨rfl, rfl, rfl⟩ := hcs
    simp only [if_true] at hz
    unfold maxLen at hm
    refine ⟨(zs.take len).map fun z => z.toNat.toUInt8, .inr ⟨x, rfl, by simp; omega, hl, by omega, fun j hj => ?_⟩⟩
    have hj2 : j < len := by simp at hj; omega
    have hjz : j < zs.length := by omega
    rw [hcell j (by omega)]
    have hb := bounds_u8 (hwz zs[j] (List.getElem_mem hjz))
    congr 2
    have e1 : zs.getD j 0 = zs[j] := by simp [List.getD, List.getElem?_eq_getElem hjz]
    have e2 : ((zs.take len).map fun z : Int => z.toNat.toUInt8).getD j 0 = zs[j].toNat.toUInt8 := by
      simp [List.getD, List.getElem?_take_of_lt hj2, List.getElem?_eq_getElem hjz]
    unfold byteAt
    rw [e1, e2]
    simp
    omega
end Go.Proofs.YtkpfiopgnobcdaaDoor
