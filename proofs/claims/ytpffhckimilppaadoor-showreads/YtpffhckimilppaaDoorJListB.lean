/-
  What the reader's list does.
-/
import Derived.Test.YtpffhckimilppaaDoorJList
namespace Go.Proofs.YtpffhckimilppaaDoor.Js
open Go.RowKit

section
variable {B : List UInt8} {R tb toff cap : Nat} {w0 w w' : World} {a d : Nat} {v : Value} {T : List V} {cs : List Value}
variable {wst wX : World} {o0 : Option Nat} {cs0 : List Value} {hi mb vb rb kind : Nat} {ns : List (List UInt8)} {ks : List Nat} {na ka : Option Addr} {nc kc : Nat}

theorem JL_kid : KidC B R tb toff cap w0 d (JL B R tb toff cap w0 d wst o0 cs0 hi mb wX vb rb) (Fr R o0 wst) where
  sc := fun _ _ _ _ ⟨_, _, _, _, _, h⟩ => h.st.sc
  scan := fun _ _ _ _ _ _ ⟨_, _, _, _, _, h⟩ hs f => ⟨_, _, _, _, _, h.scan f hs⟩
  keeps := fun _ _ _ _ ⟨_, _, _, _, _, h⟩ => h.fr
  more := fun _ _ h f => h.trans0 f.weak

/-- An open value begins. -/
theorem JG.start {w1 W : World} (h : St B R tb toff cap w0 w a d v T cs) (kind : Nat) (hW : ∀ k, k < w.heap.size → W.heap[k]? = w.heap[k]?) (hsz : w.heap.size ≤ W.heap.size) (hos : W.os = w.os) (htape : W.tape = w.tape) (hout : W.output = w.output)
    (hvb : w.heap.size ≤ vb) (hrb : w.heap.size ≤ rb) (hvk : W.heap[vb]? = some (.cells #[.int .i64 kind, .bool false, .int .i64 0, .string ⟨#[]⟩, .slice none 0 0, .slice none 0 0] 42 (0, 0)))
    (hrk : W.heap[rb]? = some (.cells #[.pointer (some ⟨R, 0, none⟩)] 67 (0, 0))) {a' d' : Nat} (hs : Sc B R tb toff cap w0 w1 a' d' v) (f : Fr R none W w1) :
    JG B R tb toff cap w0 d' w v.ownBlock cs W.heap.size mb W vb rb kind [] [] T w1 a' v cs none 0 none 0 := by
  have hR := h.sc.rd.lt
  have fw : Fr R none w w1 := ⟨f.os.trans hos, f.tape.trans htape, f.output.trans hout, Nat.le_trans hsz f.size, fun k hk h1 h2 => (f.block k (by omega) h1 h2).trans (hW k hk)⟩
  have nr : ∀ n g, ¬ (Value.slice none 0 n).ownBlock = some g := fun n g e => by cases e
  exact {
    st := h.scan fw hs
    vbk := (f.block vb (lt_of_block hvk) (by omega) (by simp)).trans hvk
    own := ⟨World.ownsRow_nil _ _ _ _, World.ownsRow_nil _ _ _ _⟩
    rbk := (f.block rb (lt_of_block hrk) (by omega) (by simp)).trans hrk
    fr := fw.weak
    mv := Moved.refl _ _
    mid := fun k h1 h2 _ _ => f.block k h2 (by omega) (by simp)
    hilo := hsz
    hisz := f.size
    olt := h.ownLt
    vhi := lt_of_block hvk
    rhi := lt_of_block hrk
    vne := fun e => by have := h.ownLt vb e; omega
    nnew := fun g e => absurd e (nr _ g)
    knew := fun g e => absurd e (nr _ g)
    nsep := fun g e => absurd e (nr _ g)
    ksep := fun g e => absurd e (nr _ g)
    new := New.refl _ _
    le := Nat.zero_le _
    nle := Nat.zero_le _
    hvb := hvb
    hrb := hrb
    hR := hR }

/-- Nothing has turned but one block. -/
structure Bes (x : Nat) (w w' : World) : Prop where
  os : w'.os = w.os
  tape : w'.tape = w.tape
  output : w'.output = w.output
  size : w'.heap.size = w.heap.size
  block : ∀ k, k ≠ x → w'.heap[k]? = w.heap[k]?
theorem Bes.refl (x : Nat) (w : World) : Bes x w w := ⟨rfl, rfl, rfl, rfl, fun _ _ => rfl⟩
theorem Bes.set {x : Nat} {w w' : World} (h : Bes x w w') (i : Nat) (u : Value) : Bes x w (w'.setCell ⟨x, i, none⟩ u) :=
  ⟨h.os, h.tape, h.output, by simpa [World.setCell] using h.size, fun k hk => (heap_setCell_other w' _ k u hk).trans (h.block k hk)⟩
theorem Bes.six (x : Nat) (w : World) (c0 c1 c2 c3 c4 c5 : Value) : Bes x w ((((((w.setCell ⟨x, 0, none⟩ c0).setCell ⟨x, 1, none⟩ c1).setCell ⟨x, 2, none⟩ c2).setCell ⟨x, 3, none⟩ c3).setCell ⟨x, 4, none⟩ c4).setCell ⟨x, 5, none⟩ c5) :=
  ((((((Bes.refl x w).set 0 c0).set 1 c1).set 2 c2).set 3 c3).set 4 c4).set 5 c5
theorem six_block (x : Nat) (w : World) (a0 a1 a2 a3 a4 a5 c0 c1 c2 c3 c4 c5 : Value) (h : w.heap[x]? = some (.cells #[a0, a1, a2, a3, a4, a5] 42 (0, 0))) :
    ((((((w.setCell ⟨x, 0, none⟩ c0).setCell ⟨x, 1, none⟩ c1).setCell ⟨x, 2, none⟩ c2).setCell ⟨x, 3, none⟩ c3).setCell ⟨x, 4, none⟩ c4).setCell ⟨x, 5, none⟩ c5).heap[x]? = some (.cells #[c0, c1, c2, c3, c4, c5] 42 (0, 0)) := by
  have h0 := heap_setCell_same w x 0 _ _ c0 h
  have h1 := heap_setCell_same _ x 1 _ _ c1 h0
  have h2 := heap_setCell_same _ x 2 _ _ c2 h1
  have h3 := heap_setCell_same _ x 3 _ _ c3 h2
  have h4 := heap_setCell_same _ x 4 _ _ c4 h3
  have h5 := heap_setCell_same _ x 5 _ _ c5 h4
  rw [h5]; rfl
/-- An open value has ended, and is handed back. -/
theorem JG.done (h : JG B R tb toff cap w0 d wst o0 cs0 hi mb wX vb rb kind ns ks T w a v cs na nc ka kc) {x : Nat} {w4 : World} (b : Bes x w w4) (h1 : wst.heap.size ≤ x) (h2 : x < hi) (ht : TyOf w x 42) :
    VOwn w4 { kind := kind, names := ns, kids := ks } (.slice na ns.length nc) (.slice ka ks.length kc) ∧ St B R tb toff cap w0 w4 a d v T cs ∧ Fr R o0 wst w4 ∧ Moved wst.heap.size o0 v.ownBlock ∧ New wst.heap.size cs0 cs ∧ NewRow wst.heap.size (.slice na ns.length nc) ∧ NewRow wst.heap.size (.slice ka ks.length kc) := by
  have hR := h.hR
  refine ⟨⟨own_eq h.own.names (fun g e => b.block g (by have := h.nnew g e; omega)), own_eq h.own.kids (fun g e => b.block g (by have := h.knew g e; omega))⟩, ?_, ?_, h.mv.le h.hilo, h.new, fun g e => Nat.le_trans h.hilo (h.nnew g e), fun g e => Nat.le_trans h.hilo (h.knew g e)⟩
  · exact h.st.beside b.os b.tape b.output (by rw [b.size]; exact Nat.le_refl _) (fun k hk => b.block k (by omega)) (fun g e => b.block g (fun e2 => h.vout x h1 h2 (by rw [e, e2])))
      (fun g hc => b.block g (by
        rcases h.st.reps.ty g hc with t | t
        · exact t.ne ht (by decide)
        · exact t.ne ht (by decide)))
  · exact ⟨b.os.trans h.fr.os, b.tape.trans h.fr.tape, b.output.trans h.fr.output, by rw [b.size]; exact h.fr.size, fun k hk h3 h4 => (b.block k (by omega)).trans (h.fr.block k hk h3 h4)⟩

set_option maxHeartbeats 400000 in
theorem list_deep (h : St B R tb toff cap w0 w a 16 v T cs) : Calls Tryd.prog 60 #[.pointer (some ⟨R, 0, none⟩)] w (DoneV B R tb toff cap w0 w 16 v cs (listM B none T a)) := by
  have hmf : ∀ (fn : Fn) (first cap : Array Value) (w : World), (Instr.makeFunc fn first cap).run Tryd.prog w = .ok (.func fn first cap) w := fun _ _ _ _ => rfl
  go_enter Tryd.func60, Tryd.ntmps60
  go_wp2_with (go_at_call 67; refine (each_deep (((h.sc.alloc _).alloc _).alloc _) _ _).mono ?_; rintro e w1 ⟨rfl, rfl⟩)
  exact ⟨rfl, rfl, (((Fr.refl _ _ _).alloc _).alloc _).alloc _⟩

set_option maxRecDepth 100000 in
set_option maxHeartbeats 1600000 in
theorem list_any {sub : Sub} (E : Env B R tb toff cap w0) (HV : ValueC B R tb toff cap w0 sub (d + 1)) (hsub : SubOk sub) (h : St B R tb toff cap w0 w a d v T cs) (hd : d < 16) (hlt : a < B.length) :
    Calls Tryd.prog 60 #[.pointer (some ⟨R, 0, none⟩)] w (DoneV B R tb toff cap w0 w d v cs (listM B (some sub) T a)) := by
  have hmf : ∀ (fn : Fn) (first cap : Array Value) (w : World), (Instr.makeFunc fn first cap).run Tryd.prog w = .ok (.func fn first cap) w := fun _ _ _ _ => rfl
  obtain ⟨W, hWd⟩ : ∃ W, Hid (W = ((w.alloc (.cells #[.pointer (some ⟨R, 0, none⟩)] 67)).alloc (.cells #[.int .i64 0, .bool false, .int .i64 0, .string ⟨#[]⟩, .slice none 0 0, .slice none 0 0] 42)).alloc (.cells #[.int .i64 5, .bool false, .int .i64 0, .string ⟨#[]⟩, .slice none 0 0, .slice none 0 0] 42)) := ⟨_, rfl⟩
  have hscW : Sc B R tb toff cap w0 W a d v := by rw [hWd.out]; exact ((h.sc.alloc _).alloc _).alloc _
  have hWsz : W.heap.size = w.heap.size + 3 := by rw [hWd.out]; simp
  have hWk : ∀ k, k < w.heap.size → W.heap[k]? = w.heap[k]? := fun k hk => by
    rw [hWd.out, Below.heap_alloc _ _ k (by simp; omega), Below.heap_alloc _ _ k (by simp; omega), Below.heap_alloc _ _ k hk]
  have hvk : W.heap[w.heap.size + 2]? = some (.cells #[.int .i64 5, .bool false, .int .i64 0, .string ⟨#[]⟩, .slice none 0 0, .slice none 0 0] 42 (0, 0)) := by
    rw [hWd.out]
    have := heap_alloc_new ((w.alloc (.cells #[.pointer (some ⟨R, 0, none⟩)] 67)).alloc (.cells #[.int .i64 0, .bool false, .int .i64 0, .string ⟨#[]⟩, .slice none 0 0, .slice none 0 0] 42)) (.cells #[.int .i64 5, .bool false, .int .i64 0, .string ⟨#[]⟩, .slice none 0 0, .slice none 0 0] 42)
    simpa using this
  have hrk : W.heap[w.heap.size]? = some (.cells #[.pointer (some ⟨R, 0, none⟩)] 67 (0, 0)) := by
    rw [hWd.out, Below.heap_alloc _ _ _ (by simp; omega), Below.heap_alloc _ _ _ (by simp)]
    exact heap_alloc_new w _
  have hxk : W.heap[w.heap.size + 1]? = some (.cells #[.int .i64 0, .bool false, .int .i64 0, .string ⟨#[]⟩, .slice none 0 0, .slice none 0 0] 42 (0, 0)) := by
    rw [hWd.out, Below.heap_alloc _ _ _ (by simp)]
    have := heap_alloc_new (w.alloc (.cells #[.pointer (some ⟨R, 0, none⟩)] 67)) (.cells #[.int .i64 0, .bool false, .int .i64 0, .string ⟨#[]⟩, .slice none 0 0, .slice none 0 0] 42)
    simpa using this
  have HEA : Hid (Calls Tryd.prog 67 #[.pointer (some ⟨R, 0, none⟩), .int .u8 (93 : Nat), .func (Fn.func 68) #[] #[.pointer (some ⟨w.heap.size + 2, 0, none⟩), .pointer (some ⟨w.heap.size, 0, none⟩)]] W
      (DoneE B R tb toff cap w0 d (JL B R tb toff cap w0 (d + 1) w v.ownBlock cs W.heap.size (w.heap.size + 2) W (w.heap.size + 2) w.heap.size) (Fr R v.ownBlock w) (eachM B 93 (listK sub) ([], T) a))) :=
    each_any E hscW hd hlt 93 68 _ hent52 _ _ JL_kid (listK sub) (fun s a s' a' e => by
        unfold listK at e
        cases hM : sub s.2 a with
        | bad x y => rw [hM] at e; cases e
        | ok x a1 => rw [hM] at e; simp only [Res.andThen, Res.ok.injEq] at e; have := (hsub _ _ _ _ hM).2; omega)
      (fun s w a v hJ => kid_list HV hsub s w a v hJ) ([], T)
      (fun w1 hs f => ⟨cs, none, 0, none, 0, JG.start h 5 hWk (by omega) (by rw [hWd.out]; rfl) (by rw [hWd.out]; rfl) (by rw [hWd.out]; rfl) (by omega) (Nat.le_refl _) hvk hrk hs f⟩)
  cases hM : eachM B 93 (listK sub) ([], T) a with
  | bad a1 c =>
    have HR : Hid (listM B (some sub) T a = .bad a1 c) := by show _ = _; simp [listM, hM, Res.andThen]
    rw [hM] at HEA
    have HEB : Hid (Calls Tryd.prog 67 #[.pointer (some ⟨R, 0, none⟩), .int .u8 (93 : Nat), .func (Fn.func 68) #[] #[.pointer (some ⟨w.heap.size + 2, 0, none⟩), .pointer (some ⟨w.heap.size, 0, none⟩)]] W fun e w' => e = .panicked (flt a1 c) ∧ Fr R v.ownBlock w w') := HEA
    rw [hWd.out] at HEB
    clear HEA hM hscW hWsz hWk hvk hrk hxk
    go_enter Tryd.func60, Tryd.ntmps60
    go_wp2_with (go_at_call 67; refine HEB.out.mono ?_; rintro e w1 ⟨rfl, hf1⟩)
    refine ⟨rfl, ?_⟩
    rw [HR.out]
    exact ⟨rfl, hf1⟩
  | ok s a1 =>
    have HR : Hid (listM B (some sub) T a = .ok ({ kind := 5, kids := s.1 }, s.2) a1) := by show _ = _; simp [listM, hM, Res.andThen]
    rw [hM] at HEA
    have HEB : Hid (Calls Tryd.prog 67 #[.pointer (some ⟨R, 0, none⟩), .int .u8 (93 : Nat), .func (Fn.func 68) #[] #[.pointer (some ⟨w.heap.size + 2, 0, none⟩), .pointer (some ⟨w.heap.size, 0, none⟩)]] W
      fun e w' => e = .returned (.tuple #[]) ∧ ∃ v1 w2 p, JL B R tb toff cap w0 (d + 1) w v.ownBlock cs W.heap.size (w.heap.size + 2) W (w.heap.size + 2) w.heap.size s w2 p v1 ∧ Sc B R tb toff cap w0 w' a1 d v1 ∧ Fr R none w2 w') := HEA
    have hx2 : w.heap.size + 1 < W.heap.size := by omega
    have HXK : Hid (W.heap[w.heap.size + 1]? = some (.cells #[.int .i64 0, .bool false, .int .i64 0, .string ⟨#[]⟩, .slice none 0 0, .slice none 0 0] 42 (0, 0))) := hxk
    have HEC : Hid (Calls Tryd.prog 67 #[.pointer (some ⟨R, 0, none⟩), .int .u8 (93 : Nat), .func (Fn.func 68) #[] #[.pointer (some ⟨w.heap.size + 2, 0, none⟩), .pointer (some ⟨w.heap.size, 0, none⟩)]] W
      fun e w' => e = .returned (.tuple #[]) ∧ ∃ v1 cs1 na nc ka kc, JG B R tb toff cap w0 d w v.ownBlock cs W.heap.size (w.heap.size + 2) W (w.heap.size + 2) w.heap.size 5 [] s.1 s.2 w' a1 v1 cs1 na nc ka kc) := by
      refine HEB.out.mono ?_
      rintro e w' ⟨rfl, v1, w2, p, ⟨cs1, na, nc, ka, kc, hJ⟩, hs1, hf1⟩
      exact ⟨rfl, v1, cs1, na, nc, ka, kc, hJ.scan hf1 hs1⟩
    clear HEA HEB hM hscW hWk hvk hrk hxk
    obtain ⟨hi, hhi⟩ : ∃ hi, Hid (W.heap.size = hi) := ⟨_, rfl⟩
    obtain ⟨wX, hwX⟩ : ∃ wX, Hid (W = wX) := ⟨_, rfl⟩
    rw [hhi.out] at HEC hx2
    rw [show (JG B R tb toff cap w0 d w v.ownBlock cs hi (w.heap.size + 2) W) = (JG B R tb toff cap w0 d w v.ownBlock cs hi (w.heap.size + 2) wX) by rw [hwX.out]] at HEC
    rw [hwX.out] at HXK
    rw [hWd.out] at HEC
    clear hWsz
    go_enter Tryd.func60, Tryd.ntmps60
    go_wp2_with (go_at_call 67; refine HEC.out.mono ?_; rintro e w1 ⟨rfl, v1, cs1, na, nc, ka, kc, hJ⟩; have l0 := cell_of_row w1 (w.heap.size + 2) 0 _ _ _ hJ.vbk; have l1 := cell_of_row w1 (w.heap.size + 2) 1 _ _ _ hJ.vbk; have l2 := cell_of_row w1 (w.heap.size + 2) 2 _ _ _ hJ.vbk; have l3 := cell_of_row w1 (w.heap.size + 2) 3 _ _ _ hJ.vbk; have l4 := hJ.cN; have l5 := hJ.cK; have hxb := (hJ.mid (w.heap.size + 1) (by omega) hx2 (by omega) (by omega)).trans HXK.out; simp only [List.getElem?_toArray, List.getElem?_cons_succ, List.getElem?_cons_zero] at l0 l1 l2 l3; have x0 := cell_of_row w1 (w.heap.size + 1) 0 _ _ _ hxb; have z0 := frozen_of_row w1 (w.heap.size + 1) 0 _ _ hxb; have x1 := cell_of_row w1 (w.heap.size + 1) 1 _ _ _ hxb; have z1 := frozen_of_row w1 (w.heap.size + 1) 1 _ _ hxb; have x2 := cell_of_row w1 (w.heap.size + 1) 2 _ _ _ hxb; have z2 := frozen_of_row w1 (w.heap.size + 1) 2 _ _ hxb; have x3 := cell_of_row w1 (w.heap.size + 1) 3 _ _ _ hxb; have z3 := frozen_of_row w1 (w.heap.size + 1) 3 _ _ hxb; have x4 := cell_of_row w1 (w.heap.size + 1) 4 _ _ _ hxb; have z4 := frozen_of_row w1 (w.heap.size + 1) 4 _ _ hxb; have x5 := cell_of_row w1 (w.heap.size + 1) 5 _ _ _ hxb; have z5 := frozen_of_row w1 (w.heap.size + 1) 5 _ _ hxb; simp only [List.getElem?_toArray, List.getElem?_cons_succ, List.getElem?_cons_zero] at x0 x1 x2 x3 x4 x5)
    have hD := hJ.done (Bes.six (w.heap.size + 1) w1 (.int .i64 5) (.bool false) (.int .i64 0) (.string ⟨#[]⟩) (.slice na 0 nc) (.slice ka s.1.length kc)) (by omega) hx2 ⟨_, _, hxb⟩
    have hgx := six_block (w.heap.size + 1) w1 _ _ _ _ _ _ (.int .i64 5) (.bool false) (.int .i64 0) (.string ⟨#[]⟩) (.slice na 0 nc) (.slice ka s.1.length kc) hxb
    refine bodyPost_ret (results_cell_row rfl _ _ (w.heap.size + 1) 42 _ (0, 0) _ rfl hgx Tryd.underlying42 rfl (by kernel_rfl)) rfl ?_
    rw [HR.out]
    exact ⟨v1, cs1, na, nc, ka, kc, rfl, hD⟩
end
end Go.Proofs.YtpffhckimilppaaDoor.Js