/-
  What the reader's object does.
-/
import Derived.Test.YtpffhckimilppaaDoorJObjB
namespace Go.Proofs.YtpffhckimilppaaDoor.Js
open Go.RowKit

section
variable {B : List UInt8} {R tb toff cap : Nat} {w0 w w' : World} {a d : Nat} {v : Value} {T : List V} {cs : List Value}
variable {wst wX : World} {o0 : Option Nat} {cs0 : List Value} {hi mb vb rb kind : Nat} {ns : List (List UInt8)} {ks : List Nat} {na ka : Option Addr} {nc kc : Nat}

theorem quotedL_adv (B : List UInt8) : ∀ (k p : Nat) (acc s : List UInt8) (q : Nat), quotedL B k p acc = .ok s q → p < q
  | 0, p, acc, s, q, e => by simp [quotedL] at e
  | k + 1, p, acc, s, q, e => by
    simp only [quotedL, peekM] at e
    split at e
    · simp only [Res.andThen] at e
      split at e
      · simp only [Res.ok.injEq] at e; omega
      · cases h : letterM B p with
        | bad x y => rw [h] at e; cases e
        | ok r a' =>
          rw [h] at e
          have := quotedL_adv B k _ _ _ _ e
          have := letterM_good B p r a' h
          omega
    · cases e
theorem nameM_adv {ns : List (List UInt8)} {a p : Nat} {n : List UInt8} (h : nameM B ns a = .ok n p) : a < p := by
  unfold nameM at h
  cases hA : aheadM B a with
  | bad x y => rw [hA] at h; cases h
  | ok c q =>
    rw [hA] at h
    simp only [Res.andThen] at h
    have := aheadM_at hA
    split at h
    · cases hQ : quotedM B q with
      | bad x y => rw [hQ] at h; cases h
      | ok s r =>
        rw [hQ] at h
        simp only at h
        have := quotedL_adv B _ _ _ _ _ hQ
        split at h
        · cases h
        · simp only [Res.ok.injEq] at h; omega
    · cases h

set_option maxHeartbeats 400000 in
theorem object_deep (h : St B R tb toff cap w0 w a 16 v T cs) : Calls Tryd.prog 61 #[.pointer (some ⟨R, 0, none⟩)] w (DoneV B R tb toff cap w0 w 16 v cs (objectM B none T a)) := by
  have hmf : ∀ (fn : Fn) (first cap : Array Value) (w : World), (Instr.makeFunc fn first cap).run Tryd.prog w = .ok (.func fn first cap) w := fun _ _ _ _ => rfl
  have hmm := @run_makeMap Tryd.prog
  go_enter Tryd.func61, Tryd.ntmps61
  go_wp2_with (go_at_call 67; refine (each_deep (((((h.sc.alloc _).alloc _).alloc _).alloc _).alloc _) _ _).mono ?_; rintro e w1 ⟨rfl, rfl⟩)
  exact ⟨rfl, rfl, (((((Fr.refl _ _ _).alloc _).alloc _).alloc _).alloc _).alloc _⟩

theorem JO_kid : KidC B R tb toff cap w0 d (JO B R tb toff cap w0 d wst o0 cs0 hi mb wX vb rb) (Fr R o0 wst) ∨ wst.heap.size ≤ R ∨ mb ≤ R := by
  by_cases h1 : wst.heap.size ≤ R
  · exact .inr (.inl h1)
  by_cases h2 : mb ≤ R
  · exact .inr (.inr h2)
  exact .inl {
    sc := fun _ _ _ _ ⟨_, _, _, _, _, h, _⟩ => h.st.sc
    scan := fun _ _ _ _ _ _ ⟨_, _, _, _, _, h, hset, hl⟩ hs f => ⟨_, _, _, _, _, h.scan f hs, hset.eq (f.block mb hset.lt (by omega) (by simp)), hl⟩
    keeps := fun _ _ _ _ ⟨_, _, _, _, _, h, _⟩ => h.fr
    more := fun _ _ h f => h.trans0 f.weak }

set_option maxRecDepth 100000 in
set_option maxHeartbeats 1600000 in
theorem object_any {sub : Sub} (E : Env B R tb toff cap w0) (HV : ValueC B R tb toff cap w0 sub (d + 1)) (hsub : SubOk sub) (h : St B R tb toff cap w0 w a d v T cs) (hd : d < 16) (hlt : a < B.length) :
    Calls Tryd.prog 61 #[.pointer (some ⟨R, 0, none⟩)] w (DoneV B R tb toff cap w0 w d v cs (objectM B (some sub) T a)) := by
  have hmf : ∀ (fn : Fn) (first cap : Array Value) (w : World), (Instr.makeFunc fn first cap).run Tryd.prog w = .ok (.func fn first cap) w := fun _ _ _ _ => rfl
  have hmm := @run_makeMap Tryd.prog
  have hRw := h.sc.rd.lt
  obtain ⟨W, hWd⟩ : ∃ W, Hid (W = (((((w.alloc (.cells #[.pointer (some ⟨R, 0, none⟩)] 67)).alloc (.cells #[.int .i64 0, .bool false, .int .i64 0, .string ⟨#[]⟩, .slice none 0 0, .slice none 0 0] 42)).alloc (.cells #[.int .i64 6, .bool false, .int .i64 0, .string ⟨#[]⟩, .slice none 0 0, .slice none 0 0] 42)).alloc (.map #[] 0)).alloc (.cells #[.map (some (w.heap.size + 3))] 76))) := ⟨_, rfl⟩
  have hscW : Sc B R tb toff cap w0 W a d v := by rw [hWd.out]; exact ((((h.sc.alloc _).alloc _).alloc _).alloc _).alloc _
  have hWsz : W.heap.size = w.heap.size + 5 := by rw [hWd.out]; simp
  have hWk : ∀ k, k < w.heap.size → W.heap[k]? = w.heap[k]? := fun k hk => by
    rw [hWd.out, Below.heap_alloc _ _ k (by simp; omega), Below.heap_alloc _ _ k (by simp; omega), Below.heap_alloc _ _ k (by simp; omega), Below.heap_alloc _ _ k (by simp; omega), Below.heap_alloc _ _ k hk]
  have hsk : W.heap[w.heap.size + 4]? = some (.cells #[.map (some (w.heap.size + 3))] 76 (0, 0)) := by
    rw [hWd.out]
    have := heap_alloc_new ((((w.alloc (.cells #[.pointer (some ⟨R, 0, none⟩)] 67)).alloc (.cells #[.int .i64 0, .bool false, .int .i64 0, .string ⟨#[]⟩, .slice none 0 0, .slice none 0 0] 42)).alloc (.cells #[.int .i64 6, .bool false, .int .i64 0, .string ⟨#[]⟩, .slice none 0 0, .slice none 0 0] 42)).alloc (.map #[] 0)) (.cells #[.map (some (w.heap.size + 3))] 76)
    simpa using this
  have hmk : W.heap[w.heap.size + 3]? = some (.map #[] 0) := by
    rw [hWd.out, Below.heap_alloc _ _ _ (by simp)]
    have := heap_alloc_new (((w.alloc (.cells #[.pointer (some ⟨R, 0, none⟩)] 67)).alloc (.cells #[.int .i64 0, .bool false, .int .i64 0, .string ⟨#[]⟩, .slice none 0 0, .slice none 0 0] 42)).alloc (.cells #[.int .i64 6, .bool false, .int .i64 0, .string ⟨#[]⟩, .slice none 0 0, .slice none 0 0] 42)) (.map #[] 0)
    simpa using this
  have hvk : W.heap[w.heap.size + 2]? = some (.cells #[.int .i64 6, .bool false, .int .i64 0, .string ⟨#[]⟩, .slice none 0 0, .slice none 0 0] 42 (0, 0)) := by
    rw [hWd.out, Below.heap_alloc _ _ _ (by simp), Below.heap_alloc _ _ _ (by simp)]
    have := heap_alloc_new ((w.alloc (.cells #[.pointer (some ⟨R, 0, none⟩)] 67)).alloc (.cells #[.int .i64 0, .bool false, .int .i64 0, .string ⟨#[]⟩, .slice none 0 0, .slice none 0 0] 42)) (.cells #[.int .i64 6, .bool false, .int .i64 0, .string ⟨#[]⟩, .slice none 0 0, .slice none 0 0] 42)
    simpa using this
  have hxk : W.heap[w.heap.size + 1]? = some (.cells #[.int .i64 0, .bool false, .int .i64 0, .string ⟨#[]⟩, .slice none 0 0, .slice none 0 0] 42 (0, 0)) := by
    rw [hWd.out, Below.heap_alloc _ _ _ (by simp), Below.heap_alloc _ _ _ (by simp), Below.heap_alloc _ _ _ (by simp)]
    have := heap_alloc_new (w.alloc (.cells #[.pointer (some ⟨R, 0, none⟩)] 67)) (.cells #[.int .i64 0, .bool false, .int .i64 0, .string ⟨#[]⟩, .slice none 0 0, .slice none 0 0] 42)
    simpa using this
  have hrk : W.heap[w.heap.size]? = some (.cells #[.pointer (some ⟨R, 0, none⟩)] 67 (0, 0)) := by
    rw [hWd.out, Below.heap_alloc _ _ _ (by simp; omega), Below.heap_alloc _ _ _ (by simp; omega), Below.heap_alloc _ _ _ (by simp; omega), Below.heap_alloc _ _ _ (by simp)]
    exact heap_alloc_new w _
  have hset0 : SetIs W (w.heap.size + 3) [] := by
    have h1 := World.ownsMap_made (H := Unit) (((w.alloc (.cells #[.pointer (some ⟨R, 0, none⟩)] 67)).alloc (.cells #[.int .i64 0, .bool false, .int .i64 0, .string ⟨#[]⟩, .slice none 0 0, .slice none 0 0] 42)).alloc (.cells #[.int .i64 6, .bool false, .int .i64 0, .string ⟨#[]⟩, .slice none 0 0, .slice none 0 0] 42)) Tryd.prog 9 unitElem
    obtain ⟨es, clock, hb, F, hs, hD⟩ := h1
    have hb2 : ((((w.alloc (.cells #[.pointer (some ⟨R, 0, none⟩)] 67)).alloc (.cells #[.int .i64 0, .bool false, .int .i64 0, .string ⟨#[]⟩, .slice none 0 0, .slice none 0 0] 42)).alloc (.cells #[.int .i64 6, .bool false, .int .i64 0, .string ⟨#[]⟩, .slice none 0 0, .slice none 0 0] 42)).alloc (.map #[] 0)).heap[w.heap.size + 3]? = some (.map es clock) := by simpa using hb
    have hb3 : W.heap[w.heap.size + 3]? = some (.map es clock) := by rw [hWd.out, Below.heap_alloc _ _ _ (by simp)]; exact hb2
    exact ⟨es, clock, hb3, F, hs, by rw [← hD]; rfl⟩
  have hKC : KidC B R tb toff cap w0 (d + 1) (JO B R tb toff cap w0 (d + 1) w v.ownBlock cs W.heap.size (w.heap.size + 3) W (w.heap.size + 2) w.heap.size) (Fr R v.ownBlock w) := by
    rcases JO_kid (B := B) (R := R) (tb := tb) (toff := toff) (cap := cap) (w0 := w0) (d := d + 1) (wst := w) (o0 := v.ownBlock) (cs0 := cs) (hi := W.heap.size) (mb := w.heap.size + 3) (wX := W) (vb := w.heap.size + 2) (rb := w.heap.size) with h1 | h1 | h1
    · exact h1
    · omega
    · omega
  have HEA : Hid (Calls Tryd.prog 67 #[.pointer (some ⟨R, 0, none⟩), .int .u8 (125 : Nat), .func (Fn.func 69) #[] #[.pointer (some ⟨w.heap.size + 2, 0, none⟩), .pointer (some ⟨w.heap.size, 0, none⟩), .pointer (some ⟨w.heap.size + 4, 0, none⟩)]] W
      (DoneE B R tb toff cap w0 d (JO B R tb toff cap w0 (d + 1) w v.ownBlock cs W.heap.size (w.heap.size + 3) W (w.heap.size + 2) w.heap.size) (Fr R v.ownBlock w) (eachM B 125 (objK B sub) ([], [], T) a))) :=
    each_any E hscW hd hlt 125 69 _ hent53 _ _ hKC (objK B sub) (fun s a s' a' e => by
        unfold objK at e
        cases hN : nameM B s.1 a with
        | bad x y => rw [hN] at e; cases e
        | ok n p =>
          rw [hN] at e
          simp only [Res.andThen] at e
          have hap := nameM_adv hN
          cases hW : wantM B 58 (skip B p) with
          | bad x y => rw [hW] at e; cases e
          | ok z q =>
            rw [hW] at e
            have hq := wantM_at hW
            have hsk := run_ge blankB B p
            have hsk2 : skip B p = run blankB B p := rfl
            cases hM : sub s.2.2 q with
            | bad x y => simp only [hM] at e; cases e
            | ok x a1 => simp only [hM, Res.ok.injEq] at e; have := (hsub _ _ _ _ hM).2; omega)
      (fun s w' a v' hJ => kid_object (sb := w.heap.size + 4) E HV hsub (by omega) (by omega) (by omega) (by omega) (by omega) (by omega) (by omega) hsk s w' a v' hJ) ([], [], T)
      (fun w1 hs f => ⟨cs, none, 0, none, 0, JG.start h 6 hWk (by omega) (by rw [hWd.out]; rfl) (by rw [hWd.out]; rfl) (by rw [hWd.out]; rfl) (by omega) (Nat.le_refl _) hvk hrk hs f, hset0.eq (f.block _ (by omega) (by omega) (by simp)), rfl⟩)
  cases hM : eachM B 125 (objK B sub) ([], [], T) a with
  | bad a1 c =>
    have HR : Hid (objectM B (some sub) T a = .bad a1 c) := by show _ = _; simp [objectM, hM, Res.andThen]
    rw [hM] at HEA
    have HEB : Hid (Calls Tryd.prog 67 #[.pointer (some ⟨R, 0, none⟩), .int .u8 (125 : Nat), .func (Fn.func 69) #[] #[.pointer (some ⟨w.heap.size + 2, 0, none⟩), .pointer (some ⟨w.heap.size, 0, none⟩), .pointer (some ⟨w.heap.size + 4, 0, none⟩)]] W fun e w' => e = .panicked (flt a1 c) ∧ Fr R v.ownBlock w w') := HEA
    rw [hWd.out] at HEB
    clear HEA hM hscW hWsz hWk hvk hrk hxk hsk hmk hset0 hKC
    go_enter Tryd.func61, Tryd.ntmps61
    go_wp2_with (go_at_call 67; refine HEB.out.mono ?_; rintro e w1 ⟨rfl, hf1⟩)
    refine ⟨rfl, ?_⟩
    rw [HR.out]
    exact ⟨rfl, hf1⟩
  | ok s a1 =>
    have HR : Hid (objectM B (some sub) T a = .ok ({ kind := 6, names := s.1, kids := s.2.1 }, s.2.2) a1) := by show _ = _; simp [objectM, hM, Res.andThen]
    rw [hM] at HEA
    have HEB : Hid (Calls Tryd.prog 67 #[.pointer (some ⟨R, 0, none⟩), .int .u8 (125 : Nat), .func (Fn.func 69) #[] #[.pointer (some ⟨w.heap.size + 2, 0, none⟩), .pointer (some ⟨w.heap.size, 0, none⟩), .pointer (some ⟨w.heap.size + 4, 0, none⟩)]] W
      fun e w' => e = .returned (.tuple #[]) ∧ ∃ v1 w2 p, JO B R tb toff cap w0 (d + 1) w v.ownBlock cs W.heap.size (w.heap.size + 3) W (w.heap.size + 2) w.heap.size s w2 p v1 ∧ Sc B R tb toff cap w0 w' a1 d v1 ∧ Fr R none w2 w') := HEA
    have hx2 : w.heap.size + 1 < W.heap.size := by omega
    have HXK : Hid (W.heap[w.heap.size + 1]? = some (.cells #[.int .i64 0, .bool false, .int .i64 0, .string ⟨#[]⟩, .slice none 0 0, .slice none 0 0] 42 (0, 0))) := hxk
    have HEC : Hid (Calls Tryd.prog 67 #[.pointer (some ⟨R, 0, none⟩), .int .u8 (125 : Nat), .func (Fn.func 69) #[] #[.pointer (some ⟨w.heap.size + 2, 0, none⟩), .pointer (some ⟨w.heap.size, 0, none⟩), .pointer (some ⟨w.heap.size + 4, 0, none⟩)]] W
      fun e w' => e = .returned (.tuple #[]) ∧ ∃ v1 cs1 na nc ka kc, JG B R tb toff cap w0 d w v.ownBlock cs W.heap.size (w.heap.size + 3) W (w.heap.size + 2) w.heap.size 6 s.1 s.2.1 s.2.2 w' a1 v1 cs1 na nc ka kc) := by
      refine HEB.out.mono ?_
      rintro e w' ⟨rfl, v1, w2, p, ⟨cs1, na, nc, ka, kc, hJ, _⟩, hs1, hf1⟩
      exact ⟨rfl, v1, cs1, na, nc, ka, kc, hJ.scan hf1 hs1⟩
    clear HEA HEB hM hscW hWk hvk hrk hxk hsk hmk hset0 hKC
    obtain ⟨hi, hhi⟩ : ∃ hi, Hid (W.heap.size = hi) := ⟨_, rfl⟩
    obtain ⟨wX, hwX⟩ : ∃ wX, Hid (W = wX) := ⟨_, rfl⟩
    rw [hhi.out] at HEC hx2
    rw [show (JG B R tb toff cap w0 d w v.ownBlock cs hi (w.heap.size + 3) W) = (JG B R tb toff cap w0 d w v.ownBlock cs hi (w.heap.size + 3) wX) by rw [hwX.out]] at HEC
    rw [hwX.out] at HXK
    rw [hWd.out] at HEC
    clear hWsz
    go_enter Tryd.func61, Tryd.ntmps61
    go_wp2_with (go_at_call 67; refine HEC.out.mono ?_; rintro e w1 ⟨rfl, v1, cs1, na, nc, ka, kc, hJ⟩; have l0 := cell_of_row w1 (w.heap.size + 2) 0 _ _ _ hJ.vbk; have l1 := cell_of_row w1 (w.heap.size + 2) 1 _ _ _ hJ.vbk; have l2 := cell_of_row w1 (w.heap.size + 2) 2 _ _ _ hJ.vbk; have l3 := cell_of_row w1 (w.heap.size + 2) 3 _ _ _ hJ.vbk; have l4 := hJ.cN; have l5 := hJ.cK; have hxb := (hJ.mid (w.heap.size + 1) (by omega) hx2 (by omega) (by omega)).trans HXK.out; simp only [List.getElem?_toArray, List.getElem?_cons_succ, List.getElem?_cons_zero] at l0 l1 l2 l3; have x0 := cell_of_row w1 (w.heap.size + 1) 0 _ _ _ hxb; have z0 := frozen_of_row w1 (w.heap.size + 1) 0 _ _ hxb; have x1 := cell_of_row w1 (w.heap.size + 1) 1 _ _ _ hxb; have z1 := frozen_of_row w1 (w.heap.size + 1) 1 _ _ hxb; have x2 := cell_of_row w1 (w.heap.size + 1) 2 _ _ _ hxb; have z2 := frozen_of_row w1 (w.heap.size + 1) 2 _ _ hxb; have x3 := cell_of_row w1 (w.heap.size + 1) 3 _ _ _ hxb; have z3 := frozen_of_row w1 (w.heap.size + 1) 3 _ _ hxb; have x4 := cell_of_row w1 (w.heap.size + 1) 4 _ _ _ hxb; have z4 := frozen_of_row w1 (w.heap.size + 1) 4 _ _ hxb; have x5 := cell_of_row w1 (w.heap.size + 1) 5 _ _ _ hxb; have z5 := frozen_of_row w1 (w.heap.size + 1) 5 _ _ hxb; simp only [List.getElem?_toArray, List.getElem?_cons_succ, List.getElem?_cons_zero] at x0 x1 x2 x3 x4 x5)
    have hD := hJ.done (Bes.six (w.heap.size + 1) w1 (.int .i64 6) (.bool false) (.int .i64 0) (.string ⟨#[]⟩) (.slice na s.1.length nc) (.slice ka s.2.1.length kc)) (by omega) hx2 ⟨_, _, hxb⟩
    have hgx := six_block (w.heap.size + 1) w1 _ _ _ _ _ _ (.int .i64 6) (.bool false) (.int .i64 0) (.string ⟨#[]⟩) (.slice na s.1.length nc) (.slice ka s.2.1.length kc) hxb
    refine bodyPost_ret (results_cell_row rfl _ _ (w.heap.size + 1) 42 _ (0, 0) _ rfl hgx Tryd.underlying42 rfl (by kernel_rfl)) rfl ?_
    rw [HR.out]
    exact ⟨v1, cs1, na, nc, ka, kc, rfl, hD⟩
end
end Go.Proofs.YtpffhckimilppaaDoor.Js