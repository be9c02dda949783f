/-
  What the reader's begun does.
-/
import Derived.Test.YtpffhckimilppaaDoorJObjC
namespace Go.Proofs.YtpffhckimilppaaDoor.Js
open Go.RowKit

section
variable {B : List UInt8} {R tb toff cap : Nat} {w0 w w' : World} {a d : Nat} {v : Value} {T : List V} {cs : List Value}

/-- A value without kids has been read. -/
theorem begun_fin {o : Obj} {p a1 : Nat} {w1 w4 : World} (h : St B R tb toff cap w0 w p d v T cs) (f : Fr R none (w.alloc o) w1) (hs : Sc B R tb toff cap w0 w1 a1 d v) (x : V) (hn : x.names = []) (hk : x.kids = []) (b : Bes w.heap.size w1 w4) :
    DoneV B R tb toff cap w0 w d v cs (.ok (x, T) a1) (.returned (aggV x none 0 none 0)) w4 := by
  have fw : Fr R none w w1 := ((Fr.refl R none w).alloc o).trans0 f
  have h1 := h.scan fw hs
  have hR := h.sc.rd.lt
  refine ⟨v, cs, none, 0, none, 0, rfl, ?_, ?_, ?_, Moved.refl _ _, New.refl _ _, ?_, ?_⟩
  · rw [hn, hk]
    exact ⟨by rw [hn]; exact World.ownsRow_nil _ _ _ _, by rw [hk]; exact World.ownsRow_nil _ _ _ _⟩
  · exact h1.beside b.os b.tape b.output (by rw [b.size]; exact Nat.le_refl _) (fun k hk => b.block k (by omega)) (fun g e => b.block g (by have := h.ownLt g e; omega)) (fun g hc => b.block g (by have := h.reps.lt g hc; omega))
  · exact ⟨b.os.trans fw.os, b.tape.trans fw.tape, b.output.trans fw.output, by rw [b.size]; exact fw.size, fun k hk h3 h4 => (b.block k (by omega)).trans (fw.block k hk h3 (by simp))⟩
  · intro g e; cases e
  · intro g e; cases e
/-- A list or object has been read. -/
theorem begun_fin2 {o : Obj} {p a1 : Nat} {w1 w4 : World} {x : V} {T' : List V} {v' : Value} {cs' : List Value} {na ka : Option Addr} {nc kc : Nat} (h : St B R tb toff cap w0 w p d v T cs) (hvo : VOwn w1 x (.slice na x.names.length nc) (.slice ka x.kids.length kc)) (hst : St B R tb toff cap w0 w1 a1 d v' T' cs')
    (f : Fr R v.ownBlock (w.alloc o) w1) (hm : Moved (w.alloc o).heap.size v.ownBlock v'.ownBlock) (hnw : New (w.alloc o).heap.size cs cs') (hr1 : NewRow (w.alloc o).heap.size (.slice na x.names.length nc)) (hr2 : NewRow (w.alloc o).heap.size (.slice ka x.kids.length kc))
    (ht : TyOf w1 w.heap.size 42) (b : Bes w.heap.size w1 w4) :
    DoneV B R tb toff cap w0 w d v cs (.ok (x, T') a1) (.returned (aggV x na nc ka kc)) w4 := by
  have hR := h.sc.rd.lt
  have fw : Fr R v.ownBlock w w1 := ((Fr.refl R v.ownBlock w).alloc o).trans0 f
  have hsz : (w.alloc o).heap.size = w.heap.size + 1 := by simp
  rw [hsz] at hm hnw hr1 hr2
  refine ⟨v', cs', na, nc, ka, kc, rfl, hvo.eq (fun g e => b.block g (by have := hr1 g e; omega)) (fun g e => b.block g (by have := hr2 g e; omega)), ?_, ?_, hm.le (by omega), fun g hg => (hnw g hg).imp id (fun h => by omega), fun g e => by have := hr1 g e; omega, fun g e => by have := hr2 g e; omega⟩
  · refine hst.beside b.os b.tape b.output (by rw [b.size]; exact Nat.le_refl _) (fun k hk => b.block k (by omega)) (fun g e => b.block g ?_) (fun g hc => b.block g ?_)
    · rcases hm with e2 | ⟨g2, e2, hg2⟩
      · rw [e2] at e; have := h.ownLt g e; omega
      · rw [e2] at e; cases e; omega
    · rcases hst.reps.ty g hc with t | t
      · exact t.ne ht (by decide)
      · exact t.ne ht (by decide)
  · exact ⟨b.os.trans fw.os, b.tape.trans fw.tape, b.output.trans fw.output, by rw [b.size]; exact fw.size, fun k hk h3 h4 => (b.block k (by omega)).trans (fw.block k hk h3 h4)⟩

def SubC (B : List UInt8) (R tb toff cap : Nat) (w0 : World) (d : Nat) : Option Sub → Prop
  | none => d = 16
  | some f => d < 16 ∧ ValueC B R tb toff cap w0 f (d + 1) ∧ SubOk f

set_option maxRecDepth 100000 in
set_option maxHeartbeats 6400000 in
theorem begun_c {sub : Option Sub} (E : Env B R tb toff cap w0) (hs : SubC B R tb toff cap w0 d sub) (c p : Nat) (h : St B R tb toff cap w0 w p d v T cs) (hp : p < B.length) :
    Calls Tryd.prog 51 #[.pointer (some ⟨R, 0, none⟩), .int .u8 c] w (DoneV B R tb toff cap w0 w d v cs (begunM B sub c T p)) := by
  have hRw := h.sc.rd.lt
  have hc : c = 110 ∨ c = 116 ∨ c = 102 ∨ c = 34 ∨ c = 45 ∨ (¬ c = 110 ∧ ¬ c = 116 ∧ ¬ c = 102 ∧ ¬ c = 34 ∧ ¬ c = 45 ∧ digN c = true) ∨ c = 91 ∨ c = 123 ∨ (¬ c = 110 ∧ ¬ c = 116 ∧ ¬ c = 102 ∧ ¬ c = 34 ∧ ¬ c = 45 ∧ digN c = false ∧ ¬ c = 91 ∧ ¬ c = 123) := by
    cases digN c <;> simp <;> omega
  have hdd : digN c = true → 48 ≤ c ∧ c ≤ 57 := by intro e; simpa [digN] using e
  rcases hc with rfl | rfl | rfl | rfl | rfl | ⟨n1, n2, n3, n4, n5, hdg⟩ | rfl | rfl | ⟨n1, n2, n3, n4, n5, n6, n7, n8⟩
  · have hdd' := hdd; clear hdd
    cases hM : wordM B nullW p with
    | bad a1 k =>
      have HR : Hid (begunM B sub 110 T p = .bad a1 k) := by show _ = _; simp [begunM, hM, Res.andThen]
      have HM : Hid (wordM B nullW p = .bad a1 k) := hM
      clear hM
      go_enter Tryd.func51, Tryd.ntmps51
      go_wp2_with (first | (go_at_call 56; refine (badS (word_any E (h.sc.alloc _) ⟨#[110, 117, 108, 108]⟩ (by decide)) HM.out).mono ?_; rintro e w1 ⟨rfl, hf1⟩) | (go_at_call 58; refine (digit_any _ _).mono ?_; rintro e w' ⟨rfl, rfl⟩))
      refine ⟨rfl, ?_⟩
      rw [HR.out]
      exact ⟨rfl, (((Fr.refl _ _ _).alloc _).trans0 hf1).weak⟩
    | ok y a1 =>
      have HR : Hid (begunM B sub 110 T p = .ok ({ kind := 1 }, T) a1) := by show _ = _; simp [begunM, hM, Res.andThen]
      have HM : Hid (wordM B nullW p = .ok y a1) := hM
      clear hM
      go_enter Tryd.func51, Tryd.ntmps51
      go_wp2_with (first | (go_at_call 56; refine (okS (word_any E (h.sc.alloc _) ⟨#[110, 117, 108, 108]⟩ (by decide)) HM.out).mono ?_; rintro e w1 ⟨rfl, hs1, hf1⟩; have hxb := (hf1.block w.heap.size (by simp) (by omega) (by simp)).trans (heap_alloc_new w _); have x0 := cell_of_row w1 w.heap.size 0 _ _ _ hxb; have z0 := frozen_of_row w1 w.heap.size 0 _ _ hxb; have x1 := cell_of_row w1 w.heap.size 1 _ _ _ hxb; have z1 := frozen_of_row w1 w.heap.size 1 _ _ hxb; have x2 := cell_of_row w1 w.heap.size 2 _ _ _ hxb; have z2 := frozen_of_row w1 w.heap.size 2 _ _ hxb; have x3 := cell_of_row w1 w.heap.size 3 _ _ _ hxb; have z3 := frozen_of_row w1 w.heap.size 3 _ _ hxb; have x4 := cell_of_row w1 w.heap.size 4 _ _ _ hxb; have z4 := frozen_of_row w1 w.heap.size 4 _ _ hxb; have x5 := cell_of_row w1 w.heap.size 5 _ _ _ hxb; have z5 := frozen_of_row w1 w.heap.size 5 _ _ hxb; simp only [List.getElem?_toArray, List.getElem?_cons_succ, List.getElem?_cons_zero] at x0 x1 x2 x3 x4 x5) | (go_at_call 58; refine (digit_any _ _).mono ?_; rintro e w' ⟨rfl, rfl⟩))
      have hD := begun_fin h hf1 hs1 ({ kind := 1 }) rfl rfl (Bes.six w.heap.size w1 (.int .i64 1) (.bool false) (.int .i64 0) (.string ⟨#[]⟩) (.slice none 0 0) (.slice none 0 0))
      have hgx := six_block w.heap.size w1 _ _ _ _ _ _ (.int .i64 1) (.bool false) (.int .i64 0) (.string ⟨#[]⟩) (.slice none 0 0) (.slice none 0 0) hxb
      refine bodyPost_ret (results_cell_row rfl _ _ w.heap.size 42 _ (0, 0) _ rfl hgx Tryd.underlying42 rfl (by kernel_rfl)) rfl ?_
      rw [HR.out]
      exact hD
  · have hdd' := hdd; clear hdd
    cases hM : wordM B trueW p with
    | bad a1 k =>
      have HR : Hid (begunM B sub 116 T p = .bad a1 k) := by show _ = _; simp [begunM, hM, Res.andThen]
      have HM : Hid (wordM B trueW p = .bad a1 k) := hM
      clear hM
      go_enter Tryd.func51, Tryd.ntmps51
      go_wp2_with (first | (go_at_call 56; refine (badS (word_any E (h.sc.alloc _) ⟨#[116, 114, 117, 101]⟩ (by decide)) HM.out).mono ?_; rintro e w1 ⟨rfl, hf1⟩) | (go_at_call 58; refine (digit_any _ _).mono ?_; rintro e w' ⟨rfl, rfl⟩))
      refine ⟨rfl, ?_⟩
      rw [HR.out]
      exact ⟨rfl, (((Fr.refl _ _ _).alloc _).trans0 hf1).weak⟩
    | ok y a1 =>
      have HR : Hid (begunM B sub 116 T p = .ok ({ kind := 2, truth := true }, T) a1) := by show _ = _; simp [begunM, hM, Res.andThen]
      have HM : Hid (wordM B trueW p = .ok y a1) := hM
      clear hM
      go_enter Tryd.func51, Tryd.ntmps51
      go_wp2_with (first | (go_at_call 56; refine (okS (word_any E (h.sc.alloc _) ⟨#[116, 114, 117, 101]⟩ (by decide)) HM.out).mono ?_; rintro e w1 ⟨rfl, hs1, hf1⟩; have hxb := (hf1.block w.heap.size (by simp) (by omega) (by simp)).trans (heap_alloc_new w _); have x0 := cell_of_row w1 w.heap.size 0 _ _ _ hxb; have z0 := frozen_of_row w1 w.heap.size 0 _ _ hxb; have x1 := cell_of_row w1 w.heap.size 1 _ _ _ hxb; have z1 := frozen_of_row w1 w.heap.size 1 _ _ hxb; have x2 := cell_of_row w1 w.heap.size 2 _ _ _ hxb; have z2 := frozen_of_row w1 w.heap.size 2 _ _ hxb; have x3 := cell_of_row w1 w.heap.size 3 _ _ _ hxb; have z3 := frozen_of_row w1 w.heap.size 3 _ _ hxb; have x4 := cell_of_row w1 w.heap.size 4 _ _ _ hxb; have z4 := frozen_of_row w1 w.heap.size 4 _ _ hxb; have x5 := cell_of_row w1 w.heap.size 5 _ _ _ hxb; have z5 := frozen_of_row w1 w.heap.size 5 _ _ hxb; simp only [List.getElem?_toArray, List.getElem?_cons_succ, List.getElem?_cons_zero] at x0 x1 x2 x3 x4 x5) | (go_at_call 58; refine (digit_any _ _).mono ?_; rintro e w' ⟨rfl, rfl⟩))
      have hD := begun_fin h hf1 hs1 ({ kind := 2, truth := true }) rfl rfl (Bes.six w.heap.size w1 (.int .i64 2) (.bool true) (.int .i64 0) (.string ⟨#[]⟩) (.slice none 0 0) (.slice none 0 0))
      have hgx := six_block w.heap.size w1 _ _ _ _ _ _ (.int .i64 2) (.bool true) (.int .i64 0) (.string ⟨#[]⟩) (.slice none 0 0) (.slice none 0 0) hxb
      refine bodyPost_ret (results_cell_row rfl _ _ w.heap.size 42 _ (0, 0) _ rfl hgx Tryd.underlying42 rfl (by kernel_rfl)) rfl ?_
      rw [HR.out]
      exact hD
  · have hdd' := hdd; clear hdd
    cases hM : wordM B falseW p with
    | bad a1 k =>
      have HR : Hid (begunM B sub 102 T p = .bad a1 k) := by show _ = _; simp [begunM, hM, Res.andThen]
      have HM : Hid (wordM B falseW p = .bad a1 k) := hM
      clear hM
      go_enter Tryd.func51, Tryd.ntmps51
      go_wp2_with (first | (go_at_call 56; refine (badS (word_any E (h.sc.alloc _) ⟨#[102, 97, 108, 115, 101]⟩ (by decide)) HM.out).mono ?_; rintro e w1 ⟨rfl, hf1⟩) | (go_at_call 58; refine (digit_any _ _).mono ?_; rintro e w' ⟨rfl, rfl⟩))
      refine ⟨rfl, ?_⟩
      rw [HR.out]
      exact ⟨rfl, (((Fr.refl _ _ _).alloc _).trans0 hf1).weak⟩
    | ok y a1 =>
      have HR : Hid (begunM B sub 102 T p = .ok ({ kind := 2 }, T) a1) := by show _ = _; simp [begunM, hM, Res.andThen]
      have HM : Hid (wordM B falseW p = .ok y a1) := hM
      clear hM
      go_enter Tryd.func51, Tryd.ntmps51
      go_wp2_with (first | (go_at_call 56; refine (okS (word_any E (h.sc.alloc _) ⟨#[102, 97, 108, 115, 101]⟩ (by decide)) HM.out).mono ?_; rintro e w1 ⟨rfl, hs1, hf1⟩; have hxb := (hf1.block w.heap.size (by simp) (by omega) (by simp)).trans (heap_alloc_new w _); have x0 := cell_of_row w1 w.heap.size 0 _ _ _ hxb; have z0 := frozen_of_row w1 w.heap.size 0 _ _ hxb; have x1 := cell_of_row w1 w.heap.size 1 _ _ _ hxb; have z1 := frozen_of_row w1 w.heap.size 1 _ _ hxb; have x2 := cell_of_row w1 w.heap.size 2 _ _ _ hxb; have z2 := frozen_of_row w1 w.heap.size 2 _ _ hxb; have x3 := cell_of_row w1 w.heap.size 3 _ _ _ hxb; have z3 := frozen_of_row w1 w.heap.size 3 _ _ hxb; have x4 := cell_of_row w1 w.heap.size 4 _ _ _ hxb; have z4 := frozen_of_row w1 w.heap.size 4 _ _ hxb; have x5 := cell_of_row w1 w.heap.size 5 _ _ _ hxb; have z5 := frozen_of_row w1 w.heap.size 5 _ _ hxb; simp only [List.getElem?_toArray, List.getElem?_cons_succ, List.getElem?_cons_zero] at x0 x1 x2 x3 x4 x5) | (go_at_call 58; refine (digit_any _ _).mono ?_; rintro e w' ⟨rfl, rfl⟩))
      have hD := begun_fin h hf1 hs1 ({ kind := 2 }) rfl rfl (Bes.six w.heap.size w1 (.int .i64 2) (.bool false) (.int .i64 0) (.string ⟨#[]⟩) (.slice none 0 0) (.slice none 0 0))
      have hgx := six_block w.heap.size w1 _ _ _ _ _ _ (.int .i64 2) (.bool false) (.int .i64 0) (.string ⟨#[]⟩) (.slice none 0 0) (.slice none 0 0) hxb
      refine bodyPost_ret (results_cell_row rfl _ _ w.heap.size 42 _ (0, 0) _ rfl hgx Tryd.underlying42 rfl (by kernel_rfl)) rfl ?_
      rw [HR.out]
      exact hD
  · have hdd' := hdd; clear hdd
    cases hM : quotedM B p with
    | bad a1 k =>
      have HR : Hid (begunM B sub 34 T p = .bad a1 k) := by show _ = _; simp [begunM, hM, Res.andThen]
      have HM : Hid (quotedM B p = .bad a1 k) := hM
      clear hM
      go_enter Tryd.func51, Tryd.ntmps51
      go_wp2_with (first | (go_at_call 57; refine (badS (quoted_any E (h.sc.alloc _) hp) HM.out).mono ?_; rintro e w1 ⟨rfl, hf1⟩) | (go_at_call 58; refine (digit_any _ _).mono ?_; rintro e w' ⟨rfl, rfl⟩))
      refine ⟨rfl, ?_⟩
      rw [HR.out]
      exact ⟨rfl, (((Fr.refl _ _ _).alloc _).trans0 hf1).weak⟩
    | ok y a1 =>
      have HR : Hid (begunM B sub 34 T p = .ok ({ kind := 4, text := y }, T) a1) := by show _ = _; simp [begunM, hM, Res.andThen]
      have HM : Hid (quotedM B p = .ok y a1) := hM
      clear hM
      go_enter Tryd.func51, Tryd.ntmps51
      go_wp2_with (first | (go_at_call 57; refine (okS (quoted_any E (h.sc.alloc _) hp) HM.out).mono ?_; rintro e w1 ⟨rfl, hs1, hf1⟩; simp only [strv]; have hxb := (hf1.block w.heap.size (by simp) (by omega) (by simp)).trans (heap_alloc_new w _); have x0 := cell_of_row w1 w.heap.size 0 _ _ _ hxb; have z0 := frozen_of_row w1 w.heap.size 0 _ _ hxb; have x1 := cell_of_row w1 w.heap.size 1 _ _ _ hxb; have z1 := frozen_of_row w1 w.heap.size 1 _ _ hxb; have x2 := cell_of_row w1 w.heap.size 2 _ _ _ hxb; have z2 := frozen_of_row w1 w.heap.size 2 _ _ hxb; have x3 := cell_of_row w1 w.heap.size 3 _ _ _ hxb; have z3 := frozen_of_row w1 w.heap.size 3 _ _ hxb; have x4 := cell_of_row w1 w.heap.size 4 _ _ _ hxb; have z4 := frozen_of_row w1 w.heap.size 4 _ _ hxb; have x5 := cell_of_row w1 w.heap.size 5 _ _ _ hxb; have z5 := frozen_of_row w1 w.heap.size 5 _ _ hxb; simp only [List.getElem?_toArray, List.getElem?_cons_succ, List.getElem?_cons_zero] at x0 x1 x2 x3 x4 x5) | (go_at_call 58; refine (digit_any _ _).mono ?_; rintro e w' ⟨rfl, rfl⟩))
      have hD := begun_fin h hf1 hs1 ({ kind := 4, text := y }) rfl rfl (Bes.six w.heap.size w1 (.int .i64 4) (.bool false) (.int .i64 0) (.string ⟨y.toArray⟩) (.slice none 0 0) (.slice none 0 0))
      have hgx := six_block w.heap.size w1 _ _ _ _ _ _ (.int .i64 4) (.bool false) (.int .i64 0) (.string ⟨y.toArray⟩) (.slice none 0 0) (.slice none 0 0) hxb
      refine bodyPost_ret (results_cell_row rfl _ _ w.heap.size 42 _ (0, 0) _ rfl hgx Tryd.underlying42 rfl (by kernel_rfl)) rfl ?_
      rw [HR.out]
      exact hD
  · have hdd' := hdd; clear hdd
    cases hM : numberM B p with
    | bad a1 k =>
      have HR : Hid (begunM B sub 45 T p = .bad a1 k) := by show _ = _; simp [begunM, hM, Res.andThen]
      have HM : Hid (numberM B p = .bad a1 k) := hM
      clear hM
      go_enter Tryd.func51, Tryd.ntmps51
      go_wp2_with (first | (go_at_call 59; refine (badS (number_any E (h.sc.alloc _) hp) HM.out).mono ?_; rintro e w1 ⟨rfl, hf1⟩) | (go_at_call 58; refine (digit_any _ _).mono ?_; rintro e w' ⟨rfl, rfl⟩))
      refine ⟨rfl, ?_⟩
      rw [HR.out]
      exact ⟨rfl, (((Fr.refl _ _ _).alloc _).trans0 hf1).weak⟩
    | ok y a1 =>
      have HR : Hid (begunM B sub 45 T p = .ok ({ kind := 3, num := y }, T) a1) := by show _ = _; simp [begunM, hM, Res.andThen]
      have HM : Hid (numberM B p = .ok y a1) := hM
      clear hM
      go_enter Tryd.func51, Tryd.ntmps51
      go_wp2_with (first | (go_at_call 59; refine (okS (number_any E (h.sc.alloc _) hp) HM.out).mono ?_; rintro e w1 ⟨rfl, hs1, hf1⟩; simp only [i64v]; have hxb := (hf1.block w.heap.size (by simp) (by omega) (by simp)).trans (heap_alloc_new w _); have x0 := cell_of_row w1 w.heap.size 0 _ _ _ hxb; have z0 := frozen_of_row w1 w.heap.size 0 _ _ hxb; have x1 := cell_of_row w1 w.heap.size 1 _ _ _ hxb; have z1 := frozen_of_row w1 w.heap.size 1 _ _ hxb; have x2 := cell_of_row w1 w.heap.size 2 _ _ _ hxb; have z2 := frozen_of_row w1 w.heap.size 2 _ _ hxb; have x3 := cell_of_row w1 w.heap.size 3 _ _ _ hxb; have z3 := frozen_of_row w1 w.heap.size 3 _ _ hxb; have x4 := cell_of_row w1 w.heap.size 4 _ _ _ hxb; have z4 := frozen_of_row w1 w.heap.size 4 _ _ hxb; have x5 := cell_of_row w1 w.heap.size 5 _ _ _ hxb; have z5 := frozen_of_row w1 w.heap.size 5 _ _ hxb; simp only [List.getElem?_toArray, List.getElem?_cons_succ, List.getElem?_cons_zero] at x0 x1 x2 x3 x4 x5) | (go_at_call 58; refine (digit_any _ _).mono ?_; rintro e w' ⟨rfl, rfl⟩))
      have hD := begun_fin h hf1 hs1 ({ kind := 3, num := y }) rfl rfl (Bes.six w.heap.size w1 (.int .i64 3) (.bool false) (.int .i64 y) (.string ⟨#[]⟩) (.slice none 0 0) (.slice none 0 0))
      have hgx := six_block w.heap.size w1 _ _ _ _ _ _ (.int .i64 3) (.bool false) (.int .i64 y) (.string ⟨#[]⟩) (.slice none 0 0) (.slice none 0 0) hxb
      refine bodyPost_ret (results_cell_row rfl _ _ w.heap.size 42 _ (0, 0) _ rfl hgx Tryd.underlying42 rfl (by kernel_rfl)) rfl ?_
      rw [HR.out]
      exact hD
  · have hdd' := hdd hdg; clear hdd
    have m110 : ((c : Int) == 110) = false := by simp; omega
    have m116 : ((c : Int) == 116) = false := by simp; omega
    have m102 : ((c : Int) == 102) = false := by simp; omega
    have m34 : ((c : Int) == 34) = false := by simp; omega
    have m45 : ((c : Int) == 45) = false := by simp; omega
    have m91 : ((c : Int) == 91) = false := by simp; omega
    have m123 : ((c : Int) == 123) = false := by simp; omega
    cases hM : numberM B p with
    | bad a1 k =>
      have HR : Hid (begunM B sub c T p = .bad a1 k) := by show _ = _; simp [begunM, hM, Res.andThen, n1, n2, n3, n4, n5, hdg]
      have HM : Hid (numberM B p = .bad a1 k) := hM
      clear hM
      go_enter Tryd.func51, Tryd.ntmps51
      go_wp2_with (first | (go_at_call 59; refine (badS (number_any E (h.sc.alloc _) hp) HM.out).mono ?_; rintro e w1 ⟨rfl, hf1⟩) | (go_at_call 58; refine (digit_any _ _).mono ?_; rintro e w' ⟨rfl, rfl⟩))
      refine ⟨rfl, ?_⟩
      rw [HR.out]
      exact ⟨rfl, (((Fr.refl _ _ _).alloc _).trans0 hf1).weak⟩
    | ok y a1 =>
      have HR : Hid (begunM B sub c T p = .ok ({ kind := 3, num := y }, T) a1) := by show _ = _; simp [begunM, hM, Res.andThen, n1, n2, n3, n4, n5, hdg]
      have HM : Hid (numberM B p = .ok y a1) := hM
      clear hM
      go_enter Tryd.func51, Tryd.ntmps51
      go_wp2_with (first | (go_at_call 59; refine (okS (number_any E (h.sc.alloc _) hp) HM.out).mono ?_; rintro e w1 ⟨rfl, hs1, hf1⟩; simp only [i64v]; have hxb := (hf1.block w.heap.size (by simp) (by omega) (by simp)).trans (heap_alloc_new w _); have x0 := cell_of_row w1 w.heap.size 0 _ _ _ hxb; have z0 := frozen_of_row w1 w.heap.size 0 _ _ hxb; have x1 := cell_of_row w1 w.heap.size 1 _ _ _ hxb; have z1 := frozen_of_row w1 w.heap.size 1 _ _ hxb; have x2 := cell_of_row w1 w.heap.size 2 _ _ _ hxb; have z2 := frozen_of_row w1 w.heap.size 2 _ _ hxb; have x3 := cell_of_row w1 w.heap.size 3 _ _ _ hxb; have z3 := frozen_of_row w1 w.heap.size 3 _ _ hxb; have x4 := cell_of_row w1 w.heap.size 4 _ _ _ hxb; have z4 := frozen_of_row w1 w.heap.size 4 _ _ hxb; have x5 := cell_of_row w1 w.heap.size 5 _ _ _ hxb; have z5 := frozen_of_row w1 w.heap.size 5 _ _ hxb; simp only [List.getElem?_toArray, List.getElem?_cons_succ, List.getElem?_cons_zero] at x0 x1 x2 x3 x4 x5) | (go_at_call 58; refine (digit_any _ _).mono ?_; rintro e w' ⟨rfl, rfl⟩))
      have hD := begun_fin h hf1 hs1 ({ kind := 3, num := y }) rfl rfl (Bes.six w.heap.size w1 (.int .i64 3) (.bool false) (.int .i64 y) (.string ⟨#[]⟩) (.slice none 0 0) (.slice none 0 0))
      have hgx := six_block w.heap.size w1 _ _ _ _ _ _ (.int .i64 3) (.bool false) (.int .i64 y) (.string ⟨#[]⟩) (.slice none 0 0) (.slice none 0 0) hxb
      refine bodyPost_ret (results_cell_row rfl _ _ w.heap.size 42 _ (0, 0) _ rfl hgx Tryd.underlying42 rfl (by kernel_rfl)) rfl ?_
      rw [HR.out]
      exact hD
  · have HR0 : Hid (begunM B sub 91 T p = listM B sub T p) := by show _ = _; simp [begunM, digN]
    have HCL : Hid (∀ o, Calls Tryd.prog 60 #[.pointer (some ⟨R, 0, none⟩)] (w.alloc o) (DoneV B R tb toff cap w0 (w.alloc o) d v cs (listM B sub T p))) := by
      intro o
      have ha : St B R tb toff cap w0 (w.alloc o) p d v T cs := h.scan ((Fr.refl _ _ _).alloc o) (h.sc.alloc o)
      cases sub with
      | none => have e : d = 16 := hs; subst e; exact list_deep ha
      | some f => obtain ⟨h1, h2, h3⟩ := (hs : d < 16 ∧ ValueC B R tb toff cap w0 f (d + 1) ∧ SubOk f); exact list_any E h2 h3 ha h1 hp
    cases hM : listM B sub T p with
    | bad a1 k =>
      rw [hM] at HCL HR0
      have HR : Hid (begunM B sub 91 T p = .bad a1 k) := HR0
      have HCB : Hid (∀ o, Calls Tryd.prog 60 #[.pointer (some ⟨R, 0, none⟩)] (w.alloc o) fun e w' => e = .panicked (flt a1 k) ∧ Fr R v.ownBlock (w.alloc o) w') := HCL
      clear hM HR0 HCL
      go_enter Tryd.func51, Tryd.ntmps51
      go_wp2_with (first | (go_at_call 60; refine (HCB.out _).mono ?_; rintro e w1 ⟨rfl, hf1⟩) | (go_at_call 58; refine (digit_any _ _).mono ?_; rintro e w' ⟨rfl, rfl⟩))
      refine ⟨rfl, ?_⟩
      rw [HR.out]
      exact ⟨rfl, ((Fr.refl _ _ _).alloc _).trans0 hf1⟩
    | ok y a1 =>
      rw [hM] at HCL HR0
      have HR : Hid (begunM B sub 91 T p = .ok y a1) := HR0
      have HCB : Hid (∀ o, Calls Tryd.prog 60 #[.pointer (some ⟨R, 0, none⟩)] (w.alloc o) fun e w' => ∃ v' cs' na nc ka kc, e = .returned (aggV y.1 na nc ka kc) ∧ VOwn w' y.1 (.slice na y.1.names.length nc) (.slice ka y.1.kids.length kc) ∧ St B R tb toff cap w0 w' a1 d v' y.2 cs' ∧ Fr R v.ownBlock (w.alloc o) w' ∧ Moved (w.alloc o).heap.size v.ownBlock v'.ownBlock ∧ New (w.alloc o).heap.size cs cs' ∧ NewRow (w.alloc o).heap.size (.slice na y.1.names.length nc) ∧ NewRow (w.alloc o).heap.size (.slice ka y.1.kids.length kc)) := HCL
      clear hM HR0 HCL
      go_enter Tryd.func51, Tryd.ntmps51
      go_wp2_with (first | (go_at_call 60; refine (HCB.out _).mono ?_; rintro e w1 ⟨v', cs', na, nc, ka, kc, rfl, hvo, hst1, hf1, hm1, hn1, hr1, hr2⟩; simp only [aggV]; have hxb := (hf1.block w.heap.size (by simp) (by omega) (fun e => by have := h.ownLt _ e; omega)).trans (heap_alloc_new w _); have x0 := cell_of_row w1 w.heap.size 0 _ _ _ hxb; have z0 := frozen_of_row w1 w.heap.size 0 _ _ hxb; have x1 := cell_of_row w1 w.heap.size 1 _ _ _ hxb; have z1 := frozen_of_row w1 w.heap.size 1 _ _ hxb; have x2 := cell_of_row w1 w.heap.size 2 _ _ _ hxb; have z2 := frozen_of_row w1 w.heap.size 2 _ _ hxb; have x3 := cell_of_row w1 w.heap.size 3 _ _ _ hxb; have z3 := frozen_of_row w1 w.heap.size 3 _ _ hxb; have x4 := cell_of_row w1 w.heap.size 4 _ _ _ hxb; have z4 := frozen_of_row w1 w.heap.size 4 _ _ hxb; have x5 := cell_of_row w1 w.heap.size 5 _ _ _ hxb; have z5 := frozen_of_row w1 w.heap.size 5 _ _ hxb; simp only [List.getElem?_toArray, List.getElem?_cons_succ, List.getElem?_cons_zero] at x0 x1 x2 x3 x4 x5) | (go_at_call 58; refine (digit_any _ _).mono ?_; rintro e w' ⟨rfl, rfl⟩))
      have hD := begun_fin2 h hvo hst1 hf1 hm1 hn1 hr1 hr2 ⟨_, _, hxb⟩ (Bes.six w.heap.size w1 (.int .i64 y.1.kind) (.bool y.1.truth) (.int .i64 y.1.num) (.string ⟨y.1.text.toArray⟩) (.slice na y.1.names.length nc) (.slice ka y.1.kids.length kc))
      have hgx := six_block w.heap.size w1 _ _ _ _ _ _ (.int .i64 y.1.kind) (.bool y.1.truth) (.int .i64 y.1.num) (.string ⟨y.1.text.toArray⟩) (.slice na y.1.names.length nc) (.slice ka y.1.kids.length kc) hxb
      refine bodyPost_ret (results_cell_row rfl _ _ w.heap.size 42 _ (0, 0) _ rfl hgx Tryd.underlying42 rfl (by kernel_rfl)) rfl ?_
      rw [HR.out]
      exact hD
  · have HR0 : Hid (begunM B sub 123 T p = objectM B sub T p) := by show _ = _; simp [begunM, digN]
    have HCL : Hid (∀ o, Calls Tryd.prog 61 #[.pointer (some ⟨R, 0, none⟩)] (w.alloc o) (DoneV B R tb toff cap w0 (w.alloc o) d v cs (objectM B sub T p))) := by
      intro o
      have ha : St B R tb toff cap w0 (w.alloc o) p d v T cs := h.scan ((Fr.refl _ _ _).alloc o) (h.sc.alloc o)
      cases sub with
      | none => have e : d = 16 := hs; subst e; exact object_deep ha
      | some f => obtain ⟨h1, h2, h3⟩ := (hs : d < 16 ∧ ValueC B R tb toff cap w0 f (d + 1) ∧ SubOk f); exact object_any E h2 h3 ha h1 hp
    cases hM : objectM B sub T p with
    | bad a1 k =>
      rw [hM] at HCL HR0
      have HR : Hid (begunM B sub 123 T p = .bad a1 k) := HR0
      have HCB : Hid (∀ o, Calls Tryd.prog 61 #[.pointer (some ⟨R, 0, none⟩)] (w.alloc o) fun e w' => e = .panicked (flt a1 k) ∧ Fr R v.ownBlock (w.alloc o) w') := HCL
      clear hM HR0 HCL
      go_enter Tryd.func51, Tryd.ntmps51
      go_wp2_with (first | (go_at_call 61; refine (HCB.out _).mono ?_; rintro e w1 ⟨rfl, hf1⟩) | (go_at_call 58; refine (digit_any _ _).mono ?_; rintro e w' ⟨rfl, rfl⟩))
      refine ⟨rfl, ?_⟩
      rw [HR.out]
      exact ⟨rfl, ((Fr.refl _ _ _).alloc _).trans0 hf1⟩
    | ok y a1 =>
      rw [hM] at HCL HR0
      have HR : Hid (begunM B sub 123 T p = .ok y a1) := HR0
      have HCB : Hid (∀ o, Calls Tryd.prog 61 #[.pointer (some ⟨R, 0, none⟩)] (w.alloc o) fun e w' => ∃ v' cs' na nc ka kc, e = .returned (aggV y.1 na nc ka kc) ∧ VOwn w' y.1 (.slice na y.1.names.length nc) (.slice ka y.1.kids.length kc) ∧ St B R tb toff cap w0 w' a1 d v' y.2 cs' ∧ Fr R v.ownBlock (w.alloc o) w' ∧ Moved (w.alloc o).heap.size v.ownBlock v'.ownBlock ∧ New (w.alloc o).heap.size cs cs' ∧ NewRow (w.alloc o).heap.size (.slice na y.1.names.length nc) ∧ NewRow (w.alloc o).heap.size (.slice ka y.1.kids.length kc)) := HCL
      clear hM HR0 HCL
      go_enter Tryd.func51, Tryd.ntmps51
      go_wp2_with (first | (go_at_call 61; refine (HCB.out _).mono ?_; rintro e w1 ⟨v', cs', na, nc, ka, kc, rfl, hvo, hst1, hf1, hm1, hn1, hr1, hr2⟩; simp only [aggV]; have hxb := (hf1.block w.heap.size (by simp) (by omega) (fun e => by have := h.ownLt _ e; omega)).trans (heap_alloc_new w _); have x0 := cell_of_row w1 w.heap.size 0 _ _ _ hxb; have z0 := frozen_of_row w1 w.heap.size 0 _ _ hxb; have x1 := cell_of_row w1 w.heap.size 1 _ _ _ hxb; have z1 := frozen_of_row w1 w.heap.size 1 _ _ hxb; have x2 := cell_of_row w1 w.heap.size 2 _ _ _ hxb; have z2 := frozen_of_row w1 w.heap.size 2 _ _ hxb; have x3 := cell_of_row w1 w.heap.size 3 _ _ _ hxb; have z3 := frozen_of_row w1 w.heap.size 3 _ _ hxb; have x4 := cell_of_row w1 w.heap.size 4 _ _ _ hxb; have z4 := frozen_of_row w1 w.heap.size 4 _ _ hxb; have x5 := cell_of_row w1 w.heap.size 5 _ _ _ hxb; have z5 := frozen_of_row w1 w.heap.size 5 _ _ hxb; simp only [List.getElem?_toArray, List.getElem?_cons_succ, List.getElem?_cons_zero] at x0 x1 x2 x3 x4 x5) | (go_at_call 58; refine (digit_any _ _).mono ?_; rintro e w' ⟨rfl, rfl⟩))
      have hD := begun_fin2 h hvo hst1 hf1 hm1 hn1 hr1 hr2 ⟨_, _, hxb⟩ (Bes.six w.heap.size w1 (.int .i64 y.1.kind) (.bool y.1.truth) (.int .i64 y.1.num) (.string ⟨y.1.text.toArray⟩) (.slice na y.1.names.length nc) (.slice ka y.1.kids.length kc))
      have hgx := six_block w.heap.size w1 _ _ _ _ _ _ (.int .i64 y.1.kind) (.bool y.1.truth) (.int .i64 y.1.num) (.string ⟨y.1.text.toArray⟩) (.slice na y.1.names.length nc) (.slice ka y.1.kids.length kc) hxb
      refine bodyPost_ret (results_cell_row rfl _ _ w.heap.size 42 _ (0, 0) _ rfl hgx Tryd.underlying42 rfl (by kernel_rfl)) rfl ?_
      rw [HR.out]
      exact hD
  · have HR : Hid (begunM B sub c T p = .bad p 22) := by show _ = _; simp [begunM, n1, n2, n3, n4, n5, n6, n7, n8]
    have m110 : ((c : Int) == 110) = false := by simp; omega
    have m116 : ((c : Int) == 116) = false := by simp; omega
    have m102 : ((c : Int) == 102) = false := by simp; omega
    have m34 : ((c : Int) == 34) = false := by simp; omega
    have m45 : ((c : Int) == 45) = false := by simp; omega
    have m91 : ((c : Int) == 91) = false := by simp; omega
    have m123 : ((c : Int) == 123) = false := by simp; omega
    have c1 : ∀ o, (w.alloc o).cell? ⟨R, 1, none⟩ = some (.int .i64 p) := fun o => (h.sc.rd.alloc o).c1
    clear n1 n2 n3 n4 n5 n7 n8
    go_enter Tryd.func51, Tryd.ntmps51
    go_wp2_with (first | (go_at_call 58; refine (digit_any _ _).mono ?_; rintro e w' ⟨rfl, rfl⟩) | (go_at_call 43; refine (fail_any _ _ _).mono ?_; rintro e w' ⟨rfl, rfl⟩))
    refine ⟨rfl, ?_⟩
    rw [HR.out]
    exact ⟨rfl, (Fr.refl _ _ _).alloc _⟩

end
end Go.Proofs.YtpffhckimilppaaDoor.Js