/-
  What json.read does: faults are caught.
-/
import Derived.Test.YtpffhckimilppaaDoorJRec
import Derived.Recover
namespace Go.Proofs.YtpffhckimilppaaDoor.Js
open Go.RowKit

set_option maxRecDepth 100000 in
theorem assert_yes (x : Value) (w : World) : (Instr.typeAssert (.iface 59 x) 20 59 true).run Tryd.prog w = .ok (.tuple #[x, .bool true]) w := rfl
set_option maxRecDepth 100000 in
theorem assert_no (w : World) : (Instr.typeAssert .nilIface 20 59 true).run Tryd.prog w = .ok (.tuple #[.agg #[.int .i64 0, .int .i64 0], .bool false]) w := rfl

/-- The three results' variables. -/
structure Vars (p q r : Nat) (t : Value) (x y : Int) (w : World) : Prop where
  h0 : w.heap[p]? = some (.cells #[t] 23 (0, 0))
  h1 : w.heap[q]? = some (.cells #[.int .i64 x] 3 (0, 0))
  h2 : w.heap[r]? = some (.cells #[.int .i64 y] 25 (0, 0))
  pq : p ≠ q
  pr : p ≠ r
  qr : q ≠ r

set_option maxRecDepth 100000 in
set_option maxHeartbeats 800000 in
theorem catch_panicking (p q r : Nat) (t : Value) (x y : Int) (a c : Int) (w : World) (h : Vars p q r t x y w) :
    CallsD Tryd.prog 40 #[.pointer (some ⟨p, 0, none⟩), .pointer (some ⟨q, 0, none⟩), .pointer (some ⟨r, 0, none⟩)] (.panicking (flt a c)) w fun e u' w' =>
      e = .returned (.tuple #[]) ∧ u' = .panicking [{ v := .iface 59 (.agg #[.int .i64 a, .int .i64 c]), recovered := true }] ∧ ∃ o n, w' = ((((w.setCell ⟨p, 0, none⟩ (.slice none 0 0)).setCell ⟨q, 0, none⟩ (.int .i64 a)).setCell ⟨r, 0, none⟩ (.int .i64 c)).alloc o).drewN n := by
  have lp := lt_of_block h.h0; have lq := lt_of_block h.h1; have lr := lt_of_block h.h2
  refine callsD_of_wpS Tryd.func40 rfl fun c₀ cs hu => ?_
  apply wpS_seq
  apply wpS_region
  simp [wpOpsS, go_sem, recoverD, hu, flt, Tryd.ntmps40, Exit.thenS, assert_yes]
  simp only [Array.replicate_succ, Array.replicate_zero, List.push_toArray, List.append_toArray, List.nil_append, List.cons_append, List.setIfInBounds_toArray, List.set_cons_zero, List.set_cons_succ]
  refine wpS_of_wp ?_
  have e0 := cell_of_one ((Below.heap_alloc w (.cells #[.int .i64 a, .int .i64 c] 59) p lp).trans h.h0)
  have e1 := cell_of_one ((Below.heap_alloc w (.cells #[.int .i64 a, .int .i64 c] 59) q lq).trans h.h1)
  have e2 := cell_of_one ((Below.heap_alloc w (.cells #[.int .i64 a, .int .i64 c] 59) r lr).trans h.h2)
  have g0 := free_of_one ((Below.heap_alloc w (.cells #[.int .i64 a, .int .i64 c] 59) p lp).trans h.h0)
  have g1 := free_of_one ((Below.heap_alloc w (.cells #[.int .i64 a, .int .i64 c] 59) q lq).trans h.h1)
  have g2 := free_of_one ((Below.heap_alloc w (.cells #[.int .i64 a, .int .i64 c] 59) r lr).trans h.h2)
  have e0' := cell_of_one h.h0; have e1' := cell_of_one h.h1; have e2' := cell_of_one h.h2
  have g0' := free_of_one h.h0; have g1' := free_of_one h.h1; have g2' := free_of_one h.h2
  have npq := h.pq; have npr := h.pr; have nqr := h.qr
  have npw : ¬ p = w.heap.size := by omega
  have nqw : ¬ q = w.heap.size := by omega
  have nrw : ¬ r = w.heap.size := by omega
  have nwp : ¬ w.heap.size = p := by omega
  have nwq : ¬ w.heap.size = q := by omega
  have nwr : ¬ w.heap.size = r := by omega
  have nqp : ¬ q = p := fun e => npq e.symm
  have nrp : ¬ r = p := fun e => npr e.symm
  have nrq : ¬ r = q := fun e => nqr e.symm
  go_wp2
  go_region
  all_goals show bodyPostS _ _ _ _ _ _ _ _ _
  all_goals simp [bodyPostS, results, Tryd.results40]
  all_goals exact ⟨_, 1, rfl⟩

set_option maxRecDepth 100000 in
set_option maxHeartbeats 800000 in
theorem catch_idle (p q r : Nat) (w : World) :
    CallsD Tryd.prog 40 #[.pointer (some ⟨p, 0, none⟩), .pointer (some ⟨q, 0, none⟩), .pointer (some ⟨r, 0, none⟩)] .returning w fun e u' w' =>
      e = .returned (.tuple #[]) ∧ u' = .returning ∧ ∃ o, w' = w.alloc o := by
  refine callsD_of_wpS Tryd.func40 rfl fun c₀ cs hu => ?_
  apply wpS_seq
  apply wpS_region
  simp [wpOpsS, go_sem, recoverD, hu, Tryd.ntmps40, Exit.thenS, assert_no]
  simp only [Array.replicate_succ, Array.replicate_zero, List.push_toArray, List.append_toArray, List.nil_append, List.cons_append, List.setIfInBounds_toArray, List.set_cons_zero, List.set_cons_succ]
  refine wpS_of_wp ?_
  go_wp2
  cases c₀
  simp_all [bodyPostS, results, Tryd.results40]
  exact ⟨_, rfl⟩

theorem Vars.kept {p q r : Nat} {t : Value} {x y : Int} {w w' : World} (h : Vars p q r t x y w) (h0 : w'.heap[p]? = w.heap[p]?) (h1 : w'.heap[q]? = w.heap[q]?) (h2 : w'.heap[r]? = w.heap[r]?) : Vars p q r t x y w' :=
  ⟨h0.trans h.h0, h1.trans h.h1, h2.trans h.h2, h.pq, h.pr, h.qr⟩
theorem caught {p q r : Nat} {t : Value} {x y : Int} (u : Value) (a c : Int) {w : World} (h : Vars p q r t x y w) (o : Obj) (n base : Nat) (hp : base ≤ p) (hq : base ≤ q) (hr : base ≤ r) :
    Vars p q r u a c (((((w.setCell ⟨p, 0, none⟩ u).setCell ⟨q, 0, none⟩ (.int .i64 a)).setCell ⟨r, 0, none⟩ (.int .i64 c)).alloc o).drewN n) ∧
      Below base w (((((w.setCell ⟨p, 0, none⟩ u).setCell ⟨q, 0, none⟩ (.int .i64 a)).setCell ⟨r, 0, none⟩ (.int .i64 c)).alloc o).drewN n) ∧ ∀ k, k < w.heap.size → k ≠ p → k ≠ q → k ≠ r → (((((w.setCell ⟨p, 0, none⟩ u).setCell ⟨q, 0, none⟩ (.int .i64 a)).setCell ⟨r, 0, none⟩ (.int .i64 c)).alloc o).drewN n).heap[k]? = w.heap[k]? := by
  have lp := lt_of_block h.h0; have lq := lt_of_block h.h1; have lr := lt_of_block h.h2
  have s3 : (((w.setCell ⟨p, 0, none⟩ u).setCell ⟨q, 0, none⟩ (.int .i64 a)).setCell ⟨r, 0, none⟩ (.int .i64 c)).heap.size = w.heap.size := by simp [World.setCell]
  have a0 : ∀ k, k < w.heap.size → (((((w.setCell ⟨p, 0, none⟩ u).setCell ⟨q, 0, none⟩ (.int .i64 a)).setCell ⟨r, 0, none⟩ (.int .i64 c)).alloc o).drewN n).heap[k]? = (((w.setCell ⟨p, 0, none⟩ u).setCell ⟨q, 0, none⟩ (.int .i64 a)).setCell ⟨r, 0, none⟩ (.int .i64 c)).heap[k]? := fun k hk => by
    rw [drewN_heap]; exact Below.heap_alloc _ o k (by rw [s3]; exact hk)
  refine ⟨⟨?_, ?_, ?_, h.pq, h.pr, h.qr⟩, ?_, fun k hk h1 h2 h3 => by rw [a0 k hk, heap_setCell_other _ _ k _ h3, heap_setCell_other _ _ k _ h2, heap_setCell_other _ _ k _ h1]⟩
  · rw [a0 p lp, heap_setCell_other _ _ p _ h.pr, heap_setCell_other _ _ p _ h.pq]
    exact one_setCell h.h0
  · rw [a0 q lq, heap_setCell_other _ _ q _ h.qr]
    exact one_setCell ((heap_setCell_other w _ q _ (fun e => h.pq e.symm)).trans h.h1)
  · rw [a0 r lr]
    exact one_setCell ((heap_setCell_other _ _ r _ (fun e => h.qr e.symm)).trans ((heap_setCell_other w _ r _ (fun e => h.pr e.symm)).trans h.h2))
  · refine ⟨rfl, rfl, rfl, ?_, fun k hk => ?_⟩
    · rw [drewN_heap]; simp [World.setCell]
    · by_cases hk2 : k < w.heap.size
      · rw [a0 k hk2, heap_setCell_other _ _ k _ (by simp; omega), heap_setCell_other _ _ k _ (by simp; omega), heap_setCell_other _ _ k _ (by simp; omega)]
      · omega

theorem own_zero {w : World} {base : Nat} {e : TypeId} {size : Nat} {v : Value} {n : Nat} {xs : List Value} (h : w.ownsRow base e size v n xs) : w.ownsRow 0 e size v n xs :=
  ⟨h.1, h.2.imp id (fun ⟨g, cap, cur, hv, _, r⟩ => ⟨g, cap, cur, hv, Nat.zero_le _, r⟩)⟩

/-- What reading a text answers. -/
def DoneR (w : World) : Res (List V) → Ending → World → Prop
  | .ok T _, e, w' => ∃ v cs, e = .returned (.tuple #[v, .int .i64 0, .int .i64 0]) ∧ w'.ownsRow 0 42 6 v T.length cs ∧ Reps w' cs T ∧ Below w.heap.size w w'
  | .bad a c, e, w' => e = .returned (.tuple #[.slice none 0 0, .int .i64 a, .int .i64 c]) ∧ Below w.heap.size w w'

section
variable {B : List UInt8} {tb toff cap : Nat} {w : World}
def wVars (w : World) : World := ((w.alloc (.cells #[.slice none 0 0] 23)).alloc (.cells #[.int .i64 0] 3)).alloc (.cells #[.int .i64 0] 25)
theorem wVars_size (w : World) : (wVars w).heap.size = w.heap.size + 3 := by simp [wVars]
theorem wVars_below (w : World) : Below w.heap.size w (wVars w) := (((Below.refl _ _).alloc (Nat.le_refl _) _).alloc (by simp) _).alloc (by simp; omega) _
theorem wVars_vars (w : World) : Vars w.heap.size (w.heap.size + 1) (w.heap.size + 2) (.slice none 0 0) 0 0 (wVars w) := by
  refine ⟨?_, ?_, ?_, by omega, by omega, by omega⟩
  · unfold wVars; rw [Below.heap_alloc _ _ _ (by simp; omega), Below.heap_alloc _ _ _ (by simp)]; exact heap_alloc_new w _
  · unfold wVars; rw [Below.heap_alloc _ _ _ (by simp)]
    have := heap_alloc_new (w.alloc (.cells #[.slice none 0 0] 23)) (.cells #[.int .i64 0] 3)
    simpa using this
  · have := heap_alloc_new ((w.alloc (.cells #[.slice none 0 0] 23)).alloc (.cells #[.int .i64 0] 3)) (.cells #[.int .i64 0] 25)
    simpa [wVars] using this
theorem read_env (htxt : ∀ j, j < B.length → w.cell? ⟨tb, toff + j, none⟩ = some (.int .u8 (byteAt B j))) (htb : tb < w.heap.size) (hlen : B.length ≤ 65536) (hc : B.length ≤ cap) (hcm : cap ≤ 9223372036854775807) (ht : Lib.Utf8Tabs 0 1 w) (h2 : 2 ≤ w.heap.size) :
    Env B (w.heap.size + 3) tb toff cap (wVars w) :=
  ⟨fun j hj => ((wVars_below w).cell htb).trans (htxt j hj), by omega, hlen, hc, hcm, tabs_below (wVars_below w) h2 ht, by omega⟩
theorem read_st (n : Nat) (hn : n = B.length) : St B (w.heap.size + 3) tb toff cap (wVars w) ((wVars w).alloc (.cells #[.slice (some ⟨tb, toff, none⟩) n cap, .int .i64 0, .int .i64 0, .slice none 0 0] 62)) 0 0 (.slice none 0 0) [] [] := by
  subst hn
  refine ⟨⟨(Below.refl _ _).alloc (by rw [wVars_size]; exact Nat.le_refl _) _, ?_, Nat.zero_le _⟩, World.ownsRow_nil _ _ _ _, rfl, by simp⟩
  have := heap_alloc_new (wVars w) (.cells #[.slice (some ⟨tb, toff, none⟩) B.length cap, .int .i64 0, .int .i64 0, .slice none 0 0] 62)
  rw [wVars_size] at this
  exact this

theorem read_vars {c : Value} {w1 : World} (f : Fr (w.heap.size + 3) none ((((w.alloc (.cells #[.slice none 0 0] 23)).alloc (.cells #[.int .i64 0] 3)).alloc (.cells #[.int .i64 0] 25)).alloc (.cells #[c, .int .i64 0, .int .i64 0, .slice none 0 0] 62)) w1) :
    Vars w.heap.size (w.heap.size + 1) (w.heap.size + 1 + 1) (.slice none 0 0) 0 0 w1 := by
  have h : Vars w.heap.size (w.heap.size + 1) (w.heap.size + 1 + 1) (.slice none 0 0) 0 0 (wVars w) := wVars_vars w
  have hz := wVars_size w
  have k : ∀ g, g < w.heap.size + 3 → w1.heap[g]? = (wVars w).heap[g]? := fun g hg => by
    rw [f.block g (by simp; omega) (by omega) (by simp)]
    exact Below.heap_alloc (wVars w) _ g (by rw [hz]; exact hg)
  exact h.kept (k _ (by omega)) (k _ (by omega)) (k _ (by omega))
theorem read_below {c : Value} {w1 : World} (f : Fr (w.heap.size + 3) none ((((w.alloc (.cells #[.slice none 0 0] 23)).alloc (.cells #[.int .i64 0] 3)).alloc (.cells #[.int .i64 0] 25)).alloc (.cells #[c, .int .i64 0, .int .i64 0, .slice none 0 0] 62)) w1) :
    Below w.heap.size w w1 :=
  ((wVars_below w).alloc (by rw [wVars_size]; omega) _).trans ((f.below (by simp) (by simp)).mono (by omega))

set_option maxRecDepth 100000 in
set_option maxHeartbeats 1600000 in
theorem read_any (E : Env B (w.heap.size + 3) tb toff cap (wVars w)) :
    Calls Tryd.prog 30 #[.slice (some ⟨tb, toff, none⟩) B.length cap] w (DoneR w (readM B)) := by
  have hmf : ∀ (fn : Fn) (first cap : Array Value) (w : World), (Instr.makeFunc fn first cap).run Tryd.prog w = .ok (.func fn first cap) w := fun _ _ _ _ => rfl
  have HE : Hid (Env B (w.heap.size + 3) tb toff cap (wVars w)) := E
  have hl := E.len
  have HV : Hid (ValueC B (w.heap.size + 3) tb toff cap (wVars w) (valueM B 16) 0) := value_all E 16 0 rfl
  clear E
  have HST := read_st (B := B) (tb := tb) (toff := toff) (cap := cap) (w := w) B.length rfl
  unfold wVars at HST
  have HS : Hid (St B (w.heap.size + 3) tb toff cap (wVars w) ((((w.alloc (.cells #[.slice none 0 0] 23)).alloc (.cells #[.int .i64 0] 3)).alloc (.cells #[.int .i64 0] 25)).alloc (.cells #[.slice (some ⟨tb, toff, none⟩) B.length cap, .int .i64 0, .int .i64 0, .slice none 0 0] 62)) 0 0 (.slice none 0 0) [] []) := HST
  clear HST
  cases hM : valueM B 16 [] 0 with
  | bad a1 c =>
    have HR : Hid (readM B = .bad a1 c) := by show _ = _; simp [readM, hM, Res.andThen]
    have HM : Hid (valueM B 16 [] 0 = .bad a1 c) := hM
    clear hM
    go_enter_defers Tryd.func30, Tryd.ntmps30
    go_wp2_with (go_at_call 41; refine (badT (HV.out _ 0 _ [] [] HS.out) HM.out).mono ?_; rintro e w1 ⟨rfl, hf1⟩)
    have hv1 : Vars w.heap.size (w.heap.size + 1) (w.heap.size + 1 + 1) (.slice none 0 0) 0 0 w1 := read_vars hf1
    have hb1 : Below w.heap.size w w1 := read_below hf1
    refine leaves_cons (f := 40) (args := #[.pointer (some ⟨w.heap.size, 0, none⟩), .pointer (some ⟨w.heap.size + 1, 0, none⟩), .pointer (some ⟨w.heap.size + 1 + 1, 0, none⟩)]) (by simp) (by simp [go_sem]) ?_
    refine (catch_panicking w.heap.size (w.heap.size + 1) (w.heap.size + 1 + 1) _ _ _ _ _ _ hv1).mono ?_
    rintro e u' w'' ⟨rfl, rfl, o, n, rfl⟩
    have hC := caught (.slice none 0 0) (a1 : Int) (c : Int) hv1 o n w.heap.size (by omega) (by omega) (by omega)
    obtain ⟨w9, hw9⟩ : ∃ w9, w9 = (((((w1.setCell ⟨w.heap.size, 0, none⟩ (.slice none 0 0)).setCell ⟨w.heap.size + 1, 0, none⟩ (.int .i64 (a1 : Int))).setCell ⟨w.heap.size + 1 + 1, 0, none⟩ (.int .i64 (c : Int))).alloc o).drewN n) := ⟨_, rfl⟩
    rw [← hw9] at hC ⊢
    have r0 := cell_of_one hC.1.h0; have r1 := cell_of_one hC.1.h1; have r2 := cell_of_one hC.1.h2
    clear hw9
    rw [HR.out]
    simp [Leaves, settle, results, Tryd.results30, go_sem, r0, r1, r2]
    exact ⟨rfl, hb1.trans hC.2.1⟩
  | ok x a1 =>
    have HM : Hid (valueM B 16 [] 0 = .ok x a1) := hM
    clear hM
    by_cases hend : skip B a1 < B.length
    · have HR : Hid (readM B = .bad (skip B a1) 22) := by show _ = _; simp [readM, HM.out, hend, Res.andThen]
      have hend' : ((skip B a1 : Nat) : Int) < (B.length : Int) := by omega
      go_enter_defers Tryd.func30, Tryd.ntmps30
      go_wp2_with (first | (go_at_call 41; refine (okT (HV.out _ 0 _ [] [] HS.out) HM.out).mono ?_; rintro e w1 ⟨v1, cs1, rfl, hst1, hf1, hm1, hn1⟩; simp only [natv]) | (go_at_call 42; refine (blanks_any HE.out hst1.sc).mono ?_; rintro e w2 ⟨rfl, hs2, hf2⟩; have c1 := hs2.rd.c1) | (go_at_call 43; refine (fail_any _ _ _).mono ?_; rintro e w7 ⟨rfl, rfl⟩))
      have hv1 : Vars w.heap.size (w.heap.size + 1) (w.heap.size + 1 + 1) (.slice none 0 0) 0 0 w7 := read_vars (hf1.trans0 hf2.weak)
      have hb1 : Below w.heap.size w w7 := read_below (hf1.trans0 hf2.weak)
      refine leaves_cons (f := 40) (args := #[.pointer (some ⟨w.heap.size, 0, none⟩), .pointer (some ⟨w.heap.size + 1, 0, none⟩), .pointer (some ⟨w.heap.size + 1 + 1, 0, none⟩)]) (by simp) (by simp [go_sem]) ?_
      refine (catch_panicking w.heap.size (w.heap.size + 1) (w.heap.size + 1 + 1) _ _ _ _ _ _ hv1).mono ?_
      rintro e u' w'' ⟨rfl, rfl, o, n, rfl⟩
      have hC := caught (.slice none 0 0) ((skip B a1 : Nat) : Int) (22 : Int) hv1 o n w.heap.size (by omega) (by omega) (by omega)
      obtain ⟨w9, hw9⟩ : ∃ w9, w9 = (((((w7.setCell ⟨w.heap.size, 0, none⟩ (.slice none 0 0)).setCell ⟨w.heap.size + 1, 0, none⟩ (.int .i64 ((skip B a1 : Nat) : Int))).setCell ⟨w.heap.size + 1 + 1, 0, none⟩ (.int .i64 (22 : Int))).alloc o).drewN n) := ⟨_, rfl⟩
      rw [← hw9] at hC ⊢
      have r0 := cell_of_one hC.1.h0; have r1 := cell_of_one hC.1.h1; have r2 := cell_of_one hC.1.h2
      clear hw9
      rw [HR.out]
      simp [Leaves, settle, results, Tryd.results30, go_sem, r0, r1, r2]
      exact ⟨rfl, hb1.trans hC.2.1⟩
    · have HR : Hid (readM B = .ok x.2 0) := by show _ = _; simp [readM, HM.out, hend, Res.andThen]
      have hend' : ¬ ((skip B a1 : Nat) : Int) < (B.length : Int) := by omega
      go_enter_defers Tryd.func30, Tryd.ntmps30
      go_wp2_with (first | (go_at_call 41; refine (okT (HV.out _ 0 _ [] [] HS.out) HM.out).mono ?_; rintro e w1 ⟨v1, cs1, rfl, hst1, hf1, hm1, hn1⟩; simp only [natv]) | (go_at_call 42; refine (blanks_any HE.out hst1.sc).mono ?_; rintro e w2 ⟨rfl, hs2, hf2⟩; have c1 := hs2.rd.c1; have c3 := hs2.rd.c3; obtain ⟨ta, tc, rfl⟩ := hst1.shape; have hv2 := read_vars (hf1.trans0 hf2.weak); have u0 := cell_of_one hv2.h0; have u1 := cell_of_one hv2.h1; have u2 := cell_of_one hv2.h2; have g0 := free_of_one hv2.h0; have g1 := free_of_one hv2.h1; have g2 := free_of_one hv2.h2))
      have hb2 := read_below (hf1.trans0 hf2.weak)
      have hst2 := hst1.scan hf2 hs2
      refine leaves_cons (f := 40) (args := #[.pointer (some ⟨w.heap.size, 0, none⟩), .pointer (some ⟨w.heap.size + 1, 0, none⟩), .pointer (some ⟨w.heap.size + 1 + 1, 0, none⟩)]) (by simp) (by simp [go_sem]) ?_
      refine (catch_idle w.heap.size (w.heap.size + 1) (w.heap.size + 1 + 1) _).mono ?_
      rintro e u' w'' ⟨rfl, rfl, o, rfl⟩
      have hC := caught (.slice ta x.2.length tc) 0 0 hv2 o 0 w.heap.size (by omega) (by omega) (by omega)
      rw [World.drewN_zero] at hC
      obtain ⟨w9, hw9⟩ : ∃ w9, w9 = ((((w2.setCell ⟨w.heap.size, 0, none⟩ (.slice ta x.2.length tc)).setCell ⟨w.heap.size + 1, 0, none⟩ (.int .i64 0)).setCell ⟨w.heap.size + 1 + 1, 0, none⟩ (.int .i64 0)).alloc o) := ⟨_, rfl⟩
      rw [← hw9] at hC ⊢
      have r0 := cell_of_one hC.1.h0; have r1 := cell_of_one hC.1.h1; have r2 := cell_of_one hC.1.h2
      clear hw9
      rw [HR.out]
      simp [Leaves, settle, results, Tryd.results30, go_sem, r0, r1, r2]
      refine ⟨_, cs1, rfl, own_zero (own_eq hst2.own (fun g e => hC.2.2 g (hst2.ownLt g e) ?_ ?_ ?_)), hst2.reps.eq (fun g hc => ?_), hb2.trans hC.2.1⟩
      · have := hst2.ownGt g e; omega
      · have := hst2.ownGt g e; omega
      · have := hst2.ownGt g e; omega
      · have hge : w.heap.size + 4 ≤ g := by
          rcases hn1 g hc with ⟨_, h1, _⟩ | h1
          · cases h1
          · simpa using h1
        exact hC.2.2 g (hst2.reps.lt g hc) (by omega) (by omega) (by omega)
end
end Go.Proofs.YtpffhckimilppaaDoor.Js