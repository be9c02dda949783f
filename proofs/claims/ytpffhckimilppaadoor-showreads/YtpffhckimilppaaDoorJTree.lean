/-
  A tree of values in memory, and that it stays while a reading goes on.
-/
import Derived.Test.YtpffhckimilppaaDoorJOwn
namespace Go.Proofs.YtpffhckimilppaaDoor.Js
open Go.RowKit

def natv (n : Nat) : Value := .int .i64 n
/-- A value as a struct; its names and kids lie where nv and kv say. -/
def aggL (x : V) (nv kv : Value) : List Value := [.int .i64 x.kind, .bool x.truth, .int .i64 x.num, .string ⟨x.text.toArray⟩, nv, kv]
def aggV (x : V) (na : Option Addr) (nc : Nat) (ka : Option Addr) (kc : Nat) : Value := .agg #[.int .i64 x.kind, .bool x.truth, .int .i64 x.num, .string ⟨x.text.toArray⟩, .slice na x.names.length nc, .slice ka x.kids.length kc]
structure VOwn (w : World) (x : V) (nv kv : Value) : Prop where
  names : w.ownsRow 0 9 1 nv x.names.length (x.names.map strv)
  kids : w.ownsRow 0 3 1 kv x.kids.length (x.kids.map natv)
def Reps (w : World) : List Value → List V → Prop
  | cs, [] => cs = []
  | cs, x :: T => ∃ nv kv rest, cs = aggL x nv kv ++ rest ∧ VOwn w x nv kv ∧ Reps w rest T

theorem Reps.snoc {w : World} {x : V} {nv kv : Value} (hx : VOwn w x nv kv) : ∀ {T : List V} {cs : List Value}, Reps w cs T → Reps w (cs ++ aggL x nv kv) (T ++ [x])
  | [], cs, h => by obtain rfl := h; exact ⟨nv, kv, [], rfl, hx, rfl⟩
  | y :: T, cs, h => by
    obtain ⟨n1, k1, rest, rfl, hy, hr⟩ := h
    exact ⟨n1, k1, rest ++ aggL x nv kv, by simp [List.append_assoc], hy, Reps.snoc hx hr⟩
theorem Reps.len {w : World} : ∀ {T : List V} {cs : List Value}, Reps w cs T → cs.length = T.length * 6
  | [], cs, h => by obtain rfl := h; rfl
  | y :: T, cs, h => by
    obtain ⟨n1, k1, rest, rfl, _, hr⟩ := h
    have := Reps.len hr
    simp [aggL, this]; omega
/-- What the block that a value begins at is. -/
def TyOf (w : World) (g : Nat) (t : TypeId) : Prop := ∃ c f, w.heap[g]? = some (.cells c t f)
theorem own_kept {R : Nat} {o : Option Nat} {w w' : World} {base : Nat} {e : TypeId} {size : Nat} {v : Value} {n : Nat} {xs : List Value} (h : w.ownsRow base e size v n xs) (he : e ≠ 62) (he2 : e ≠ 42)
    (f : Fr R o w w') (hR : TyOf w R 62) (ho : ∀ g, o = some g → TyOf w g 42) : w'.ownsRow base e size v n xs := by
  refine own_fr h f fun g hg => ?_
  rcases h.2 with ⟨rfl, _⟩ | ⟨g', cap, cur, rfl, _, hh, _⟩
  · simp [Value.ownBlock] at hg
  · simp only [Value.ownBlock, Option.some.injEq] at hg
    subst hg
    refine ⟨?_, ?_⟩
    · rintro rfl
      obtain ⟨c, f, hc⟩ := hR
      rw [hh] at hc
      simp at hc
      exact he hc.2.1
    · rintro rfl
      obtain ⟨c, f, hc⟩ := ho _ rfl
      rw [hh] at hc
      simp at hc
      exact he2 hc.2.1
theorem VOwn.kept {R : Nat} {o : Option Nat} {w w' : World} {x : V} {nv kv : Value} (h : VOwn w x nv kv) (f : Fr R o w w') (hR : TyOf w R 62) (ho : ∀ g, o = some g → TyOf w g 42) : VOwn w' x nv kv :=
  ⟨own_kept h.names (by decide) (by decide) f hR ho, own_kept h.kids (by decide) (by decide) f hR ho⟩
theorem Reps.kept {R : Nat} {o : Option Nat} {w w' : World} (f : Fr R o w w') (hR : TyOf w R 62) (ho : ∀ g, o = some g → TyOf w g 42) : ∀ {T : List V} {cs : List Value}, Reps w cs T → Reps w' cs T
  | [], cs, h => h
  | y :: T, cs, h => by
    obtain ⟨n1, k1, rest, rfl, hy, hr⟩ := h
    exact ⟨n1, k1, rest, rfl, hy.kept f hR ho, Reps.kept f hR ho hr⟩

/-- A row begins at this block. -/
def Has (cs : List Value) (g : Nat) : Prop := ∃ u ∈ cs, u.ownBlock = some g
/-- What rows there are, were there or are new. -/
def New (n : Nat) (cs cs' : List Value) : Prop := ∀ g, Has cs' g → Has cs g ∨ n ≤ g
def NewRow (n : Nat) (v : Value) : Prop := ∀ g, v.ownBlock = some g → n ≤ g
theorem New.refl (n : Nat) (cs : List Value) : New n cs cs := fun _ h => .inl h
theorem New.trans {n m : Nat} {a b c : List Value} (h : New n a b) (k : New m b c) (hn : n ≤ m) : New n a c := fun g hg => by
  rcases k g hg with h1 | h1
  · exact h g h1
  · exact .inr (by omega)
theorem New.snoc {n : Nat} {a b : List Value} {x : V} {nv kv : Value} (h : New n a b) (hn : NewRow n nv) (hk : NewRow n kv) : New n a (b ++ aggL x nv kv) := by
  rintro g ⟨u, hu, e⟩
  rcases List.mem_append.1 hu with hu | hu
  · exact h g ⟨u, hu, e⟩
  · simp only [aggL, List.mem_cons, List.not_mem_nil, or_false] at hu
    rcases hu with rfl | rfl | rfl | rfl | rfl | rfl
    · cases e
    · cases e
    · cases e
    · cases e
    · exact .inr (hn g e)
    · exact .inr (hk g e)
theorem Reps.lt {w : World} : ∀ {T : List V} {cs : List Value}, Reps w cs T → ∀ g, Has cs g → g < w.heap.size
  | [], cs, h, g, hg => by obtain rfl := h; obtain ⟨u, hu, _⟩ := hg; cases hu
  | y :: T, cs, h, g, hg => by
    obtain ⟨n1, k1, rest, rfl, hy, hr⟩ := h
    obtain ⟨u, hu, e⟩ := hg
    rcases List.mem_append.1 hu with hu | hu
    · simp only [aggL, List.mem_cons, List.not_mem_nil, or_false] at hu
      rcases hu with rfl | rfl | rfl | rfl | rfl | rfl
      · cases e
      · cases e
      · cases e
      · cases e
      · exact (hy.names.lt g e).2
      · exact (hy.kids.lt g e).2
    · exact Reps.lt hr g ⟨u, hu, e⟩

/-- A reader at a place, with the values that have ended. -/
structure St (B : List UInt8) (R tb toff cap : Nat) (w0 w : World) (a d : Nat) (v : Value) (T : List V) (cs : List Value) : Prop where
  sc : Sc B R tb toff cap w0 w a d v
  own : w.ownsRow (R + 1) 42 6 v T.length cs
  reps : Reps w cs T
  le : T.length ≤ 8192
section
variable {B : List UInt8} {R tb toff cap : Nat} {w0 w w' : World} {a d : Nat} {v : Value} {T : List V} {cs : List Value}
theorem St.tyR (h : St B R tb toff cap w0 w a d v T cs) : TyOf w R 62 := ⟨_, _, h.sc.rd⟩
theorem St.tyO (h : St B R tb toff cap w0 w a d v T cs) : ∀ g, v.ownBlock = some g → TyOf w g 42 := by
  intro g hg
  have ho := h.own
  rcases ho.2 with ⟨rfl, _⟩ | ⟨g', cp, cur, rfl, _, hh, _⟩
  · simp [Value.ownBlock] at hg
  · simp only [Value.ownBlock, Option.some.injEq] at hg
    subst hg
    exact ⟨_, _, hh⟩
theorem St.shape (h : St B R tb toff cap w0 w a d v T cs) : ∃ ta tc, v = .slice ta T.length tc := by
  have ho := h.own
  rcases ho.2 with ⟨rfl, h0⟩ | ⟨g', cp, cur, rfl, _⟩
  · exact ⟨none, 0, by rw [h0]⟩
  · exact ⟨_, _, rfl⟩
theorem St.ownGt (h : St B R tb toff cap w0 w a d v T cs) : ∀ g, v.ownBlock = some g → R < g := by
  intro g hg
  have ho := h.own
  exact (ho.lt g hg).1
theorem St.ownLt (h : St B R tb toff cap w0 w a d v T cs) : ∀ g, v.ownBlock = some g → g < w.heap.size := by
  intro g hg
  have ho := h.own
  exact (ho.lt g hg).2
/-- What a scanning call leaves. -/
theorem St.scan (h : St B R tb toff cap w0 w a d v T cs) {a' d' : Nat} (f : Fr R none w w') (hs : Sc B R tb toff cap w0 w' a' d' v) : St B R tb toff cap w0 w' a' d' v T cs := by
  refine ⟨hs, own_fr h.own f (fun g hg => ⟨?_, by simp⟩), h.reps.kept f h.tyR (by simp), h.le⟩
  have := h.ownGt g hg; omega

/-- How a call of the reader ends that puts values. -/
def DoneT {α : Type} (B : List UInt8) (R tb toff cap : Nat) (w0 w : World) (d : Nat) (v : Value) (cs : List Value) (val : α → Value) : Res (α × List V) → Ending → World → Prop
  | .ok x a, e, w' => ∃ v' cs', e = .returned (val x.1) ∧ St B R tb toff cap w0 w' a d v' x.2 cs' ∧ Fr R v.ownBlock w w' ∧ Moved w.heap.size v.ownBlock v'.ownBlock ∧ New w.heap.size cs cs'
  | .bad a c, e, w' => e = .panicked (flt a c) ∧ Fr R v.ownBlock w w'
theorem okT {α : Type} {val : α → Value} {f : FuncId} {args : Array Value} {M : Res (α × List V)} {x : α × List V} {a1 : Nat} (H : Calls Tryd.prog f args w (DoneT B R tb toff cap w0 w d v cs val M)) (h : M = .ok x a1) :
    Calls Tryd.prog f args w fun e w' => ∃ v' cs', e = .returned (val x.1) ∧ St B R tb toff cap w0 w' a1 d v' x.2 cs' ∧ Fr R v.ownBlock w w' ∧ Moved w.heap.size v.ownBlock v'.ownBlock ∧ New w.heap.size cs cs' := by
  subst h; exact H
theorem badT {α : Type} {val : α → Value} {f : FuncId} {args : Array Value} {M : Res (α × List V)} {c a1 : Nat} (H : Calls Tryd.prog f args w (DoneT B R tb toff cap w0 w d v cs val M)) (h : M = .bad a1 c) :
    Calls Tryd.prog f args w fun e w' => e = .panicked (flt a1 c) ∧ Fr R v.ownBlock w w' := by
  subst h; exact H
/-- How a call of the reader ends that hands a value back. -/
def DoneV (B : List UInt8) (R tb toff cap : Nat) (w0 w : World) (d : Nat) (v : Value) (cs : List Value) : Res (V × List V) → Ending → World → Prop
  | .ok x a, e, w' => ∃ v' cs' na nc ka kc, e = .returned (aggV x.1 na nc ka kc) ∧ VOwn w' x.1 (.slice na x.1.names.length nc) (.slice ka x.1.kids.length kc) ∧ St B R tb toff cap w0 w' a d v' x.2 cs' ∧ Fr R v.ownBlock w w' ∧ Moved w.heap.size v.ownBlock v'.ownBlock ∧ New w.heap.size cs cs' ∧ NewRow w.heap.size (.slice na x.1.names.length nc) ∧ NewRow w.heap.size (.slice ka x.1.kids.length kc)
  | .bad a c, e, w' => e = .panicked (flt a c) ∧ Fr R v.ownBlock w w'
theorem okV {f : FuncId} {args : Array Value} {M : Res (V × List V)} {x : V × List V} {a1 : Nat} (H : Calls Tryd.prog f args w (DoneV B R tb toff cap w0 w d v cs M)) (h : M = .ok x a1) :
    Calls Tryd.prog f args w fun e w' => ∃ v' cs' na nc ka kc, e = .returned (aggV x.1 na nc ka kc) ∧ VOwn w' x.1 (.slice na x.1.names.length nc) (.slice ka x.1.kids.length kc) ∧ St B R tb toff cap w0 w' a1 d v' x.2 cs' ∧ Fr R v.ownBlock w w' ∧ Moved w.heap.size v.ownBlock v'.ownBlock ∧ New w.heap.size cs cs' ∧ NewRow w.heap.size (.slice na x.1.names.length nc) ∧ NewRow w.heap.size (.slice ka x.1.kids.length kc) := by
  subst h; exact H
theorem badV {f : FuncId} {args : Array Value} {M : Res (V × List V)} {c a1 : Nat} (H : Calls Tryd.prog f args w (DoneV B R tb toff cap w0 w d v cs M)) (h : M = .bad a1 c) :
    Calls Tryd.prog f args w fun e w' => e = .panicked (flt a1 c) ∧ Fr R v.ownBlock w w' := by
  subst h; exact H

theorem Moved.le {n m : Nat} {o o' : Option Nat} (h : Moved m o o') (hn : n ≤ m) : Moved n o o' := h.imp id (fun ⟨g, e, hg⟩ => ⟨g, e, Nat.le_trans hn hg⟩)
theorem fr_grown {R : Nat} {o : Option Nat} {w w' : World} (hg : w.grownBy w' o) : Fr R o w w' :=
  ⟨hg.os, hg.tape, hg.output, hg.size, fun k hk _ ho => hg.block k hk (fun e => ho e.symm)⟩
/-- A value is put. -/
theorem St.put {W w3 : World} {x : V} {nv kv v3 : Value} (h : St B R tb toff cap w0 w a d v T cs) (hT : T.length < 8192) (hvo : VOwn w x nv kv)
    (hf : Fr R none w W) (hs : Sc B R tb toff cap w0 W a d v) (hown : w3.ownsRow (R + 1) 42 6 v3 (T.length + 1) (cs ++ aggL x nv kv)) (hg : W.grownBy w3 v.ownBlock) (hm : Moved W.heap.size v.ownBlock v3.ownBlock) :
    St B R tb toff cap w0 (w3.setCell ⟨R, 3, none⟩ v3) a d v3 (T ++ [x]) (cs ++ aggL x nv kv) ∧ Fr R v.ownBlock w (w3.setCell ⟨R, 3, none⟩ v3) ∧ Moved w.heap.size v.ownBlock v3.ownBlock := by
  have hv3 : ∀ g, v3.ownBlock = some g → R < g := fun g e => (hown.lt g e).1
  have f3 : Fr R v.ownBlock w (w3.setCell ⟨R, 3, none⟩ v3) := (hf.weak.trans0 (fr_grown hg)).setR _ _
  have hrd : Rd (w3.setCell ⟨R, 3, none⟩ v3) R (.slice (some ⟨tb, toff, none⟩) B.length cap) a d v3 := (hs.rd.grown hg (fun e => by have := h.ownGt R e; omega)).set3 v3
  refine ⟨⟨h.sc.go f3 h.ownGt hrd h.sc.at_le, ?_, (h.reps.kept f3 h.tyR h.tyO).snoc (hvo.kept f3 h.tyR h.tyO), by simp; omega⟩, f3, hm.imp id (fun ⟨g, e, hg⟩ => ⟨g, e, Nat.le_trans hf.size hg⟩)⟩
  rw [List.length_append]
  exact ownsRow_setCell_other hown (fun e => by have := hv3 _ e; simp at this) v3

def zeroV : Value := .agg #[.int .i64 0, .bool false, .int .i64 0, .string ⟨#[]⟩, .slice none 0 0, .slice none 0 0]
theorem info42 : (Tryd.prog.info? 42).map (fun i => (i.zero, i.size, i.bytes)) = some (some zeroV, 6, 88) := by kernel_rfl
theorem cells_new (w : World) (l : List Value) (t : TypeId) (n : Nat) (hn : n = w.heap.size) (j : Nat) (u : Value) (h : l[j]? = some u) : (w.alloc (.cells l.toArray t)).cell? ((⟨n, 0, none⟩ : Addr).add j) = some u := by
  subst hn
  have hadd : (⟨w.heap.size, 0, none⟩ : Addr).add j = ⟨w.heap.size, j, none⟩ := by unfold Addr.add; split <;> simp_all
  rw [hadd, cell_of_row _ w.heap.size j _ _ _ (heap_alloc_new w _)]
  simpa using h
theorem aggL_one (x : V) (na : Option Addr) (nc m : Nat) (ka : Option Addr) (kc k : Nat) : ∀ u ∈ aggL x (.slice na m nc) (.slice ka k kc), u.oneCell' = true := by
  intro u hu
  simp only [aggL, List.mem_cons, List.not_mem_nil, or_false] at hu
  rcases hu with rfl | rfl | rfl | rfl | rfl | rfl <;> rfl

/-- begun's contract, as value's walk takes it. -/
def BegunC (B : List UInt8) (R tb toff cap : Nat) (w0 : World) (sub : Option Sub) (d : Nat) : Prop :=
  ∀ (w : World) (p : Nat) (v : Value) (T : List V) (cs : List Value), St B R tb toff cap w0 w p d v T cs → p < B.length →
    Calls Tryd.prog 51 #[.pointer (some ⟨R, 0, none⟩), .int .u8 (byteAt B p)] w (DoneV B R tb toff cap w0 w d v cs (begunM B sub (byteAt B p) T p))

set_option maxRecDepth 100000 in
set_option maxHeartbeats 1600000 in
theorem value_any {sub : Option Sub} (E : Env B R tb toff cap w0) (HB : BegunC B R tb toff cap w0 sub d) (h : St B R tb toff cap w0 w a d v T cs) :
    Calls Tryd.prog 41 #[.pointer (some ⟨R, 0, none⟩)] w (DoneT B R tb toff cap w0 w d v cs natv (valueS B sub T a)) := by
  have hl := E.len
  have HE : Hid (Env B R tb toff cap w0) := E
  have HBG : Hid (BegunC B R tb toff cap w0 sub d) := HB
  clear E HB
  cases hA : aheadM B a with
  | bad a1 c =>
    have HR : Hid (valueS B sub T a = .bad a1 c) := by show _ = _; simp [valueS, hA, Res.andThen]
    have HA : Hid (aheadM B a = .bad a1 c) := hA
    clear hA
    go_enter Tryd.func41, Tryd.ntmps41
    go_wp2_with (go_at_call 50; refine (badS (ahead_any HE.out h.sc) HA.out).mono ?_; rintro e w1 ⟨rfl, hf1⟩)
    refine ⟨rfl, ?_⟩
    rw [HR.out]
    exact ⟨rfl, hf1.weak⟩
  | ok c p =>
    have hpc : c = byteAt B p ∧ p < B.length := by
      unfold aheadM peekM at hA
      split at hA
      · rename_i hlt
        simp only [Res.ok.injEq] at hA
        obtain ⟨rfl, rfl⟩ := hA
        exact ⟨rfl, hlt⟩
      · cases hA
    obtain ⟨rfl, hpl⟩ := hpc
    have HA : Hid (aheadM B a = .ok (byteAt B p) p) := hA
    clear hA
    cases hM : begunM B sub (byteAt B p) T p with
    | bad a1 k =>
      have HR : Hid (valueS B sub T a = .bad a1 k) := by show _ = _; simp [valueS, HA.out, Res.andThen, hM]
      have HM : Hid (begunM B sub (byteAt B p) T p = .bad a1 k) := hM
      clear hM
      go_enter Tryd.func41, Tryd.ntmps41
      go_wp2_with (first | (go_at_call 50; refine (okS (ahead_any HE.out h.sc) HA.out).mono ?_; rintro e w1 ⟨rfl, hs1, hf1⟩; simp only [u8v]; have c1 := hs1.rd.c1) | (go_at_call 51; refine (badV (HBG.out w1 p v T cs (h.scan hf1 hs1) hpl) HM.out).mono ?_; rintro e w2 ⟨rfl, hf2⟩))
      refine ⟨rfl, ?_⟩
      rw [HR.out]
      exact ⟨rfl, hf1.weak.trans0 hf2⟩
    | ok x a1 =>
      have HM : Hid (begunM B sub (byteAt B p) T p = .ok x a1) := hM
      clear hM
      have hx8 := HM
      by_cases h8 : x.2.length = 8192
      · have HR : Hid (valueS B sub T a = .bad p 27) := by show _ = _; simp [valueS, HA.out, Res.andThen, HM.out, h8]
        have h8' : ((x.2.length : Int) == 8192) = true := by simp; omega
        clear h8
        go_enter Tryd.func41, Tryd.ntmps41
        go_wp2_with (first | (go_at_call 50; refine (okS (ahead_any HE.out h.sc) HA.out).mono ?_; rintro e w1 ⟨rfl, hs1, hf1⟩; simp only [u8v]; have c1 := hs1.rd.c1) | (go_at_call 51; refine (okV (HBG.out w1 p v T cs (h.scan hf1 hs1) hpl) HM.out).mono ?_; rintro e w2 ⟨v', cs', na, nc, ka, kc, rfl, hvo, hst2, hf2, hmv, hnew, hnn, hnk⟩; simp only [aggV]; obtain ⟨ta, tc, rfl⟩ := hst2.shape; have c3 : ∀ o, (w2.alloc o).cell? ⟨R, 3, none⟩ = some (.slice ta x.2.length tc) := fun o => (hst2.sc.rd.alloc o).c3; have f3 : ∀ o, (w2.alloc o).frozen? ⟨R, 3, none⟩ = false := fun o => (hst2.sc.rd.alloc o).f 3) | (go_at_call 43; refine (fail_any _ _ _).mono ?_; rintro e w' ⟨rfl, rfl⟩))
        refine ⟨rfl, ?_⟩
        rw [HR.out]
        exact ⟨rfl, (hf1.weak.trans0 hf2).alloc _⟩
      · have HR : Hid (valueS B sub T a = .ok (x.2.length, x.2 ++ [x.1]) a1) := by show _ = _; simp [valueS, HA.out, Res.andThen, HM.out, h8]
        have h8' : ((x.2.length : Int) == 8192) = false := by simp; omega
        go_enter Tryd.func41, Tryd.ntmps41
        go_wp2_with (first | (go_at_call 50; refine (okS (ahead_any HE.out h.sc) HA.out).mono ?_; rintro e w1 ⟨rfl, hs1, hf1⟩; simp only [u8v]; have c1 := hs1.rd.c1) | (go_at_call 51; refine (okV (HBG.out w1 p v T cs (h.scan hf1 hs1) hpl) HM.out).mono ?_; rintro e w2 ⟨v', cs', na, nc, ka, kc, rfl, hvo, hst2, hf2, hmv, hnew, hnn, hnk⟩; simp only [aggV]; obtain ⟨ta, tc, rfl⟩ := hst2.shape; have c3 : ∀ o, (w2.alloc o).cell? ⟨R, 3, none⟩ = some (.slice ta x.2.length tc) := fun o => (hst2.sc.rd.alloc o).c3; have f3 : ∀ o, (w2.alloc o).frozen? ⟨R, 3, none⟩ = false := fun o => (hst2.sc.rd.alloc o).f 3))
        have hown := hst2.own
        have c3b : ∀ o o', ((w2.alloc o).alloc o').cell? ⟨R, 3, none⟩ = some (.slice ta x.2.length tc) := fun o o' => ((hst2.sc.rd.alloc o).alloc o').c3
        obtain ⟨i0, hi, hz0, hz1, hz2⟩ := info_parts info42
        have hle := hst2.le
        go_region_law (refine step_append rfl (.tmp 27) (.tmp 29) 23 rfl (R + 1) 42 i0 zeroV 6 88 Tryd.underlying23 hi hz0 hz1 hz2 rfl (by decide) _ x.2.length cs' rfl (((hown.alloc _).drew).alloc _) _ 1 1 (aggL x.1 (.slice na x.1.names.length nc) (.slice ka x.1.kids.length kc)) rfl rfl (cells_new _ (aggL x.1 (.slice na x.1.names.length nc) (.slice ka x.1.kids.length kc)) 42 _ (by simp)) (aggL_one _ _ _ _ _ _ _) (by unfold maxLen; omega) (by omega) (by simp; have := hst2.sc.rd.lt; omega) ?_; intro v3 w3 hown3 hg3 hm3; have hP := hst2.put (by omega) hvo ((((Fr.refl R none w2).alloc _).alloc _).drewN 1) (((hst2.sc.alloc _).alloc _).drewN 1) hown3 hg3 hm3; have hrd3 := Rd.grown (((hst2.sc.rd.alloc _).alloc _).drewN 1) hg3 (fun e => by have := hst2.ownGt R e; omega); have c3' := hrd3.c3; have f3' := hrd3.f 3; rcases hown3.2 with ⟨_, h0⟩ | ⟨g3, cp3, cur3, rfl, hrest⟩; exact absurd h0 (by omega))
        all_goals clear hg3 hm3 hrest hown3 hown c3' f3' hrd3
        all_goals have c3z := hP.1.sc.rd.c3
        all_goals go_wp2
        all_goals go_ret
        all_goals rw [HR.out]
        all_goals have m1 := hmv.le hf1.size
        all_goals exact ⟨_, _, by simp only [natv]; go_num, hP.1, (hf1.weak.trans0 hf2).trans hP.2.1 m1, m1.trans hP.2.2 (Nat.le_trans hf1.size hf2.size), New.snoc (fun g hg => (hnew g hg).imp id (Nat.le_trans hf1.size)) (fun g hg => Nat.le_trans hf1.size (hnn g hg)) (fun g hg => Nat.le_trans hf1.size (hnk g hg))⟩
end
end Go.Proofs.YtpffhckimilppaaDoor.Js