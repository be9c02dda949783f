/-
  Several texts in one.
-/
import Derived.Test.YtlflbjnglmbdeaaZSq
/-  The places that wait, by their burden: the plain keys, and what the calls of next and ease do. -/
namespace Go.Proofs.Ytlflbjnglmbdeaa
open Go.RowKit Go.Sort
open Qu (Pr Dis items dropM putM Least look_none look_some dis_put dis_drop)

/-! ### plain -/
/-- X holds just the keys of Q. -/
structure QKeys (n : Nat) (X : List Pr) (Q : Nat → Option Int) : Prop where
  mem : ∀ y, y ∈ X ↔ ∃ v : Nat, y.1 = (v : Int) ∧ Q v = some y.2
  ok : ∀ v k, Q v = some k → v < n ∧ 0 ≤ k ∧ k ≤ 1024
def putQ (Q : Nat → Option Int) (v : Nat) (k : Int) : Nat → Option Int := upd Q v (some (match Q v with | none => k | some j => if k < j then k else j))
structure LeastQ (Q : Nat → Option Int) (p : Nat) (k : Int) : Prop where
  at_ : Q p = some k
  least : ∀ v j, Q v = some j → k < j ∨ (k = j ∧ p ≤ v)
/-- The place that is lifted next, and the keys behind it. -/
inductive Next (bu : Nat → Nat) : (Nat → Option Int) → Nat → (Nat → Option Int) → Prop where
  | stop {Q : Nat → Option Int} {p : Nat} {k : Int} : LeastQ Q p k → k = bu p → Next bu Q p (upd Q p none)
  | on {Q Q' : Nat → Option Int} {p p' : Nat} {k : Int} : LeastQ Q p k → k ≠ bu p → Next bu (putQ (upd Q p none) p (bu p)) p' Q' → Next bu Q p' Q'
theorem LeastQ.eq {Q : Nat → Option Int} {p q : Nat} {k j : Int} (h : LeastQ Q p k) (h' : LeastQ Q q j) : p = q ∧ k = j := by
  rcases h.least q j h'.at_ with a | ⟨a, b⟩
  · rcases h'.least p k h.at_ with c | ⟨c, d⟩ <;> omega
  · rcases h'.least p k h.at_ with c | ⟨c, d⟩
    · omega
    · exact ⟨by omega, a⟩
theorem Next.eq {bu : Nat → Nat} {Q : Nat → Option Int} {p : Nat} {Q1 : Nat → Option Int} (h : Next bu Q p Q1) : ∀ {p' : Nat} {Q2 : Nat → Option Int}, Next bu Q p' Q2 → p = p' ∧ Q1 = Q2 := by
  induction h with
  | stop hl hk =>
    intro p' Q2 h'
    cases h' with
    | stop hl' hk' => obtain ⟨rfl, rfl⟩ := hl.eq hl'; exact ⟨rfl, rfl⟩
    | on hl' hk' _ => obtain ⟨rfl, rfl⟩ := hl.eq hl'; exact absurd hk hk'
  | on hl hk _ ih =>
    intro p' Q2 h'
    cases h' with
    | stop hl' hk' => obtain ⟨rfl, rfl⟩ := hl.eq hl'; exact absurd hk' hk
    | on hl' hk' h2 => obtain ⟨rfl, rfl⟩ := hl.eq hl'; exact ih h2
/-- The places that Q holds, but p. -/
theorem Next.dom {bu : Nat → Nat} {Q Q' : Nat → Option Int} {p : Nat} (h : Next bu Q p Q') : (Q p).isSome = true ∧ ∀ v, (Q' v).isSome = ((Q v).isSome && !(v == p)) := by
  induction h with
  | @stop Q p k hl hk =>
    refine ⟨by rw [hl.at_]; rfl, fun v => ?_⟩
    by_cases e : v = p
    · subst e; rw [upd_same]; simp
    · rw [upd_other _ _ e]; simp [e]
  | @on Q Q' p p' k hl hk _ ih =>
    have key : ∀ v, (putQ (upd Q p none) p (bu p) v).isSome = (Q v).isSome := fun v => by
      unfold putQ
      by_cases e : v = p
      · subst e; rw [upd_same, hl.at_]; rfl
      · rw [upd_other _ _ e, upd_other _ _ e]
    exact ⟨by rw [← key]; exact ih.1, fun v => by rw [ih.2 v, key]⟩
section
variable {n : Nat} {X : List Pr} {Q : Nat → Option Int}
theorem QKeys.len (h : QKeys n X Q) (hd : Dis X) : X.length ≤ n := by
  have := nodup_len n (items X) hd (fun x hx => by
    obtain ⟨y, hy, rfl⟩ := List.mem_map.1 hx
    obtain ⟨v, e, hv⟩ := (h.mem y).1 hy
    have := (h.ok v _ hv).1
    omega)
  simpa [items] using this
theorem QKeys.drop (h : QKeys n X Q) (v : Nat) : QKeys n (dropM X v) (upd Q v none) := by
  refine ⟨fun y => ?_, fun u k e => ?_⟩
  · rw [mem_drop, h.mem]
    constructor
    · rintro ⟨⟨u, e1, e2⟩, e3⟩
      exact ⟨u, e1, by rw [upd_other _ _ (fun e => e3 (by rw [e1, e]))]; exact e2⟩
    · rintro ⟨u, e1, e2⟩
      by_cases e : u = v
      · subst e; rw [upd_same] at e2; cases e2
      · rw [upd_other _ _ e] at e2; exact ⟨⟨u, e1, e2⟩, by omega⟩
  · by_cases e2 : u = v
    · subst e2; rw [upd_same] at e; cases e
    · rw [upd_other _ _ e2] at e; exact h.ok u k e
theorem QKeys.put (h : QKeys n X Q) (hd : Dis X) (hl : X.length < 4096) {v : Nat} {k : Int} (hv : v < n) (hk : 0 ≤ k ∧ k ≤ 1024) : QKeys n (putM X v k).1 (putQ Q v k) := by
  have hlook : ∀ z, Qu.look X (v : Int) = some z ↔ z ∈ X ∧ z.1 = (v : Int) := fun z => look_some hd
  refine ⟨fun y => ?_, fun u j e => ?_⟩
  · unfold putM putQ
    cases hL : Qu.look X (v : Int) with
    | none =>
      have hQ : Q v = none := by
        cases e : Q v with
        | none => rfl
        | some j => exact absurd rfl (look_none.1 hL ((v : Int), j) ((h.mem _).2 ⟨v, rfl, e⟩))
      dsimp only
      rw [if_pos hl, hQ, List.mem_append, h.mem, List.mem_singleton]
      constructor
      · rintro (⟨u, e1, e2⟩ | rfl)
        · exact ⟨u, e1, by rw [upd_other _ _ (fun e => by subst e; rw [hQ] at e2; cases e2)]; exact e2⟩
        · exact ⟨v, rfl, upd_same _ _ _⟩
      · rintro ⟨u, e1, e2⟩
        by_cases e : u = v
        · subst e
          rw [upd_same] at e2
          simp only [Option.some.injEq] at e2
          exact .inr (by obtain ⟨y1, y2⟩ := y; simp only at e1 e2; rw [e1, e2])
        · rw [upd_other _ _ e] at e2
          exact .inl ⟨u, e1, e2⟩
    | some z =>
      obtain ⟨hz1, hz2⟩ := (hlook z).1 hL
      obtain ⟨z1, z2⟩ := z
      simp only at hz2
      subst hz2
      have hQ : Q v = some z2 := by
        obtain ⟨u, e1, e2⟩ := (h.mem _).1 hz1
        simp only at e1 e2
        have : u = v := by omega
        subst this
        exact e2
      dsimp only
      rw [hQ]
      by_cases hlt : k < z2
      · simp only [hlt, if_true]
        rw [List.mem_map]
        constructor
        · rintro ⟨x, hx, e⟩
          unfold Qu.repl at e
          by_cases hx1 : x.1 = (v : Int)
          · rw [if_pos hx1] at e
            subst e
            exact ⟨v, rfl, upd_same _ _ _⟩
          · rw [if_neg hx1] at e
            subst e
            obtain ⟨u, e1, e2⟩ := (h.mem _).1 hx
            exact ⟨u, e1, by rw [upd_other _ _ (fun e => hx1 (by rw [e1, e]))]; exact e2⟩
        · rintro ⟨u, e1, e2⟩
          by_cases e : u = v
          · subst e
            rw [upd_same] at e2
            simp only [Option.some.injEq] at e2
            refine ⟨((u : Int), z2), hz1, ?_⟩
            unfold Qu.repl
            rw [if_pos rfl]
            obtain ⟨y1, y2⟩ := y
            simp only at e1 e2
            rw [e1, e2]
          · rw [upd_other _ _ e] at e2
            refine ⟨y, (h.mem y).2 ⟨u, e1, e2⟩, ?_⟩
            unfold Qu.repl
            rw [if_neg (by omega)]
      · simp only [hlt, if_false]
        rw [h.mem]
        constructor
        · rintro ⟨u, e1, e2⟩
          by_cases e : u = v
          · subst e; rw [hQ] at e2; exact ⟨u, e1, by rw [upd_same]; exact e2⟩
          · exact ⟨u, e1, by rw [upd_other _ _ e]; exact e2⟩
        · rintro ⟨u, e1, e2⟩
          by_cases e : u = v
          · subst e; rw [upd_same] at e2; exact ⟨u, e1, by rw [hQ]; exact e2⟩
          · rw [upd_other _ _ e] at e2; exact ⟨u, e1, e2⟩
  · unfold putQ at e
    by_cases e2 : u = v
    · subst e2
      rw [upd_same] at e
      refine ⟨hv, ?_⟩
      cases hQ : Q u with
      | none => rw [hQ] at e; simp only [Option.some.injEq] at e; omega
      | some z =>
        rw [hQ] at e
        have := h.ok u z hQ
        simp only [Option.some.injEq] at e
        split at e <;> omega
    · rw [upd_other _ _ e2] at e; exact h.ok u j e
theorem QKeys.least (h : QKeys n X Q) {y : Pr} (hy : Least X y) : ∃ p : Nat, y.1 = (p : Int) ∧ p < n ∧ LeastQ Q p y.2 := by
  obtain ⟨p, e1, e2⟩ := (h.mem y).1 hy.1
  refine ⟨p, e1, (h.ok p _ e2).1, e2, fun v j e => ?_⟩
  have := of_decide_eq_false (hy.2 ((v : Int), j) ((h.mem _).2 ⟨v, rfl, e⟩))
  simp only at this
  omega
/-- How many keys are not the burden. -/
def wrong (bu : Nat → Nat) (Q : Nat → Option Int) : Nat → Option Unit := fun v => match Q v with
  | none => none
  | some k => if k = bu v then none else some ()
theorem wrong_less {bu : Nat → Nat} {p : Nat} {k : Int} (hp : p < n) (hQ : Q p = some k) (hk : k ≠ bu p) : num (wrong bu (putQ (upd Q p none) p (bu p))) n + 1 = num (wrong bu Q) n := by
  have e : wrong bu (putQ (upd Q p none) p (bu p)) = upd (wrong bu Q) p none := by
    funext v
    unfold wrong putQ
    by_cases e : v = p
    · subst e; rw [upd_same, upd_same, upd_same]; simp
    · rw [upd_other _ _ e, upd_other _ _ e, upd_other _ _ e]
  rw [e]
  have h1 := num_del (wrong bu Q) p n hp
  have h2 : wrong bu Q p = some () := by unfold wrong; rw [hQ]; simp [hk]
  rw [h2] at h1
  simpa using h1
end
/-! ### in memory -/
structure BuIn (n : Nat) (w0 : World) (B : Nat) (b : LfB) (rv : Nat → Int) (U V : Mx) (q : Nat) (Q : Nat → Option Int) (X : List Pr) (S : Nat → Prop) (wr : World) : Prop where
  lf : LfA n wr b rv U V
  qu : Qu.QAt wr q X S
  keys : QKeys n X Q
  sep : ∀ k, S k → ¬ b.S n k
  gs : ∀ k, S k → B ≤ k
  gb : ∀ k, b.S n k → B ≤ k
  below : Below B w0 wr
  wB : B ≤ wr.heap.size
section
variable {n B q : Nat} {w0 wr w' : World} {b : LfB} {rv : Nat → Int} {U V : Mx} {Q Q' : Nat → Option Int} {X X' : List Pr} {S S' : Nat → Prop}
theorem BuIn.later (h : BuIn n w0 B b rv U V q Q X S wr) (f : Below wr.heap.size wr w') : BuIn n w0 B b rv U V q Q X S w' :=
  ⟨h.lf.later f, h.qu.later f, h.keys, h.sep, h.gs, h.gb, h.below.trans (f.mono h.wB), Nat.le_trans h.wB f.size⟩
theorem BuIn.drewN (h : BuIn n w0 B b rv U V q Q X S wr) (k : Nat) : BuIn n w0 B b rv U V q Q X S (wr.drewN k) := h.later (Qu.below_drewN (Below.refl _ _) k)
theorem BuIn.queue (h : BuIn n w0 B b rv U V q Q X S wr) (hq : Qu.QAt w' q X' S') (f : Qu.Fr S wr w') (hS : ∀ k, S' k → S k ∨ wr.heap.size ≤ k) (hk : QKeys n X' Q') : BuIn n w0 B b rv U V q Q' X' S' w' :=
  ⟨h.lf.kept f (fun k hk e => h.sep k e hk), hq, hk, fun k e => by
    rcases hS k e with e | e
    · exact h.sep k e
    · exact fun e2 => by have := h.lf.lt e2; omega, fun k e => by
    rcases hS k e with e | e
    · exact h.gs k e
    · have := h.wB; omega, h.gb, h.below.trans (f.below h.wB h.gs), Nat.le_trans h.wB f.size⟩
theorem BuIn.iter (h : BuIn n w0 B b rv U V q Q X S wr) {r : Nat} (f : wr.grownBy w' (some r)) (hr : B ≤ r) (h1 : ¬ b.S n r) (h2 : ¬ S r) : BuIn n w0 B b rv U V q Q X S w' :=
  ⟨h.lf.iter f h1, h.qu.fr (T := fun j => j = r) (Qu.Fr.of_grown f (fun j e => by cases e; rfl)) (fun j hj e => by subst e; exact h2 hj), h.keys, h.sep, h.gs, h.gb, h.below.trans ⟨f.os, f.tape, f.output, f.size, fun j hj => f.block j (Nat.lt_of_lt_of_le hj h.wB) (fun e => by cases e; omega)⟩, Nat.le_trans h.wB f.size⟩
theorem BuIn.put (h : BuIn n w0 B b rv U V q Q X S wr) (hn : n ≤ 32) {v : Nat} {k : Int} (hv : v < n) (hk : 0 ≤ k ∧ k ≤ 1024) :
    Calls Try.prog 48 #[.pointer (some ⟨q, 0, none⟩), .int .i64 v, .int .i64 k] wr fun e w' => e = .returned (.bool (putM X v k).2) ∧ ∃ S', BuIn n w0 B b rv U V q (putQ Q v k) (putM X v k).1 S' w' ∧ Qu.Fr S wr w' ∧ ∀ k, S' k → S k ∨ wr.heap.size ≤ k := by
  have hl : X.length < 4096 := by have := h.keys.len h.qu.dis; omega
  refine (Qu.put_any h.qu (v : Int) k (natI64 (by omega)) (by unfold Qu.I64; omega)).mono ?_
  rintro e w' ⟨rfl, h1, h2⟩
  have hS : ∀ k, Qu.grow S wr w' k → S k ∨ wr.heap.size ≤ k := fun k e => by rcases e with e | e; exact .inl e; exact .inr e.1
  exact ⟨rfl, _, h.queue h1 h2 hS (h.keys.put h.qu.dis hl hv hk), h2, hS⟩
theorem BuIn.take (h : BuIn n w0 B b rv U V q Q X S wr) {y : Pr} (hy : Least X y) {p : Nat} (hp : y.1 = (p : Int)) :
    Calls Try.prog 44 #[.pointer (some ⟨q, 0, none⟩)] wr fun e w' => e = .returned (.tuple #[.int .i64 p, .int .i64 y.2, .bool true]) ∧ BuIn n w0 B b rv U V q (upd Q p none) (dropM X p) S w' := by
  refine (Qu.take_any h.qu y hy).mono ?_
  rintro e w' ⟨rfl, h1, h2⟩
  rw [hp] at h1 ⊢
  exact ⟨rfl, h.queue h1 h2 (fun k e => .inl e) (h.keys.drop p)⟩
theorem bur_le (n : Nat) (hn : n ≤ 32) (U V : Mx) (p : Nat) : bur n U V p ≤ 1024 := by
  unfold bur
  exact Nat.mul_le_mul (Nat.le_trans (num_le _ n) hn) (Nat.le_trans (num_le _ n) hn)
end
set_option maxRecDepth 100000 in
set_option maxHeartbeats 3200000 in
theorem next_any {n B q : Nat} {w0 w : World} {b : LfB} {rv : Nat → Int} {U V : Mx} {Q : Nat → Option Int} {X : List Pr} {S : Nat → Prop} (h : BuIn n w0 B b rv U V q Q X S w) (hn : n ≤ 32) (hne : ∃ v, (Q v).isSome = true) :
    Calls Try.prog 50 #[.pointer (some ⟨b.l, 0, none⟩), .pointer (some ⟨q, 0, none⟩)] w fun e w' => ∃ p : Nat, e = .returned (.int .i64 p) ∧ p < n ∧ ∃ Q' X' S', Next (bur n U V) Q p Q' ∧ BuIn n w0 B b rv U V q Q' X' S' w' := by
  have H := hide h
  have HNE := hide hne
  clear h hne
  go_enter Try.func50, Try.ntmps50
  go_wp2
  go_loopg [] (num (wrong (bur n U V) Q) n + 1) (fun k wr => ∃ Q1 X1 S1, k = num (wrong (bur n U V) Q1) n + 1 ∧ Hid (BuIn n w0 B b rv U V q Q1 X1 S1 wr ∧ (∃ v, (Q1 v).isSome = true) ∧ ∀ p Q', Next (bur n U V) Q1 p Q' → Next (bur n U V) Q p Q'))
  case atStart => exact ⟨Q, X, S, rfl, H.out, HNE.out, fun _ _ h => h⟩
  case round =>
    clear H HNE
    obtain ⟨Q1, X1, S1, rfl, HR⟩ := hrel
    have hX : X1 ≠ [] := fun e => by
      obtain ⟨v, hv⟩ := HR.out.2.1
      obtain ⟨k, hk⟩ := Option.isSome_iff_exists.1 hv
      have := (HR.out.1.keys.mem ((v : Int), k)).2 ⟨v, rfl, hk⟩
      rw [e] at this
      simp at this
    obtain ⟨⟨y1, y2⟩, hy⟩ := Qu.least_ex hX
    obtain ⟨p, e1, hp, hl⟩ := HR.out.1.keys.least hy
    simp only at e1 hl
    have HT := hide (HR.out.1.take hy e1)
    simp only at HT
    have hbl := bur_le n hn U V p
    have HBD := hide (fun (w' : World) (h' : LfA n w' b rv U V) => burden_any h' hn hp)
    have HLQ := hide hl
    have HPN := hide hp
    obtain ⟨bp, hbp⟩ : ∃ bp, bur n U V p = bp := ⟨_, rfl⟩
    rw [hbp] at hbl HBD
    have HBP := hide hbp
    clear hl hy e1 hX hbp
    by_cases hk : y2 = (bp : Int)
    · have z1 : ((bp : Int) == y2) = true := by subst hk; simp
      have z2 : ((bp : Int) == (bp : Int)) = true := by simp
      have HNX := hide (HR.out.2.2 p (upd Q1 p none) (.stop HLQ.out (by rw [HBP.out]; exact hk)))
      replace hk := hide hk
      go_wp2_with (first
        | (go_at_call 44; refine HT.out.mono ?_; rintro e w2 ⟨rfl, h2⟩; have H2 := hide h2; clear h2)
        | (go_at_call 49; refine (HBD.out _ H2.out.lf).mono ?_; rintro e w3 ⟨rfl, k3, hw⟩; have H3 := hide (H2.out.drewN k3); rw [hw]; clear hw))
      go_ret
      exact ⟨p, rfl, HPN.out, _, _, _, HNX.out, H3.out⟩
    · have z1 : ((bp : Int) == y2) = false := by simp; omega
      have HNX : Hid (∀ p' Q', Next (bur n U V) (putQ (upd Q1 p none) p bp) p' Q' → Next (bur n U V) Q p' Q') := fun p' Q' hx => HR.out.2.2 p' Q' (.on HLQ.out (by rw [HBP.out]; exact hk) (by rw [HBP.out]; exact hx))
      have HWR : Hid (num (wrong (bur n U V) (putQ (upd Q1 p none) p bp)) n + 1 = num (wrong (bur n U V) Q1) n) := by
        have := wrong_less (bu := bur n U V) HPN.out HLQ.out.at_ (by rw [HBP.out]; exact hk)
        rw [HBP.out] at this
        exact this
      go_wp2_with (first
        | (go_at_call 44; refine HT.out.mono ?_; rintro e w2 ⟨rfl, h2⟩; have H2 := hide h2; clear h2)
        | (go_at_call 49; refine (HBD.out _ H2.out.lf).mono ?_; rintro e w3 ⟨rfl, k3, hw⟩; have H3 := hide (H2.out.drewN k3); rw [hw]; clear hw)
        | (go_at_call 48; refine (H3.out.put hn HPN.out (k := bp) (by omega)).mono ?_; rintro e w4 ⟨rfl, S4, h4, _, _⟩; have H4 := hide h4; clear h4))
      go_roundg (num (wrong (bur n U V) (putQ (upd Q1 p none) p bp)) n + 1)
      case measure => have := HWR.out; omega
      case rel => exact ⟨_, _, S4, rfl, H4.out, ⟨p, by unfold putQ; rw [upd_same]; rfl⟩, HNX.out⟩
end Go.Proofs.Ytlflbjnglmbdeaa
/-  What the call of ease does: the places next to one that was lifted get no greater keys. -/
namespace Go.Proofs.Ytlflbjnglmbdeaa
open Go.RowKit Go.Sort
open Qu (Pr Dis items dropM putM Least look_none look_some dis_put dis_drop)

/-- Of those that F names and that have come, the keys are no greater than the burden. -/
def eaQ (bu : Nat → Nat) (F : Nat → Bool) (todo : Nat → Bool) (Q : Nat → Option Int) : Nat → Option Int := fun v =>
  if F v = true ∧ todo v = false then some (match Q v with | none => (bu v : Int) | some j => if (bu v : Int) < j then (bu v : Int) else j) else Q v
theorem eaQ_start (bu : Nat → Nat) (F : Nat → Bool) (Q : Nat → Option Int) : eaQ bu F F Q = Q := by
  funext v
  unfold eaQ
  split
  · rename_i h; rw [h.1] at h; cases h.2
  · rfl
theorem eaQ_next {bu : Nat → Nat} {F todo : Nat → Bool} {Q : Nat → Option Int} {q : Nat} (hF : F q = true) (ht : todo q = true) : eaQ bu F (fun t => todo t && !(t == q)) Q = putQ (eaQ bu F todo Q) q (bu q) := by
  funext v
  unfold putQ
  by_cases e : v = q
  · subst e
    rw [upd_same]
    have e2 : eaQ bu F todo Q v = Q v := by unfold eaQ; rw [if_neg]; rw [ht]; simp
    rw [e2]
    unfold eaQ
    rw [if_pos ⟨hF, by simp⟩]
    all_goals (cases Q v <;> rfl)
  · rw [upd_other _ _ e]
    unfold eaQ
    simp [e]
theorem eaQ_end {n : Nat} {bu : Nat → Nat} {F todo : Nat → Bool} {Q : Nat → Option Int} (hF : ∀ v, F v = true → v < n) (ht : ∀ v, v < n → todo v = false) : eaQ bu F todo Q = eaQ bu F (fun _ => false) Q := by
  funext v
  unfold eaQ
  by_cases e : F v = true
  · rw [ht v (hF v e)]
  · simp [e]
theorem eaQ_dom {bu : Nat → Nat} {F todo : Nat → Bool} {Q : Nat → Option Int} (h : ∀ v, F v = true → (Q v).isSome = true) (v : Nat) : (eaQ bu F todo Q v).isSome = (Q v).isSome := by
  unfold eaQ
  split
  · rename_i e; rw [h v e.1]; rfl
  · rfl
/-- In the loops of ease. -/
structure EaIn (n : Nat) (w0 : World) (B : Nat) (b : LfB) (rv : Nat → Int) (U V : Mx) (q : Nat) (Q : Nat → Option Int) (mb r : Nat) (F : Nat → Option Value) (todo : Nat → Bool) (k : Nat) (wr : World) : Prop where
  ex : ∃ X S, BuIn n w0 B b rv U V q (eaQ (bur n U V) (fun v => (F v).isSome) todo Q) X S wr ∧ ¬ S r
  rg : RangeAt n wr mb r F todo k
  sb : b.S n mb
  nr : ¬ b.S n r
  rB : B ≤ r
set_option maxRecDepth 100000 in
set_option maxHeartbeats 6400000 in
theorem ease_any {n B q : Nat} {w0 w : World} {b : LfB} {rv : Nat → Int} {U V : Mx} {Q : Nat → Option Int} {X : List Pr} {S : Nat → Prop} (h : BuIn n w0 B b rv U V q Q X S w) (hn : n ≤ 32) (hU : ∀ a c, (U a c).isSome = true → c < n) (hV : ∀ a c, (V a c).isSome = true → a < n) {p : Nat} (hp : p < n) :
    Calls Try.prog 52 #[.pointer (some ⟨b.l, 0, none⟩), .int .i64 p, .pointer (some ⟨q, 0, none⟩)] w fun e w' => e = .returned (.tuple #[]) ∧ ∃ X' S', BuIn n w0 B b rv U V q (eaQ (bur n U V) (fun a => (V a p).isSome) (fun _ => false) (eaQ (bur n U V) (fun c => (U p c).isSome) (fun _ => false) Q)) X' S' w' := by
  have HUV : Hid ((∀ c, (upF U p c).isSome = true → c < n) ∧ ∀ a, (dnF V p a).isSome = true → a < n) := ⟨fun c e => hU p c (by unfold upF at e; simpa using e), fun a e => hV a p (by unfold dnF at e; simpa using e)⟩
  have HSU : Hid ((fun v => (upF U p v).isSome) = fun c => (U p c).isSome) := by show _ = _; funext c; unfold upF; cases U p c <;> rfl
  have HSV : Hid ((fun v => (dnF V p v).isSome) = fun a => (V a p).isSome) := by show _ = _; funext a; unfold dnF; cases V a p <;> rfl
  have HBR := hide (fun v => bur_le n hn U V v)
  have hlf := h.lf
  obtain ⟨w2, run2, hr2, hg2, hs2⟩ := range_start (hlf.mu p hp) Try.underlying101
  have c1 := hlf.c1
  have cu := hlf.cu hp
  have i2 : (p : Int) < (n : Int) := by omega
  obtain ⟨r, hrr⟩ : ∃ r, w.heap.size = r := ⟨_, rfl⟩
  rw [hrr] at run2 hr2
  have HS2 : Hid (EaIn n w0 B b rv U V q Q (b.mu p) r (upF U p) (fun v => (upF U p v).isSome) (num (upF U p) n) w2) := by
    have hb2 : Below w.heap.size w w2 := ⟨hg2.os, hg2.tape, hg2.output, hg2.size, fun k hk => hg2.block k hk (by simp)⟩
    have h3 := h.later hb2
    obtain ⟨_, _, _, hit⟩ := hr2.isIter
    exact ⟨⟨_, _, by rw [eaQ_start]; exact h3, fun e => by have := h.qu.lt _ e; omega⟩, hr2, LfA.su hp, h3.lf.not_iter hit, by rw [← hrr]; exact h.wB⟩
  obtain ⟨K0, hK0⟩ : ∃ K0, num (upF U p) n = K0 := ⟨_, rfl⟩
  rw [hK0] at HS2
  clear hlf hr2 hg2 hs2 hrr hK0
  clear h
  go_enter Try.func52, Try.ntmps52
  go_wp2
  clear run2 c1 cu
  go_loopg [] K0 (fun k2 wr => ∃ todo, Hid (EaIn n w0 B b rv U V q Q (b.mu p) r (upF U p) todo k2 wr))
  case atStart => exact ⟨_, HS2.out⟩
  case round =>
    clear HS2
    obtain ⟨todo, HR⟩ := hrel
    rcases range_next HR.out.rg 0 with ⟨rfl, hall, hrun⟩ | ⟨x, v, w6, k6, hx, ht, hF, hrun, hrg, hk6, hg6, hs6, hent⟩
    · obtain ⟨X5, S5, h5, _⟩ := HR.out.ex
      rw [eaQ_end HUV.out.1 hall] at h5
      have hlf := h5.lf
      obtain ⟨w2, run2, hr2, hg2, hs2⟩ := range_start (hlf.md p hp) Try.underlying101
      have c1 := hlf.c2
      have cu := hlf.cd hp
      have i2 : (p : Int) < (n : Int) := by omega
      obtain ⟨r', hrr⟩ : ∃ r, wr.heap.size = r := ⟨_, rfl⟩
      rw [hrr] at run2 hr2
      have HS2 : Hid (EaIn n w0 B b rv U V q (eaQ (bur n U V) (fun v => (upF U p v).isSome) (fun _ => false) Q) (b.md p) r' (dnF V p) (fun v => (dnF V p v).isSome) (num (dnF V p) n) w2) := by
        have hb2 : Below wr.heap.size wr w2 := ⟨hg2.os, hg2.tape, hg2.output, hg2.size, fun k hk => hg2.block k hk (by simp)⟩
        have h3 := h5.later hb2
        obtain ⟨_, _, _, hit⟩ := hr2.isIter
        exact ⟨⟨_, _, by rw [eaQ_start]; exact h3, fun e => by have := h5.qu.lt _ e; omega⟩, hr2, LfA.sd hp, h3.lf.not_iter hit, by rw [← hrr]; exact h5.wB⟩
      obtain ⟨K1, hK0⟩ : ∃ K0, num (dnF V p) n = K0 := ⟨_, rfl⟩
      rw [hK0] at HS2
      clear hlf hr2 hg2 hs2 hrr hK0
      clear h5 HR hall
      go_wp2
      clear run2 c1 cu hrun
      go_loopg [] K1 (fun k2 wr => ∃ todo, Hid (EaIn n w0 B b rv U V q (eaQ (bur n U V) (fun v => (upF U p v).isSome) (fun _ => false) Q) (b.md p) r' (dnF V p) todo k2 wr))
      case atStart => exact ⟨_, HS2.out⟩
      case round =>
        clear HS2
        obtain ⟨todo, HR⟩ := hrel
        rcases range_next HR.out.rg 0 with ⟨rfl, hall, hrun⟩ | ⟨x, v, w6, k6, hx, ht, hF, hrun, hrg, hk6, hg6, hs6, hent⟩
        · obtain ⟨X6, S6, h6, _⟩ := HR.out.ex
          rw [eaQ_end HUV.out.2 hall, HSU.out, HSV.out] at h6
          have HE := hide h6
          clear h6 HR hall
          go_wp2
          go_end0
          exact ⟨rfl, X6, S6, HE.out⟩
        · have hitr := HR.out.rg.isIter
          obtain ⟨X5, S5, h5, h5r⟩ := HR.out.ex
          have h6 := h5.iter hg6 HR.out.rB HR.out.nr h5r
          have hFq : (fun v => (dnF V p v).isSome) x = true := by simp only; rw [hF]; rfl
          have HNQ := hide (eaQ_next (bu := bur n U V) (F := fun v => (dnF V p v).isSome) (todo := todo) (Q := (eaQ (bur n U V) (fun v => (upF U p v).isSome) (fun _ => false) Q)) hFq ht)
          have HBD := hide (burden_any h6.lf hn hx)
          have hbl := HBR.out x
          obtain ⟨bx, hbx⟩ : ∃ bx, bur n U V x = bx := ⟨_, rfl⟩
          rw [hbx] at hbl HBD HNQ
          have H6 := hide h6
          have HX := hide hx
          have HGE : Hid (¬ S5 r' ∧ b.S n (b.md p) ∧ ¬ b.S n r' ∧ B ≤ r' ∧ RangeAt n w6 (b.md p) r' (dnF V p) (fun t => todo t && !(t == x)) k6) := ⟨h5r, HR.out.sb, HR.out.nr, HR.out.rB, hrg⟩
          clear h5 h6 h5r hitr hbx hg6 hs6 hrg hF ht HR hFq
          go_wp2_with (first
            | (go_at_call 49; refine HBD.out.mono ?_; rintro e w3 ⟨rfl, k3, hw⟩; have H3 := hide (H6.out.drewN k3); have HRG3 : Hid (RangeAt n (w6.drewN k3) (b.md p) r' (dnF V p) (fun t => todo t && !(t == x)) k6) := HGE.out.2.2.2.2.of_blocks (by rw [Qu.drewN_heap]) (by rw [Qu.drewN_heap]); rw [hw]; clear hw)
            | (go_at_call 48; refine (H3.out.put hn HX.out (k := bx) (by omega)).mono ?_; rintro e w4 ⟨rfl, S4, h4, h4f, h4s⟩; have H4 : Hid (EaIn n w0 B b rv U V q (eaQ (bur n U V) (fun v => (upF U p v).isSome) (fun _ => false) Q) (b.md p) r' (dnF V p) (fun t => todo t && !(t == x)) k6 w4) := ⟨⟨_, S4, by rw [HNQ.out]; exact h4, fun e => by rcases h4s _ e with e | e; exact HGE.out.1 e; have := HRG3.out.lt; omega⟩, HRG3.out.of_blocks (h4f.block _ HRG3.out.map.lt (fun e => H3.out.sep _ e HGE.out.2.1)) (h4f.block _ HRG3.out.lt HGE.out.1), HGE.out.2.1, HGE.out.2.2.1, HGE.out.2.2.2.1⟩; clear h4 h4f h4s))
          go_roundg k6
          case measure => omega
          case rel => exact ⟨_, H4.out⟩
    · have hitr := HR.out.rg.isIter
      obtain ⟨X5, S5, h5, h5r⟩ := HR.out.ex
      have h6 := h5.iter hg6 HR.out.rB HR.out.nr h5r
      have hFq : (fun v => (upF U p v).isSome) x = true := by simp only; rw [hF]; rfl
      have HNQ := hide (eaQ_next (bu := bur n U V) (F := fun v => (upF U p v).isSome) (todo := todo) (Q := Q) hFq ht)
      have HBD := hide (burden_any h6.lf hn hx)
      have hbl := HBR.out x
      obtain ⟨bx, hbx⟩ : ∃ bx, bur n U V x = bx := ⟨_, rfl⟩
      rw [hbx] at hbl HBD HNQ
      have H6 := hide h6
      have HX := hide hx
      have HGE : Hid (¬ S5 r ∧ b.S n (b.mu p) ∧ ¬ b.S n r ∧ B ≤ r ∧ RangeAt n w6 (b.mu p) r (upF U p) (fun t => todo t && !(t == x)) k6) := ⟨h5r, HR.out.sb, HR.out.nr, HR.out.rB, hrg⟩
      clear h5 h6 h5r hitr hbx hg6 hs6 hrg hF ht HR hFq
      go_wp2_with (first
        | (go_at_call 49; refine HBD.out.mono ?_; rintro e w3 ⟨rfl, k3, hw⟩; have H3 := hide (H6.out.drewN k3); have HRG3 : Hid (RangeAt n (w6.drewN k3) (b.mu p) r (upF U p) (fun t => todo t && !(t == x)) k6) := HGE.out.2.2.2.2.of_blocks (by rw [Qu.drewN_heap]) (by rw [Qu.drewN_heap]); rw [hw]; clear hw)
        | (go_at_call 48; refine (H3.out.put hn HX.out (k := bx) (by omega)).mono ?_; rintro e w4 ⟨rfl, S4, h4, h4f, h4s⟩; have H4 : Hid (EaIn n w0 B b rv U V q Q (b.mu p) r (upF U p) (fun t => todo t && !(t == x)) k6 w4) := ⟨⟨_, S4, by rw [HNQ.out]; exact h4, fun e => by rcases h4s _ e with e | e; exact HGE.out.1 e; have := HRG3.out.lt; omega⟩, HRG3.out.of_blocks (h4f.block _ HRG3.out.map.lt (fun e => H3.out.sep _ e HGE.out.2.1)) (h4f.block _ HRG3.out.lt HGE.out.1), HGE.out.2.1, HGE.out.2.2.1, HGE.out.2.2.2.1⟩; clear h4 h4f h4s))
      go_roundg k6
      case measure => omega
      case rel => exact ⟨_, H4.out⟩
end Go.Proofs.Ytlflbjnglmbdeaa
