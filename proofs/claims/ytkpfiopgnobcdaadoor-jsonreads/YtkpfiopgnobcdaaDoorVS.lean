/-
  The document's reader of JSON: a value, at every depth.
-/
import Derived.Test.YtkpfiopgnobcdaaDoorRefI
import Derived.Test.YtkpfiopgnobcdaaDoorVQ
import Derived.Test.YtkpfiopgnobcdaaDoorVR
namespace Go.Proofs.YtkpfiopgnobcdaaDoor
open Go.RowKit

/-- What reads the kids. -/
def subOf (B : List UInt8) : Nat → Option Sub
  | 0 => none
  | k + 1 => some (valueM B k)
theorem New.less {n m : Nat} {a b : List Value} (h : New m a b) (hn : n ≤ m) : New n a b := fun g hg => (h g hg).imp id (Nat.le_trans hn)
theorem then_put {α : Type} (r : Res α) (f : α → V × List V) (p : Nat) : ((r.andThen fun s a' => .ok (f s) a').andThen fun (x : V × List V) a' => if x.2.length = 8192 then Res.bad p 27 else .ok (x.2.length, x.2 ++ [x.1]) a') = r.andThen fun s a' => putM p (f s).1 (f s).2 a' := by
  cases r <;> rfl
section
variable {B : List UInt8} {R cap : Nat} {ta : Option Addr} {w0 w w1 w' : World} {a bb pp : Nat} {v : Value} {T : List V} {cs : List Value}
theorem DoneRV.pre {n : Nat} {M : Res (Nat × List V)} {e : Ending} (hf : Fr R none w w1) (h : DoneRV B R cap ta w0 w1 v T cs n M e w') : DoneRV B R cap ta w0 w v T cs n M e w' := by
  cases M with
  | ok x q =>
    obtain ⟨h1, v', cs', h2, h3, h4, h5⟩ := h
    exact ⟨h1, v', cs', h2, hf.weak.trans0 h3, h4.le hf.size, h5.less hf.size⟩
  | bad x c =>
    obtain ⟨h1, q, v', T', cs', h0, h2, h3, h4, h5, h6⟩ := h
    exact ⟨h1, q, v', T', cs', h0, h2, hf.weak.trans0 h3, h4.le hf.size, h5.less hf.size, h6⟩
theorem DoneRV.bad {n x c q : Nat} (h : RSt B R cap ta w0 w a bb pp v T cs) (hs : RSc B R cap ta w0 w' q c x v) (hf : Fr R none w w') (hq : q ≤ B.length + n) : DoneRV B R cap ta w0 w v T cs n (.bad x c) (.returned (natv 0)) w' :=
  ⟨rfl, q, v, T, cs, hq, h.scan hf hs, hf.weak, Moved.refl _ _, New.refl _ _, Nat.le_refl _⟩
/-- A value without names and kids is put. -/
theorem put_one {n from_ : Nat} (h : RSt B R cap ta w0 w a bb pp v T cs) {q : Nat} (hs : RSc B R cap ta w0 w1 q 0 0 v) (hf : Fr R none w w1) (hq : q ≤ B.length + n) (x : V) (hxn : x.names = []) (hxk : x.kids = []) :
    Calls Tryd.prog 25 #[.pointer (some ⟨R, 0, none⟩), .agg #[.int .i64 x.kind, .bool x.truth, .int .i64 x.num, .string ⟨x.text.toArray⟩, .slice none 0 0, .slice none 0 0], .int .i64 from_] w1 (DoneRV B R cap ta w0 w v T cs n (putM from_ x T q)) := by
  have h1 := h.scan hf hs
  obtain ⟨kd, tr, nu, tx, ns, ks⟩ := x
  simp only at hxn hxk
  subst hxn hxk
  by_cases h8 : T.length = 8192
  · have := put_full h1 h8 ⟨kd, tr, nu, tx, [], []⟩ none none 0 0 from_
    refine this.mono ?_
    rintro e w' ⟨rfl, hs2, hf2⟩
    unfold putM
    rw [if_pos h8]
    exact DoneRV.pre hf (DoneRV.bad h1 hs2 hf2 hq)
  · have := put_good h1 (by have := h.le; omega) ⟨kd, tr, nu, tx, [], []⟩ none none 0 0 from_ ⟨World.ownsRow_nil _ _ _ _, World.ownsRow_nil _ _ _ _⟩
    refine this.mono ?_
    rintro e w' ⟨v', rfl, hst, hf2, hm⟩
    unfold putM
    rw [if_neg h8]
    exact DoneRV.pre hf ⟨rfl, v', _, hst, hf2, hm, (New.refl _ _).snoc (fun g e => by cases e) (fun g e => by cases e)⟩
set_option maxRecDepth 100000 in
set_option maxHeartbeats 12800000 in
theorem value_step {k deep : Nat} (E : REnv B R cap ta w0) (hkd : k + deep = 17) (HV : ∀ k', k = k' + 1 → RValueC B R cap ta w0 (valueM B k') (deep + 1) (4 + 3 * k')) : RValueC B R cap ta w0 (valueM B k) deep (4 + 3 * k) := by
  intro w a v T cs z hz h ha
  subst hz
  have hl := E.len
  have HE := hide E
  have HST := hide h
  have HVC := hide HV
  have HVM : Hid (valueM B k T a = (aheadM B a).andThen fun c p => (begunM B (subOf B k) c T p).andThen fun x a' => if x.2.length = 8192 then .bad p 27 else .ok (x.2.length, x.2 ++ [x.1]) a') := by
    show _ = _
    cases k <;> rfl
  have HN0 := hide (next_good E h.sc ha)
  clear E h HV
  cases hA : aheadM B a with
  | bad x c =>
    have HM : Hid (valueM B k T a = .bad x c) := by show _ = _; rw [HVM.out, hA]; rfl
    have HN := hide (badH HN0.out hA)
    clear hA HVM HN0
    go_enter Tryd.func16, Tryd.ntmps16
    go_wp2_with (go_at_call 23; refine HN.out.mono ?_; rintro e w1 ⟨rfl, q, hq, hs1, hf1⟩; have c1 := hs1.rd.c1; have H1 := hide (And.intro hs1 (And.intro hf1 hq)))
    go_ret
    rw [HM.out]
    exact DoneRV.bad HST.out H1.out.1 H1.out.2.1 (by have := H1.out.2.2; omega)
  | ok c p =>
    have hpl := (aheadM_at hA).2.1
    have HBY := hide (aheadM_at hA).1
    have HN := hide (okH HN0.out hA)
    have HM0 : Hid (valueM B k T a = (begunM B (subOf B k) c T p).andThen fun x a' => if x.2.length = 8192 then .bad p 27 else .ok (x.2.length, x.2 ++ [x.1]) a') := by show _ = _; rw [HVM.out, hA]; rfl
    clear hA HVM HN0
    have hcases : c = 110 ∨ c = 116 ∨ c = 102 ∨ c = 34 ∨ (c = 45 ∨ (48 ≤ c ∧ c ≤ 57)) ∨ c = 91 ∨ c = 123 ∨ (c ≠ 110 ∧ c ≠ 116 ∧ c ≠ 102 ∧ c ≠ 34 ∧ c ≠ 45 ∧ ¬ (48 ≤ c ∧ c ≤ 57) ∧ c ≠ 91 ∧ c ≠ 123) := by omega
    rcases hcases with rfl | rfl | rfl | rfl | hnum | rfl | rfl | hno
    · cases hW : wordM B nullW p with
      | bad x y =>
        have HM : Hid (valueM B k T a = .bad x y) := by show _ = _; rw [HM0.out]; simp [begunM, hW, Res.andThen]
        have hy : y ≠ 0 := by have := word_fine (B := B) (l := nullW) (a := p) (by omega); rw [hW] at this; exact this.2
        have HW := hide hW
        clear hW HM0
        go_enter Tryd.func16, Tryd.ntmps16
        go_wp2_with (first
          | (go_at_call 23; refine HN.out.mono ?_; rintro e w1 ⟨rfl, hs1, hf1⟩; have c1 := hs1.rd.c1; have H1 := hide (And.intro hs1 hf1); clear hs1 hf1)
          | (go_at_call 24; refine (badB (rword_good HE.out H1.out.1 (by omega) ⟨#[110, 117, 108, 108]⟩ (by decide)) HW.out).mono ?_; rintro e w2 ⟨u, q, rfl, hq, hs2, hf2⟩; have H2 := hide (And.intro hs2 (And.intro (H1.out.2.trans0 hf2) hq)); clear hs2 hf2 hq)
          | (go_at_call 25; refine (put_bad H2.out.1 hy { kind := 1 } none none 0 0 (p : Int)).mono ?_; rintro e w3 ⟨rfl, hs3, hf3⟩; have H3 := hide (And.intro hs3 (H2.out.2.1.trans0 hf3)); clear hs3 hf3))
        go_ret
        rw [HM.out]
        exact DoneRV.bad HST.out H3.out.1 H3.out.2 (by have := H2.out.2.2; omega)
      | ok y q =>
        have HM : Hid (valueM B k T a = putM p { kind := 1 } T q) := by show _ = _; rw [HM0.out]; simp [begunM, hW, Res.andThen, putM]
        have hq := (by have := word_fine (B := B) (l := nullW) (a := p) (by omega); rw [hW] at this; exact this.2 : q ≤ B.length)
        have HW := hide hW
        clear hW HM0
        go_enter Tryd.func16, Tryd.ntmps16
        go_wp2_with (first
          | (go_at_call 23; refine HN.out.mono ?_; rintro e w1 ⟨rfl, hs1, hf1⟩; have c1 := hs1.rd.c1; have H1 := hide (And.intro hs1 hf1); clear hs1 hf1)
          | (go_at_call 24; refine (okB (rword_good HE.out H1.out.1 (by omega) ⟨#[110, 117, 108, 108]⟩ (by decide)) HW.out).mono ?_; rintro e w2 ⟨rfl, hs2, hf2⟩; have H2 := hide (And.intro hs2 (H1.out.2.trans0 hf2)); clear hs2 hf2)
          | (go_at_call 25; refine (put_one (n := 4 + 3 * k) (from_ := p) HST.out H2.out.1 H2.out.2 (by omega) { kind := 1 } rfl rfl).mono ?_; intro e w3 hD; have HD := hide hD; clear hD; obtain ⟨u, rfl⟩ := DoneRV.ret HD.out))
        go_ret
        rw [HM.out]
        exact HD.out
    · cases hW : wordM B trueW p with
      | bad x y =>
        have HM : Hid (valueM B k T a = .bad x y) := by show _ = _; rw [HM0.out]; simp [begunM, hW, Res.andThen]
        have hy : y ≠ 0 := by have := word_fine (B := B) (l := trueW) (a := p) (by omega); rw [hW] at this; exact this.2
        have HW := hide hW
        clear hW HM0
        go_enter Tryd.func16, Tryd.ntmps16
        go_wp2_with (first
          | (go_at_call 23; refine HN.out.mono ?_; rintro e w1 ⟨rfl, hs1, hf1⟩; have c1 := hs1.rd.c1; have H1 := hide (And.intro hs1 hf1); clear hs1 hf1)
          | (go_at_call 24; refine (badB (rword_good HE.out H1.out.1 (by omega) ⟨#[116, 114, 117, 101]⟩ (by decide)) HW.out).mono ?_; rintro e w2 ⟨u, q, rfl, hq, hs2, hf2⟩; have H2 := hide (And.intro hs2 (And.intro (H1.out.2.trans0 hf2) hq)); clear hs2 hf2 hq)
          | (go_at_call 25; refine (put_bad H2.out.1 hy { kind := 2, truth := true } none none 0 0 (p : Int)).mono ?_; rintro e w3 ⟨rfl, hs3, hf3⟩; have H3 := hide (And.intro hs3 (H2.out.2.1.trans0 hf3)); clear hs3 hf3))
        go_ret
        rw [HM.out]
        exact DoneRV.bad HST.out H3.out.1 H3.out.2 (by have := H2.out.2.2; omega)
      | ok y q =>
        have HM : Hid (valueM B k T a = putM p { kind := 2, truth := true } T q) := by show _ = _; rw [HM0.out]; simp [begunM, hW, Res.andThen, putM]
        have hq := (by have := word_fine (B := B) (l := trueW) (a := p) (by omega); rw [hW] at this; exact this.2 : q ≤ B.length)
        have HW := hide hW
        clear hW HM0
        go_enter Tryd.func16, Tryd.ntmps16
        go_wp2_with (first
          | (go_at_call 23; refine HN.out.mono ?_; rintro e w1 ⟨rfl, hs1, hf1⟩; have c1 := hs1.rd.c1; have H1 := hide (And.intro hs1 hf1); clear hs1 hf1)
          | (go_at_call 24; refine (okB (rword_good HE.out H1.out.1 (by omega) ⟨#[116, 114, 117, 101]⟩ (by decide)) HW.out).mono ?_; rintro e w2 ⟨rfl, hs2, hf2⟩; have H2 := hide (And.intro hs2 (H1.out.2.trans0 hf2)); clear hs2 hf2)
          | (go_at_call 25; refine (put_one (n := 4 + 3 * k) (from_ := p) HST.out H2.out.1 H2.out.2 (by omega) { kind := 2, truth := true } rfl rfl).mono ?_; intro e w3 hD; have HD := hide hD; clear hD; obtain ⟨u, rfl⟩ := DoneRV.ret HD.out))
        go_ret
        rw [HM.out]
        exact HD.out
    · cases hW : wordM B falseW p with
      | bad x y =>
        have HM : Hid (valueM B k T a = .bad x y) := by show _ = _; rw [HM0.out]; simp [begunM, hW, Res.andThen]
        have hy : y ≠ 0 := by have := word_fine (B := B) (l := falseW) (a := p) (by omega); rw [hW] at this; exact this.2
        have HW := hide hW
        clear hW HM0
        go_enter Tryd.func16, Tryd.ntmps16
        go_wp2_with (first
          | (go_at_call 23; refine HN.out.mono ?_; rintro e w1 ⟨rfl, hs1, hf1⟩; have c1 := hs1.rd.c1; have H1 := hide (And.intro hs1 hf1); clear hs1 hf1)
          | (go_at_call 24; refine (badB (rword_good HE.out H1.out.1 (by omega) ⟨#[102, 97, 108, 115, 101]⟩ (by decide)) HW.out).mono ?_; rintro e w2 ⟨u, q, rfl, hq, hs2, hf2⟩; have H2 := hide (And.intro hs2 (And.intro (H1.out.2.trans0 hf2) hq)); clear hs2 hf2 hq)
          | (go_at_call 25; refine (put_bad H2.out.1 hy { kind := 2 } none none 0 0 (p : Int)).mono ?_; rintro e w3 ⟨rfl, hs3, hf3⟩; have H3 := hide (And.intro hs3 (H2.out.2.1.trans0 hf3)); clear hs3 hf3))
        go_ret
        rw [HM.out]
        exact DoneRV.bad HST.out H3.out.1 H3.out.2 (by have := H2.out.2.2; omega)
      | ok y q =>
        have HM : Hid (valueM B k T a = putM p { kind := 2 } T q) := by show _ = _; rw [HM0.out]; simp [begunM, hW, Res.andThen, putM]
        have hq := (by have := word_fine (B := B) (l := falseW) (a := p) (by omega); rw [hW] at this; exact this.2 : q ≤ B.length)
        have HW := hide hW
        clear hW HM0
        go_enter Tryd.func16, Tryd.ntmps16
        go_wp2_with (first
          | (go_at_call 23; refine HN.out.mono ?_; rintro e w1 ⟨rfl, hs1, hf1⟩; have c1 := hs1.rd.c1; have H1 := hide (And.intro hs1 hf1); clear hs1 hf1)
          | (go_at_call 24; refine (okB (rword_good HE.out H1.out.1 (by omega) ⟨#[102, 97, 108, 115, 101]⟩ (by decide)) HW.out).mono ?_; rintro e w2 ⟨rfl, hs2, hf2⟩; have H2 := hide (And.intro hs2 (H1.out.2.trans0 hf2)); clear hs2 hf2)
          | (go_at_call 25; refine (put_one (n := 4 + 3 * k) (from_ := p) HST.out H2.out.1 H2.out.2 (by omega) { kind := 2 } rfl rfl).mono ?_; intro e w3 hD; have HD := hide hD; clear hD; obtain ⟨u, rfl⟩ := DoneRV.ret HD.out))
        go_ret
        rw [HM.out]
        exact HD.out
    · cases hW : quotedM B p with
      | bad x y =>
        have HM : Hid (valueM B k T a = .bad x y) := by show _ = _; rw [HM0.out]; simp [begunM, hW, Res.andThen]
        have hy : y ≠ 0 := by have := quoted_fine (B := B) (a := p) hpl; rw [hW] at this; exact this.2
        have HW := hide hW
        clear hW HM0
        go_enter Tryd.func16, Tryd.ntmps16
        go_wp2_with (first
          | (go_at_call 23; refine HN.out.mono ?_; rintro e w1 ⟨rfl, hs1, hf1⟩; have c1 := hs1.rd.c1; have H1 := hide (And.intro hs1 hf1); clear hs1 hf1)
          | (go_at_call 26; refine (badG (text_good HE.out H1.out.1 hpl) HW.out).mono ?_; rintro e w2 ⟨u, q, rfl, hq, hs2, hf2⟩; have H2 := hide (And.intro hs2 (And.intro (H1.out.2.trans0 hf2) hq)); clear hs2 hf2 hq; simp only [strv])
          | (go_at_call 25; refine (put_bad H2.out.1 hy { kind := 4, text := u } none none 0 0 (p : Int)).mono ?_; rintro e w3 ⟨rfl, hs3, hf3⟩; have H3 := hide (And.intro hs3 (H2.out.2.1.trans0 hf3)); clear hs3 hf3))
        go_ret
        rw [HM.out]
        exact DoneRV.bad HST.out H3.out.1 H3.out.2 (by have := H2.out.2.2; omega)
      | ok y q =>
        have HM : Hid (valueM B k T a = putM p { kind := 4, text := y } T q) := by show _ = _; rw [HM0.out]; simp [begunM, hW, Res.andThen, putM]
        have hq := (by have := quoted_fine (B := B) (a := p) hpl; rw [hW] at this; exact this.2 : q ≤ B.length)
        have HW := hide hW
        clear hW HM0
        go_enter Tryd.func16, Tryd.ntmps16
        go_wp2_with (first
          | (go_at_call 23; refine HN.out.mono ?_; rintro e w1 ⟨rfl, hs1, hf1⟩; have c1 := hs1.rd.c1; have H1 := hide (And.intro hs1 hf1); clear hs1 hf1)
          | (go_at_call 26; refine (okG (text_good HE.out H1.out.1 hpl) HW.out).mono ?_; rintro e w2 ⟨rfl, hs2, hf2⟩; have H2 := hide (And.intro hs2 (H1.out.2.trans0 hf2)); clear hs2 hf2; simp only [strv])
          | (go_at_call 25; refine (put_one (n := 4 + 3 * k) (from_ := p) HST.out H2.out.1 H2.out.2 (by omega) { kind := 4, text := y } rfl rfl).mono ?_; intro e w3 hD; have HD := hide hD; clear hD; obtain ⟨u, rfl⟩ := DoneRV.ret HD.out))
        go_ret
        rw [HM.out]
        exact HD.out
    · have e110 : ((c : Int) == 110) = false := by simp; omega
      have e116 : ((c : Int) == 116) = false := by simp; omega
      have e102 : ((c : Int) == 102) = false := by simp; omega
      have e34 : ((c : Int) == 34) = false := by simp; omega
      have d110 : c ≠ 110 := by omega
      have d116 : c ≠ 116 := by omega
      have d102 : c ≠ 102 := by omega
      have d34 : c ≠ 34 := by omega
      have hdig : c = 45 ∨ digN c = true := by unfold digN; simp; omega
      have hdc : c = 45 ∨ (¬ c = 45 ∧ 48 ≤ c ∧ c ≤ 57) := by omega
      have hneg : ¬ (c : Int) < 0 := by omega
      have hnb : numeralB (byteAt B p) = true := by rw [← HBY.out]; unfold numeralB; rcases hdig with e | e <;> simp [e]
      rcases hdc with rfl | ⟨h45, h48, h57⟩
      · cases hW : numberM B p with
        | bad x y =>
          have HM : Hid (valueM B k T a = .bad x y) := by show _ = _; rw [HM0.out]; simp [begunM, hW, Res.andThen]
          have hy : y ≠ 0 := by have := number_fine (B := B) (a := p) hpl hnb; rw [hW] at this; exact this.2
          have HW := hide hW
          clear hW HM0
          go_enter Tryd.func16, Tryd.ntmps16
          go_wp2_with (first
            | (go_at_call 23; refine HN.out.mono ?_; rintro e w1 ⟨rfl, hs1, hf1⟩; have c1 := hs1.rd.c1; have H1 := hide (And.intro hs1 hf1); clear hs1 hf1)
            | (go_at_call 27; refine (badG (rnumber_good HE.out H1.out.1 hpl) HW.out).mono ?_; rintro e w2 ⟨u, q, rfl, hq, hs2, hf2⟩; have H2 := hide (And.intro hs2 (And.intro (H1.out.2.trans0 hf2) hq)); clear hs2 hf2 hq; simp only [i64v])
            | (go_at_call 25; refine (put_bad H2.out.1 hy { kind := 3, num := u } none none 0 0 (p : Int)).mono ?_; rintro e w3 ⟨rfl, hs3, hf3⟩; have H3 := hide (And.intro hs3 (H2.out.2.1.trans0 hf3)); clear hs3 hf3))
          go_ret
          rw [HM.out]
          exact DoneRV.bad HST.out H3.out.1 H3.out.2 (by have := H2.out.2.2; omega)
        | ok y q =>
          have HM : Hid (valueM B k T a = putM p { kind := 3, num := y } T q) := by show _ = _; rw [HM0.out]; simp [begunM, hW, Res.andThen, putM]
          have hq := (by have := number_fine (B := B) (a := p) hpl hnb; rw [hW] at this; exact this.2 : q ≤ B.length)
          have HW := hide hW
          clear hW HM0
          go_enter Tryd.func16, Tryd.ntmps16
          go_wp2_with (first
            | (go_at_call 23; refine HN.out.mono ?_; rintro e w1 ⟨rfl, hs1, hf1⟩; have c1 := hs1.rd.c1; have H1 := hide (And.intro hs1 hf1); clear hs1 hf1)
            | (go_at_call 27; refine (okG (rnumber_good HE.out H1.out.1 hpl) HW.out).mono ?_; rintro e w2 ⟨rfl, hs2, hf2⟩; have H2 := hide (And.intro hs2 (H1.out.2.trans0 hf2)); clear hs2 hf2; simp only [i64v])
            | (go_at_call 25; refine (put_one (n := 4 + 3 * k) (from_ := p) HST.out H2.out.1 H2.out.2 (by omega) { kind := 3, num := y } rfl rfl).mono ?_; intro e w3 hD; have HD := hide hD; clear hD; obtain ⟨u, rfl⟩ := DoneRV.ret HD.out))
          go_ret
          rw [HM.out]
          exact HD.out
      · have g45 : ((c : Int) == 45) = false := by simp; omega
        have g48 : (48 : Int) ≤ (c : Int) := by omega
        have g57 : (c : Int) ≤ 57 := by omega
        cases hW : numberM B p with
        | bad x y =>
          have HM : Hid (valueM B k T a = .bad x y) := by show _ = _; rw [HM0.out]; simp [begunM, hW, Res.andThen, d110, d116, d102, d34, hdig]
          have hy : y ≠ 0 := by have := number_fine (B := B) (a := p) hpl hnb; rw [hW] at this; exact this.2
          have HW := hide hW
          clear hW HM0
          go_enter Tryd.func16, Tryd.ntmps16
          go_wp2_with (first
            | (go_at_call 23; refine HN.out.mono ?_; rintro e w1 ⟨rfl, hs1, hf1⟩; have c1 := hs1.rd.c1; have H1 := hide (And.intro hs1 hf1); clear hs1 hf1)
            | (go_at_call 27; refine (badG (rnumber_good HE.out H1.out.1 hpl) HW.out).mono ?_; rintro e w2 ⟨u, q, rfl, hq, hs2, hf2⟩; have H2 := hide (And.intro hs2 (And.intro (H1.out.2.trans0 hf2) hq)); clear hs2 hf2 hq; simp only [i64v])
            | (go_at_call 25; refine (put_bad H2.out.1 hy { kind := 3, num := u } none none 0 0 (p : Int)).mono ?_; rintro e w3 ⟨rfl, hs3, hf3⟩; have H3 := hide (And.intro hs3 (H2.out.2.1.trans0 hf3)); clear hs3 hf3))
          go_ret
          rw [HM.out]
          exact DoneRV.bad HST.out H3.out.1 H3.out.2 (by have := H2.out.2.2; omega)
        | ok y q =>
          have HM : Hid (valueM B k T a = putM p { kind := 3, num := y } T q) := by show _ = _; rw [HM0.out]; simp [begunM, hW, Res.andThen, putM, d110, d116, d102, d34, hdig]
          have hq := (by have := number_fine (B := B) (a := p) hpl hnb; rw [hW] at this; exact this.2 : q ≤ B.length)
          have HW := hide hW
          clear hW HM0
          go_enter Tryd.func16, Tryd.ntmps16
          go_wp2_with (first
            | (go_at_call 23; refine HN.out.mono ?_; rintro e w1 ⟨rfl, hs1, hf1⟩; have c1 := hs1.rd.c1; have H1 := hide (And.intro hs1 hf1); clear hs1 hf1)
            | (go_at_call 27; refine (okG (rnumber_good HE.out H1.out.1 hpl) HW.out).mono ?_; rintro e w2 ⟨rfl, hs2, hf2⟩; have H2 := hide (And.intro hs2 (H1.out.2.trans0 hf2)); clear hs2 hf2; simp only [i64v])
            | (go_at_call 25; refine (put_one (n := 4 + 3 * k) (from_ := p) HST.out H2.out.1 H2.out.2 (by omega) { kind := 3, num := y } rfl rfl).mono ?_; intro e w3 hD; have HD := hide hD; clear hD; obtain ⟨u, rfl⟩ := DoneRV.ret HD.out))
          go_ret
          rw [HM.out]
          exact HD.out
    · cases k with
      | zero =>
        have hd : deep = 17 := by omega
        subst hd
        have HM : Hid (valueM B 0 T a = .bad p 26) := by show _ = _; rw [HM0.out]; simp [begunM, listM, digN, Res.andThen, subOf]
        clear HM0
        go_enter Tryd.func16, Tryd.ntmps16
        go_wp2_with (first
          | (go_at_call 23; refine HN.out.mono ?_; rintro e w1 ⟨rfl, hs1, hf1⟩; have c1 := hs1.rd.c1; have H1 := hide (And.intro hs1 hf1); clear hs1 hf1)
          | (go_at_call 18; refine (no_good H1.out.1 p 26).mono ?_; rintro e w2 ⟨rfl, hs2, hf2⟩; have H2 := hide (And.intro hs2 (H1.out.2.trans0 hf2)); clear hs2 hf2))
        go_ret
        rw [HM.out]
        exact DoneRV.bad HST.out H2.out.1 H2.out.2 (by omega)
      | succ k' =>
        have HM : Hid (valueM B (k' + 1) T a = (eachM B 93 (listK (valueM B k')) ([], T) p).andThen fun s a' => putM p { kind := 5, kids := s.1 } s.2 a') := by
          show _ = _
          rw [HM0.out]
          have e : begunM B (some (valueM B k')) 91 T p = (eachM B 93 (listK (valueM B k')) ([], T) p).andThen fun s a' => .ok ((fun s => ({ kind := 5, kids := s.1 }, s.2)) s) a' := by simp [begunM, listM, digN]
          show (begunM B (some (valueM B k')) 91 T p).andThen _ = _
          rw [e, then_put]
        have hd16 : ¬ (16 : Int) < (deep : Int) := by omega
        have HVK := hide (HVC.out k' rfl)
        clear HM0
        go_enter Tryd.func16, Tryd.ntmps16
        go_wp2_with (first
          | (go_at_call 23; refine HN.out.mono ?_; rintro e w1 ⟨rfl, hs1, hf1⟩; have c1 := hs1.rd.c1; have f1 := hs1.rd.f 1; have H1 := hide (HST.out.scan (hf1.setR 1 (.int .i64 ((p : Int) + 1))) (hs1.stepZ (a' := p + 1) (by omega) (by omega))); have HF1 := hide (hf1.setR 1 (.int .i64 ((p : Int) + 1))); clear hs1 hf1)
          | (go_at_call 28; refine (many_list (n := 4 + 3 * k') (from_ := p) (deep := deep) HE.out HVK.out (valueM_ok B k') (value_fine k') (by omega) (by omega) (by omega) H1.out hpl).mono ?_; intro e w3 hD; have HD := hide hD; clear hD; obtain ⟨u, rfl⟩ := DoneRV.ret HD.out))
        go_ret
        rw [HM.out]
        have hD := DoneRV.pre HF1.out HD.out
        rw [show 4 + 3 * (k' + 1) = 4 + 3 * k' + 3 by omega]
        exact hD
    · cases k with
      | zero =>
        have hd : deep = 17 := by omega
        subst hd
        have HM : Hid (valueM B 0 T a = .bad p 26) := by show _ = _; rw [HM0.out]; simp [begunM, objectM, digN, Res.andThen, subOf]
        clear HM0
        go_enter Tryd.func16, Tryd.ntmps16
        go_wp2_with (first
          | (go_at_call 23; refine HN.out.mono ?_; rintro e w1 ⟨rfl, hs1, hf1⟩; have c1 := hs1.rd.c1; have H1 := hide (And.intro hs1 hf1); clear hs1 hf1)
          | (go_at_call 18; refine (no_good H1.out.1 p 26).mono ?_; rintro e w2 ⟨rfl, hs2, hf2⟩; have H2 := hide (And.intro hs2 (H1.out.2.trans0 hf2)); clear hs2 hf2))
        go_ret
        rw [HM.out]
        exact DoneRV.bad HST.out H2.out.1 H2.out.2 (by omega)
      | succ k' =>
        have HM : Hid (valueM B (k' + 1) T a = (eachM B 125 (objK B (valueM B k')) ([], [], T) p).andThen fun s a' => putM p { kind := 6, names := s.1, kids := s.2.1 } s.2.2 a') := by
          show _ = _
          rw [HM0.out]
          have e : begunM B (some (valueM B k')) 123 T p = (eachM B 125 (objK B (valueM B k')) ([], [], T) p).andThen fun s a' => .ok ((fun s => ({ kind := 6, names := s.1, kids := s.2.1 }, s.2.2)) s) a' := by simp [begunM, objectM, digN]
          show (begunM B (some (valueM B k')) 123 T p).andThen _ = _
          rw [e, then_put]
        have hd16 : ¬ (16 : Int) < (deep : Int) := by omega
        have HVK := hide (HVC.out k' rfl)
        clear HM0
        go_enter Tryd.func16, Tryd.ntmps16
        go_wp2_with (first
          | (go_at_call 23; refine HN.out.mono ?_; rintro e w1 ⟨rfl, hs1, hf1⟩; have c1 := hs1.rd.c1; have f1 := hs1.rd.f 1; have H1 := hide (HST.out.scan (hf1.setR 1 (.int .i64 ((p : Int) + 1))) (hs1.stepZ (a' := p + 1) (by omega) (by omega))); have HF1 := hide (hf1.setR 1 (.int .i64 ((p : Int) + 1))); clear hs1 hf1)
          | (go_at_call 28; refine (many_obj (n := 4 + 3 * k') (from_ := p) (deep := deep) HE.out HVK.out (valueM_ok B k') (value_fine k') (by omega) (by omega) (by omega) H1.out hpl).mono ?_; intro e w3 hD; have HD := hide hD; clear hD; obtain ⟨u, rfl⟩ := DoneRV.ret HD.out))
        go_ret
        rw [HM.out]
        have hD := DoneRV.pre HF1.out HD.out
        rw [show 4 + 3 * (k' + 1) = 4 + 3 * k' + 3 by omega]
        exact hD
    · obtain ⟨n1, n2, n3, n4, n5, n6, n7, n8⟩ := hno
      have hdig : digN c = false := by unfold digN; simp; omega
      have HM : Hid (valueM B k T a = .bad p 22) := by show _ = _; rw [HM0.out]; simp [begunM, n1, n2, n3, n4, n5, n7, n8, hdig, Res.andThen]
      have e110 : ((c : Int) == 110) = false := by simp; omega
      have e116 : ((c : Int) == 116) = false := by simp; omega
      have e102 : ((c : Int) == 102) = false := by simp; omega
      have e34 : ((c : Int) == 34) = false := by simp; omega
      have e45 : ((c : Int) == 45) = false := by simp; omega
      have e91 : ((c : Int) == 91) = false := by simp; omega
      have e123 : ((c : Int) == 123) = false := by simp; omega
      have hneg : ¬ (c : Int) < 0 := by omega
      clear HM0
      by_cases h48 : 48 ≤ c
      · have g48 : (48 : Int) ≤ (c : Int) := by omega
        have g57 : ¬ (c : Int) ≤ 57 := by omega
        go_enter Tryd.func16, Tryd.ntmps16
        go_wp2_with (first
          | (go_at_call 23; refine HN.out.mono ?_; rintro e w1 ⟨rfl, hs1, hf1⟩; have c1 := hs1.rd.c1; have H1 := hide (And.intro hs1 hf1); clear hs1 hf1)
          | (go_at_call 18; refine (no_good H1.out.1 p 22).mono ?_; rintro e w2 ⟨rfl, hs2, hf2⟩; have H2 := hide (And.intro hs2 (H1.out.2.trans0 hf2)); clear hs2 hf2))
        go_ret
        rw [HM.out]
        exact DoneRV.bad HST.out H2.out.1 H2.out.2 (by omega)
      · have g48 : ¬ (48 : Int) ≤ (c : Int) := by omega
        go_enter Tryd.func16, Tryd.ntmps16
        go_wp2_with (first
          | (go_at_call 23; refine HN.out.mono ?_; rintro e w1 ⟨rfl, hs1, hf1⟩; have c1 := hs1.rd.c1; have H1 := hide (And.intro hs1 hf1); clear hs1 hf1)
          | (go_at_call 18; refine (no_good H1.out.1 p 22).mono ?_; rintro e w2 ⟨rfl, hs2, hf2⟩; have H2 := hide (And.intro hs2 (H1.out.2.trans0 hf2)); clear hs2 hf2))
        go_ret
        rw [HM.out]
        exact DoneRV.bad HST.out H2.out.1 H2.out.2 (by omega)
theorem rvalue_all (E : REnv B R cap ta w0) : ∀ k deep, k + deep = 17 → RValueC B R cap ta w0 (valueM B k) deep (4 + 3 * k)
  | 0, deep, h => value_step E h (fun k' e => by cases e)
  | k + 1, deep, h => value_step E h (fun k' e => by cases e; exact rvalue_all E k (deep + 1) (by omega))
end
end Go.Proofs.YtkpfiopgnobcdaaDoor
