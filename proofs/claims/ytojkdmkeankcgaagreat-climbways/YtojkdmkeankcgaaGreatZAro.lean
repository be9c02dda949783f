/-
  What the call of around does: the places near one of them, but not over another one.
-/
import Derived.Test.YtojkdmkeankcgaaGreatZLm
import Derived.Test.YtojkdmkeankcgaaGreatZLf
import Derived.Test.YtojkdmkeankcgaaGreatZBitsG
import Derived.Deep.LoopGhost
namespace Go.Proofs.YtojkdmkeankcgaaGreat
open Go.RowKit Go.Sort

theorem lplus_any (a b : Int) (ha : 0 ≤ a ∧ a ≤ 40000000000000000) (hb : 0 ≤ b ∧ b ≤ 40000000000000000) (w : World) : Calls Tryz.prog 102 #[.int .i64 a, .int .i64 b] w fun e w' => e = .returned (.int .i64 (a + b)) ∧ w' = w := by
  go_enter Tryz.func102, Tryz.ntmps102
  go_wp2
  go_ret
  exact ⟨rfl, rfl⟩
def intV (x : Int) : Value := .int .i64 x
/-- While around runs: the map of what is closed, and the queue; all that is new. -/
structure AroIn (n : Nat) (w : World) (B ml q : Nat) (D : Nat → Option Int) (X : List Qu.Pr) (S : Nat → Prop) (wr : World) : Prop where
  below : Below B w wr
  mp : MapAt n wr ml fun v => (D v).map intV
  qu : Qu.QAt wr q X S
  sep : ¬ S ml
  ge : ∀ k, S k → B ≤ k
  mge : B ≤ ml
  wB : w.heap.size = B
section
variable {n B ml q : Nat} {w wr w' : World} {D : Nat → Option Int} {X X' : List Qu.Pr} {S S' : Nat → Prop}
theorem AroIn.hB (h : AroIn n w B ml q D X S wr) : B ≤ wr.heap.size := by rw [← h.wB]; exact h.below.size
theorem AroIn.later (h : AroIn n w B ml q D X S wr) (f : Below wr.heap.size wr w') : AroIn n w B ml q D X S w' :=
  ⟨h.below.trans (f.mono h.hB), h.mp.of_block (f.block _ h.mp.lt), h.qu.later f, h.sep, h.ge, h.mge, h.wB⟩
theorem AroIn.drewN (h : AroIn n w B ml q D X S wr) (k : Nat) : AroIn n w B ml q D X S (wr.drewN k) := h.later (Qu.below_drewN (Below.refl _ _) k)
theorem AroIn.queue (h : AroIn n w B ml q D X S wr) (hq : Qu.QAt w' q X' S') (f : Qu.Fr S wr w') (hS : ∀ k, S' k → S k ∨ wr.heap.size ≤ k) : AroIn n w B ml q D X' S' w' :=
  ⟨h.below.trans (f.below h.hB h.ge), h.mp.of_block (f.block _ h.mp.lt h.sep), hq, fun e => by rcases hS _ e with e | e; exact h.sep e; have := h.mp.lt; omega, fun k e => by rcases hS _ e with e | e; exact h.ge k e; have := h.hB; omega, h.mge, h.wB⟩
theorem AroIn.close (h : AroIn n w B ml q D X S wr) {p : Nat} {k : Int} (f : wr.grownBy w' (some ml)) (hm : MapAt n w' ml (upd (fun v => (D v).map intV) p (some (intV k)))) : AroIn n w B ml q (upd D p (some k)) X S w' := by
  refine ⟨h.below.trans ⟨f.os, f.tape, f.output, f.size, fun j hj => f.block j (Nat.lt_of_lt_of_le hj h.hB) (fun e => by cases e; have := h.mge; omega)⟩, ?_, h.qu.fr (T := fun j => j = ml) (Qu.Fr.of_grown f (fun j e => by cases e; rfl)) (fun j hj e => by subst e; exact h.sep hj), h.sep, h.ge, h.mge, h.wB⟩
  have e : (fun v => (upd D p (some k) v).map intV) = upd (fun v => (D v).map intV) p (some (intV k)) := by
    funext v
    by_cases ev : v = p
    · subst ev; rw [upd_same, upd_same]; rfl
    · rw [upd_other _ _ ev, upd_other _ _ ev]
  rw [e]
  exact hm
end
theorem AroIn.iter {n B ml q r : Nat} {w wr w' : World} {D : Nat → Option Int} {X : List Qu.Pr} {S : Nat → Prop} (h : AroIn n w B ml q D X S wr) (f : wr.grownBy w' (some r)) (hr : B ≤ r) (hS : ¬ S r) (hm : r ≠ ml) : AroIn n w B ml q D X S w' :=
  ⟨h.below.trans ⟨f.os, f.tape, f.output, f.size, fun j hj => f.block j (Nat.lt_of_lt_of_le hj h.hB) (fun e => by cases e; omega)⟩, h.mp.of_block (f.block _ h.mp.lt (fun e => by cases e; exact hm rfl)), h.qu.fr (T := fun j => j = r) (Qu.Fr.of_grown f (fun j e => by cases e; rfl)) (fun j hj e => by subst e; exact hS hj), h.sep, h.ge, h.mge, h.wB⟩
/-- In the loop over the links of p. -/
structure AroLp (n : Nat) (w : World) (B : Nat) (b : LfB) (U : Mx) (s o : Nat) (m : Int) (D : Nat → Option Int) (p : Nat) (y : Int) (r : Nat) (X : List Qu.Pr) (S : Nat → Prop) (todo : Nat → Bool) (k : Nat) (wr : World) : Prop where
  ar : AroIn n w B B (B + 1) D X S wr
  rg : RangeAt n wr (b.mu p) r (upF U p) todo k
  mid : ArM n (offW U o) s m 4294967296000000 D X p y todo
  rB : B ≤ r
  rS : ¬ S r
  mB : b.mu p < B
theorem link_of {U : Mx} {p q : Nat} {v : Value} (h : upF U p q = some v) : ∃ x m, U p q = some (x, m) ∧ v = .agg #[.int .i64 p, .int .i64 q, .int .i64 x, .int .i64 m] := by
  unfold upF at h
  cases e : U p q with
  | none => rw [e] at h; cases h
  | some k => rw [e] at h; cases h; exact ⟨k.1, k.2, rfl, rfl⟩
theorem off_ok {n o : Nat} {U : Mx} {M : Int} (h : EOk n (wtM U) M) : EOk n (offW U o) M := fun a b x e => by
  unfold offW at e
  split at e
  · cases e
  · exact h a b x e
set_option maxRecDepth 100000 in
set_option maxHeartbeats 6400000 in
theorem around_any {n : Nat} {w : World} {b : LfB} {rv : Nat → Int} {U V : Mx} (h : LfA n w b rv U V) (hn : n ≤ 32) (hU : EOk n (wtM U) 4294967296000000) {s o : Nat} (hs : s < n) (ho : o < n) {m : Int} (hm : 0 ≤ m ∧ m ≤ 8589934592000000) :
    Calls Tryz.prog 103 #[.pointer (some ⟨b.l, 0, none⟩), .int .i64 s, .int .i64 o, .int .i64 m] w fun e w' => ∃ ml D, e = .returned (.map (some ml)) ∧ MapAt n w' ml (fun q => (D q).map intV) ∧ Near n (offW U o) s m D ∧ Below w.heap.size w w' := by
  have HL := hide h
  have HE := hide (off_ok (o := o) hU)
  have HX := hide hU
  have HM := hide hm
  have HMN := hide (ar_zero (E := offW U o) hs hm.1 (show (0 : Int) ≤ 4294967296000000 by omega))
  obtain ⟨B, hB⟩ : ∃ B, w.heap.size = B := ⟨_, rfl⟩
  have HBB := hide hB
  have hs1 : (w.alloc (.map #[] 0)).heap.size = B + 1 := by rw [← hB]; simp
  have HS0 : Hid (AroIn n w B B (B + 1) (fun _ => none) [] (fun k => k = B + 1) ((w.alloc (.map #[] 0)).alloc (.cells #[.pointer none] 111))) := by
    have hm0 := MapAt.made n w
    rw [hB] at hm0
    have h1 : Below B w (w.alloc (.map #[] 0)) := (Below.refl _ _).alloc (by omega) _
    refine ⟨h1.alloc (by omega) _, hm0.of_block (Below.heap_alloc _ _ _ (by omega)), ⟨rfl, fun k e => by subst e; simp; omega, .inl ⟨?_, rfl⟩⟩, fun e => by omega, fun k e => by omega, Nat.le_refl _, hB⟩
    have := heap_alloc_new (w.alloc (.map #[] 0)) (.cells #[.pointer none] 111)
    rw [hs1] at this
    exact this
  have HNE := hide (new_exact (w.alloc (.map #[] 0)))
  rw [hs1] at HNE
  have HPU := hide (Qu.put_any HS0.out.qu (s : Int) 0 (natI64 (by omega)) (by unfold Qu.I64; omega))
  have hput : Qu.putM [] (s : Int) 0 = ([((s : Int), (0 : Int))], true) := rfl
  rw [hput] at HPU
  rw [hB]
  clear hB
  have HSN := hide (And.intro hs ho)
  clear h hU hs1 hput hm hs ho
  have hmm : (Instr.makeMap 112 none).run Tryz.prog w = .ok (.map (some B)) (w.alloc (.map #[] 0)) := by rw [← HBB.out]; rfl
  go_enter Tryz.func103, Tryz.ntmps103
  go_wp2_with (first
    | (go_at_call 30; refine HNE.out.mono ?_; rintro e w1 ⟨rfl, hw⟩; rw [hw]; clear hw)
    | (go_at_call 32; refine HPU.out.mono ?_; rintro e w2 ⟨rfl, h1, h2⟩; have H2 : Hid (∃ S, AroIn n w B B (B + 1) (fun _ => none) [((s : Int), (0 : Int))] S w2) := ⟨_, HS0.out.queue h1 h2 (fun k e => by rcases e with e | e; exact .inl e; exact .inr e.1)⟩; clear h1 h2))
  clear HNE HPU HS0
  go_loopg [] n (fun k wr => ∃ D X S, k + num D n = n ∧ Hid (AroIn n w B B (B + 1) D X S wr ∧ ArD n (offW U o) s m 4294967296000000 D X))
  case atStart =>
    obtain ⟨S, hS⟩ := H2.out
    exact ⟨_, _, S, by rw [num_zero]; rfl, hS, HMN.out⟩
  case round =>
    clear H2 HMN
    obtain ⟨D, X, S, hk, HR⟩ := hrel
    by_cases hX : X = []
    · subst hX
      have HT := hide (Qu.QAt.emp HR.out.1.qu)
      go_wp2_with (go_at_call 63; refine HT.out.mono ?_; rintro e w' ⟨rfl, hw⟩; rw [hw]; clear hw)
      go_ret
      exact ⟨B, D, rfl, HR.out.1.mp, ar_near HR.out.2 HM.out.1 HE.out (fun y hy => by simp at hy), HR.out.1.below⟩
    · obtain ⟨⟨y1, y2⟩, hy⟩ := Qu.least_ex hX
      have HT := hide (Qu.take_any HR.out.1.qu (y1, y2) hy)
      obtain ⟨p, hp, e1, hDp, hwp, hy0, hyM, hytop⟩ := HR.out.2.core.opn (y1, y2) hy.1
      simp only at e1 hy0 hyM HT
      subst e1
      have HLE : Hid (∀ z ∈ X, y2 ≤ z.2) := fun z hz => by
        have := of_decide_eq_false (hy.2 z hz)
        simp only at this
        omega
      by_cases hym : m < y2
      · have h1 : decide (m < y2) = true := decide_eq_true hym
        have HNR := hide (ar_near HR.out.2 HM.out.1 HE.out (fun z hz => Int.lt_of_lt_of_le hym (HLE.out z hz)))
        clear hy hyM hy0 hwp hytop
        go_wp2_with (go_at_call 63; refine HT.out.mono ?_; rintro e w3 ⟨rfl, h2, h3⟩; have H3 := hide (AroIn.queue HR.out.1 h2 h3 (fun k e => .inl e)); clear h2 h3)
        go_ret
        exact ⟨B, D, rfl, H3.out.mp, HNR.out, H3.out.below⟩
      · have h1 : decide (m < y2) = false := decide_eq_false hym
        obtain ⟨_, _, hmid⟩ := ar_take (p := p) HR.out.2 hy (by simp only; omega) (fun q => (upF U p q).isSome) (fun q x hx => by
          unfold offW at hx
          split at hx
          · cases hx
          · obtain ⟨mm, e⟩ := wtM_some.1 hx
            unfold upF
            rw [e]
            rfl) rfl
        simp only at hmid
        have HMID := hide hmid
        have i1 : (p : Int) < (n : Int) := by omega
        have HP := hide hp
        have HNM : Hid (num (upd D p (some y2)) n = num D n + 1) := by
          show _ = _
          rw [num_put D p y2 n hp, hDp]
          rfl
        have HY : Hid (0 ≤ y2 ∧ y2 ≤ m) := ⟨hy0, by omega⟩
        clear hmid hy hX hwp hytop hDp hy0 hyM
        go_wp2_with (first
          | (go_at_call 63; refine HT.out.mono ?_; rintro e w3 ⟨rfl, h2, h3⟩; have H3 := AroIn.queue HR.out.1 h2 h3 (fun k e => .inl e); obtain ⟨w4, run4, m4, t4⟩ := MapAt.store (t := 112) (e := 3) H3.mp Tryz.underlying112 HP.out (by omega) (intV y2); have H4 := AroIn.close H3 t4.grown m4; have L4 := HL.out.later (by rw [HBB.out]; exact H4.below); obtain ⟨w5, run5, hr5, hg5, hs5⟩ := range_start (L4.mu p HP.out) Tryz.underlying93; have c1 := L4.c1; have cu := L4.cu HP.out; obtain ⟨r, hrr⟩ : ∃ r, w4.heap.size = r := ⟨_, rfl⟩; rw [hrr] at run5 hr5; have H5 : Hid (AroLp n w B b U s o m (upd D p (some y2)) p y2 r (Qu.dropM X p) S (fun q => (upF U p q).isSome) (num (upF U p) n) w5) := ⟨H4.later ⟨hg5.os, hg5.tape, hg5.output, hg5.size, fun k hk => hg5.block k hk (by simp)⟩, hr5, HMID.out, by rw [← hrr]; exact H4.hB, fun e => by have := H4.qu.lt _ e; omega, by have := (HL.out.mu p HP.out).lt; rw [HBB.out] at this; exact this⟩; unfold intV at run4; clear h2 h3 H3 m4 t4 H4 L4 hr5 hg5 hs5 hrr))
        clear HT HMID HLE run4 run5 c1 cu HR
        generalize hD2 : upd D p (some y2) = D2 at H5 HNM
        obtain ⟨K0, hK0⟩ : ∃ K0, num (upF U p) n = K0 := ⟨_, rfl⟩
        rw [hK0] at H5
        clear hK0 hD2
        obtain ⟨k1, hk1⟩ : ∃ k1, gk = k1 + 1 := ⟨gk - 1, by have := num_le D2 n; have := HNM.out; omega⟩
        subst hk1
        have HK : Hid (k1 + num D2 n = n) := by show _ = _; have := HNM.out; omega
        clear hk HNM
        go_loopg [] K0 (fun k wr => ∃ X S todo, Hid (AroLp n w B b U s o m D2 p y2 r X S todo k wr))
        case atStart => exact ⟨_, _, _, H5.out⟩
        case round =>
          clear H5
          obtain ⟨X2, S2, todo, HR⟩ := hrel
          rcases range_next HR.out.rg 0 with ⟨rfl, hall, hrun⟩ | ⟨q, v, w6, k6, hq, ht, hF, hrun, hrg, hk6, hg6, hs6, hent⟩
          · have HD := hide (ar_end HR.out.mid hall HE.out)
            clear hall
            go_wp2
            go_roundg k1
            case measure => omega
            case rel => exact ⟨D2, X2, S2, HK.out, HR.out.ar, HD.out⟩
          · obtain ⟨x, mm, hUq, rfl⟩ := link_of hF
            have hiter := HR.out.rg.isIter
            have HA6 := hide (HR.out.ar.iter hg6 HR.out.rB HR.out.rS (fun e => by obtain ⟨_, _, _, e2⟩ := hiter; obtain ⟨_, _, e3⟩ := HR.out.ar.mp.isMap; rw [e, e3] at e2; cases e2))
            have hnew := heap_alloc_new w6 (.cells #[.int .i64 p, .int .i64 q, .int .i64 x, .int .i64 mm] 46)
            have hf7 : Below w6.heap.size w6 (w6.alloc (.cells #[.int .i64 p, .int .i64 q, .int .i64 x, .int .i64 mm] 46)) := (Below.refl _ _).alloc (Nat.le_refl _) _
            have HA7 := hide (HA6.out.later hf7)
            have HRG7 : Hid (RangeAt n (w6.alloc (.cells #[.int .i64 p, .int .i64 q, .int .i64 x, .int .i64 mm] 46)) (b.mu p) r (upF U p) (fun t => todo t && !(t == q)) k6) := hrg.of_blocks (hf7.block _ hrg.map.lt) (hf7.block _ hrg.lt)
            have e2 := cell_of_row _ w6.heap.size 2 _ _ _ hnew
            simp only [List.getElem?_toArray, List.getElem?_cons_succ, List.getElem?_cons_zero] at e2
            have hlk := (MapAt.look HA7.out.mp Tryz.underlying112 (Qu.zero3 _) hq (by omega)).2
            have HMD := hide HR.out.mid
            have HRB := hide (And.intro HR.out.rB (And.intro HR.out.rS HR.out.mB))
            have hxb : 0 ≤ x ∧ x ≤ 4294967296000000 := by
              have := HX.out p q x (wtM_some.2 ⟨mm, hUq⟩)
              omega
            have HXB := hide hxb
            have HUQ := hide hUq
            obtain ⟨e6, he6⟩ : ∃ e6, w6.heap.size = e6 := ⟨_, rfl⟩
            have HE6 := hide he6
            rw [he6] at e2
            clear hiter hnew hf7 hrg hF ht hg6 hs6 HR he6 hxb hUq
            cases hD : D2 q with
            | some d =>
              simp only [hD, Option.map_some, Option.getD_some, Option.isSome_some] at hlk
              unfold intV at hlk
              have HM2 := hide (ar_skip HMD.out HE.out (.inr ⟨d, hD⟩))
              clear hD
              go_wp2
              go_roundg k6
              case measure => omega
              case rel => exact ⟨X2, S2, _, HA7.out, HRG7.out, HM2.out, HRB.out.1, HRB.out.2.1, HRB.out.2.2⟩
            | none =>
              simp only [hD, Option.map_none, Option.getD_none, Option.isSome_none] at hlk
              by_cases hqo : q = o
              · subst hqo
                have z1 : ((q : Int) != (q : Int)) = false := by simp
                have HM2 := hide (ar_skip HMD.out HE.out (q := q) (.inl (if_pos rfl)))
                clear hD
                go_wp2
                go_roundg k6
                case measure => omega
                case rel => exact ⟨X2, S2, _, HA7.out, HRG7.out, HM2.out, HRB.out.1, HRB.out.2.1, HRB.out.2.2⟩
              · have z1 : ((q : Int) != (o : Int)) = true := by simp; omega
                have HM2 := hide (ar_put HMD.out HE.out (by have := HMD.out.core.len; omega) (q := q) (x := x) (by unfold offW; rw [if_neg hqo]; exact wtM_some.2 ⟨mm, HUQ.out⟩) hD)
                have hI : Qu.I64 (y2 + x) := by have := HY.out; have := HM.out; have := HXB.out; unfold Qu.I64; omega
                have HPU := hide (Qu.put_any HA7.out.qu (q : Int) (y2 + x) (natI64 (by omega)) hI)
                have HPL := hide (fun W => lplus_any y2 x (by have := HY.out; have := HM.out; omega) (by have := HXB.out; omega) W)
                clear hD hI
                try rw [HE6.out] at *
                go_wp2_with (first
                  | (go_at_call 102; refine (HPL.out _).mono ?_; rintro e w8 ⟨rfl, hw⟩; rw [hw]; clear hw)
                  | (go_at_call 32; refine HPU.out.mono ?_; rintro e w9 ⟨rfl, h2, h3⟩; have H9 : Hid (∃ S, AroLp n w B b U s o m D2 p y2 r (Qu.putM X2 q (y2 + x)).1 S (fun t => todo t && !(t == q)) k6 w9) := ⟨_, AroIn.queue HA7.out h2 h3 (fun k e => by rcases e with e | e; exact .inl e; exact .inr e.1), HRG7.out.of_blocks (h3.block _ HRG7.out.map.lt (fun e => by have := HA7.out.ge _ e; have := HRB.out.2.2; omega)) (h3.block _ HRG7.out.lt HRB.out.2.1), HM2.out, HRB.out.1, fun e => by rcases e with e | e; exact HRB.out.2.1 e; have := HRG7.out.lt; omega, HRB.out.2.2⟩; clear h2 h3))
                go_roundg k6
                case measure => omega
                case rel =>
                  obtain ⟨S3, hS3⟩ := H9.out
                  exact ⟨_, S3, _, hS3⟩
end Go.Proofs.YtojkdmkeankcgaaGreat
