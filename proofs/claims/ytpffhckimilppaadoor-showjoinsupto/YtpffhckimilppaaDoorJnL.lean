/-
  What the law ShowJoins does.
-/
import Derived.Test.YtpffhckimilppaaDoorJnC
import Derived.Test.YtpffhckimilppaaDoorCopyC
import Derived.Test.YtpffhckimilppaaDoorRChk
namespace Go.Proofs.YtpffhckimilppaaDoor.Jn
open Go.RowKit
set_option maxRecDepth 100000

theorem small_kids {B : List VI} (h : checkE B = 0) (hl : B.length ≤ 300) {i j : Nat} {x : VI} {k : Int} (hx : B[i]? = some x) (hk : x.kids[j]? = some k) : 0 ≤ k ∧ k < 300 := by
  have h1 := okk_ahead (check_okk h) i x hx k (List.mem_of_getElem? hk)
  have h2 := (List.getElem?_eq_some_iff.1 hx).1
  omega
theorem app_valB {base B : Nat} {w : World} {ops : Array Oper} {rest : List Oper} {o : Oper} {a : Act} {Q : Exit → Act → World → Prop} (s x : Operand) {tv : Value} {n c : Nat} {cs vals : List Value} {arr : Array Value} (hB : w.heap.size = B)
    (hgd : o.guard = none) (ho : o.op = .call { callee := .builtin .append, args := #[s, x], argTypes := #[23, 23] }) (hs : a.eval s = tv) (hx : a.eval x = .slice (some ⟨B, 0, none⟩) 1 c)
    (hr : w.ownsRow base 42 6 tv n cs) (hb : base ≤ w.heap.size) (harr : arr.toList = vals) (h6 : vals.length = 6) (h1 : ∀ u ∈ vals, u.oneCell' = true) (hn : n ≤ 100000) (hv : tv.ownBlock ≠ none)
    (h : ∀ v' w', w'.ownsRow base 42 6 v' (n + 1) (cs ++ vals) → w'.ownsRow base 42 6 tv n cs → (∀ b, b < w.heap.size → some b ≠ tv.ownBlock → w'.heap[b]? = w.heap[b]?) →
      (v'.ownBlock = tv.ownBlock ∨ ∃ g, v'.ownBlock = some g ∧ w.heap.size ≤ g) → w.heap.size ≤ w'.heap.size → w.grownBy w' tv.ownBlock → wpList Tryd.prog ops Q rest (a.put o.dst v') w') : wpList Tryd.prog ops Q (o :: rest) a (w.alloc (.cells arr 42)) := by
  subst hB
  exact app_val s x hgd ho hs hx hr hb harr h6 h1 hn hv h
theorem made_later {w w' : World} {base : Nat} {v : Value} {T : List VI} (h : Made w base v T) (hb : Below w.heap.size w w') : ∃ nv kv H G, CT w' base v T nv kv H G := by
  obtain ⟨nv, kv, H, G, hc⟩ := h
  exact ⟨nv, kv, H, G, hc.later hb⟩
theorem cat_five (a b c d e : List UInt8) : ((⟨a.toArray⟩ : ByteArray) ++ ⟨b.toArray⟩ ++ ⟨c.toArray⟩ ++ ⟨d.toArray⟩ ++ ⟨e.toArray⟩).toList = a ++ b ++ c ++ d ++ e := by
  rw [str_app, str_app, str_app, str_app]
  simp
set_option maxHeartbeats 12800000 in
theorem joins_main {A B : List VI} {a1 a2 : Option Addr} {c1 c2 : Nat} {w : World} (hA : TreeAt w (.slice a1 A.length c1) A) (hB : TreeAt w (.slice a2 B.length c2) B) (ia : ∀ z ∈ A, InB z) (ib : ∀ z ∈ B, InB z) (hU : TabU w) (hP : Tab w) (h1 : ¬ 300 < A.length) (h2 : ¬ 300 < B.length) (e1 : checkE A = 0) (e2 : checkE B = 0) :
    Calls Tryd.prog 9 #[.slice a1 A.length c1, .slice a2 B.length c2] w fun e w' => e = .returned (.bool true) ∧ Below w.heap.size w w' := by
  have HAW := hide (awake_any w hU hP)
  have z1 : ¬ (300 : Int) < (A.length : Int) := by omega
  have z2 : ¬ (300 : Int) < (B.length : Int) := by omega
  have pa := (check_okk e1).pos
  have pb := (check_okk e2).pos
  have HUP : Hid (TabU w ∧ Tab w) := ⟨hU, hP⟩
  have HCA := hide (fun (w' : World) (h : Below w.heap.size w w') => copied_any (hA.later h) (by omega) (szKB ia))
  have HCB := hide (fun (w' : World) (h : Below w.heap.size w w') => copied_any (hB.later h) (by omega) (szKB ib))
  have HDA := hide (fun (w' : World) (h : Below w.heap.size w w') => copied2_any (hA.later h) (by omega) (by omega) (szKB ia))
  have HDB := hide (fun (w' : World) (h : Below w.heap.size w w') => copied2_any (hB.later h) (by omega) (by omega) (szKB ib))
  have HPA := hide (fun (w' : World) (v' : Value) (h : Below w.heap.size w w') (ht : TreeAt w' v' A) => print_any ht (smlB ia) (hU.later h) (hP.later h) (lenB ia))
  have HPB := hide (fun (w' : World) (v' : Value) (h : Below w.heap.size w w') (ht : TreeAt w' v' B) => print_any ht (smlB ib) (hU.later h) (hP.later h) (lenB ib))
  have HSK : Hid (∀ (i j : Nat) (x : VI) (k : Int), B[i]? = some x → x.kids[j]? = some k → 0 ≤ k ∧ k < 300) := fun i j x k hx hk => small_kids e2 (by omega) hx hk
  have HJN := hide (joins e1 e2 (by omega) (by omega))
  have HIN := hide (inB_join ia ib)
  rw [e1] at HPA
  rw [e2] at HPB
  obtain ⟨la, hlta⟩ : ∃ l, textM A = l := ⟨_, rfl⟩
  obtain ⟨lb, hltb⟩ : ∃ l, textM B = l := ⟨_, rfl⟩
  rw [hlta] at HPA HJN
  rw [hltb] at HPB HJN
  clear hA hB ia ib hU hP e1 e2 hlta hltb
  go_enter Tryd.func9, Tryd.ntmps9
  go_wp2_with (first
    | (go_at_call 12; refine (HDB.out _ H6.out).mono ?_; rintro e w7 ⟨Rb, capb, rfl, m7, k2⟩; have H7 := hide (below_on H6.out k2); have K7 := hide k2; have M7 := hide m7; clear m7 k2)
    | (go_at_call 12; refine (HDA.out _ H5.out).mono ?_; rintro e w6 ⟨Ra, capa, rfl, m6, k2⟩; have H6 := hide (below_on H5.out k2); have K6 := hide k2; have M6 := hide m6; clear m6 k2)
    | (go_at_call 14; refine (HPB.out _ _ H4.out HT4.out).mono ?_; rintro e w5 ⟨v5, rfl, r5, k2⟩; have H5 := hide (below_on H4.out k2); have RY := hide r5; have RX := hide ((R3.out.later (Nat.le_refl _) k2)); clear r5 k2)
    | (go_at_call 12; refine (HCB.out _ H3.out).mono ?_; rintro e w4 ⟨v4, rfl, t4, k2⟩; have H4 := hide (below_on H3.out k2); have HT4 := hide t4; have R3 := hide (R2.out.later (Nat.le_refl _) k2); clear t4 k2)
    | (go_at_call 14; refine (HPA.out _ _ H2.out HT2.out).mono ?_; rintro e w3 ⟨v3, rfl, r3, k2⟩; have H3 := hide (below_on H2.out k2); have R2 := hide r3; clear r3 k2)
    | (go_at_call 12; refine (HCA.out _ H1.out).mono ?_; rintro e w2 ⟨v2, rfl, t2, k2⟩; have H2 := hide (below_on H1.out k2); have HT2 := hide t2; clear t2 k2)
    | (go_at_call 10; refine HAW.out.mono ?_; rintro e w1 ⟨rfl, k2⟩; have H1 := hide k2; clear k2))
  obtain ⟨nvA, kvA, HA, GA, hctA⟩ := M6.out
  obtain ⟨nv, kv, H, G, hctB⟩ := M7.out
  have HCT := hide hctA
  have HJS := hide (js_start K6.out hctA K7.out hctB)
  obtain ⟨b3, hb3⟩ : ∃ b, w5.heap.size = b := ⟨_, rfl⟩
  obtain ⟨b4, hb4⟩ : ∃ b, w6.heap.size = b := ⟨_, rfl⟩
  have HB3 := hide hb3
  have HB4 := hide hb4
  have HRa : Hid (Ra < b4 ∧ b4 ≤ Rb) := by
    obtain ⟨cs, q1, _⟩ := hctA.row
    obtain ⟨cs2, q2, _⟩ := hctB.row
    have q3 := (q1.lt Ra rfl).2
    have q4 := (q2.lt Rb rfl).1
    rw [hb4] at q3 q4
    exact ⟨q3, q4⟩
  have HRt : Hid (∃ arr f, w6.heap[Ra]? = some (.cells arr 42 f)) := by
    obtain ⟨cs, q1, _⟩ := hctA.row
    obtain ⟨arr, q2, _⟩ := own_R q1
    exact ⟨arr, _, q2⟩
  rw [hb3] at HCT
  rw [hb3, hb4] at HJS
  have HL34 : Hid (b3 ≤ b4) := by show b3 ≤ b4; rw [← hb3, ← hb4]; exact K6.out.size
  clear hctA hctB hb3 hb4 M6 M7 HCA HCB HDA HDB HPA HPB HAW HT2 HT4 R2 R3 H1 H2 H3 H4
  go_loopw [48, 9] (fun vi vt wr => ∃ i : Nat, vi = .int .i64 i ∧ i ≤ B.length ∧ Hid (JS w5 w6 b3 b4 Ra Rb capb A nvA kvA nv kv H G (curB A.length B i) i vt wr)) (fun vi _ _ => B.length - (intOf vi).toNat)
  case atStart => exact ⟨0, rfl, Nat.zero_le _, HJS.out⟩
  case round =>
    clear HJS
    obtain ⟨i, rfl, hi, HJ⟩ := hrel
    by_cases hil : i < B.length
    · have i1 : (i : Int) < (B.length : Int) := by omega
      obtain ⟨x, hx⟩ : ∃ x, B[i]? = some x := ⟨_, List.getElem?_eq_getElem hil⟩
      have HX := hide hx
      obtain ⟨na, nc, ka, kc, en, ek, hka, hkl, d0, d1, d2, d3, d4, d5⟩ := js_next HJ.out (curB_at hx)
      have HEN := hide en
      have HEK := hide ek
      have HKA := hide hka
      rw [en] at d4
      rw [ek] at d5
      have hne := World.new_ne wr _ d0
      clear hx en ek hka
      go_wp2
      have HJ1 : Hid (JS w5 w6 b3 b4 Ra Rb capb A nvA kvA nv kv H G (curK A.length B i x 0) i u9 (wr.alloc (.cells #[.int .i64 x.kind, .bool x.truth, .int .i64 x.num, .string ⟨x.text.toArray⟩, .slice na x.names.length nc, .slice ka x.kids.length kc] 42)) ∧ (wr.alloc (.cells #[.int .i64 x.kind, .bool x.truth, .int .i64 x.num, .string ⟨x.text.toArray⟩, .slice na x.names.length nc, .slice ka x.kids.length kc] 42)).heap[wr.heap.size]? = some (.cells #[.int .i64 x.kind, .bool x.truth, .int .i64 x.num, .string ⟨x.text.toArray⟩, .slice na x.names.length nc, .slice ka x.kids.length kc] 42 (0, 0))) := by
        rw [curK_zero HX.out]
        exact ⟨HJ.out.later ((Below.refl _ _).alloc (Nat.le_refl _) _), heap_alloc_new _ _⟩
      generalize wr.alloc (.cells #[.int .i64 x.kind, .bool x.truth, .int .i64 x.num, .string ⟨x.text.toArray⟩, .slice na x.names.length nc, .slice ka x.kids.length kc] 42) = W1 at HJ1 ⊢
      obtain ⟨Bx, hBx⟩ : ∃ b, wr.heap.size = b := ⟨_, rfl⟩
      rw [hBx] at HJ1 ⊢
      clear hBx hne d0 d1 d2 d3 d4 d5 HJ
      go_loopw [55] (fun vj wq => ∃ j : Nat, vj = .int .i64 j ∧ j ≤ x.kids.length ∧ Hid (JS w5 w6 b3 b4 Ra Rb capb A nvA kvA nv kv H G (curK A.length B i x j) i u9 wq ∧ wq.heap[Bx]? = some (.cells #[.int .i64 x.kind, .bool x.truth, .int .i64 x.num, .string ⟨x.text.toArray⟩, .slice na x.names.length nc, .slice ka x.kids.length kc] 42 (0, 0)))) (fun vj _ => x.kids.length - (intOf vj).toNat)
      case atStart => exact ⟨0, rfl, Nat.zero_le _, HJ1.out⟩
      case round =>
        clear HJ1
        obtain ⟨j, rfl, hj, HQ⟩ := hrel
        by_cases hjl : j < x.kids.length
        · have j1 : (j : Int) < (x.kids.length : Int) := by omega
          obtain ⟨k, hk⟩ : ∃ k, x.kids[j]? = some k := ⟨_, List.getElem?_eq_getElem hjl⟩
          have HK := hide hk
          obtain ⟨s1, s2⟩ := HSK.out i j x k HX.out hk
          have hka : ka = some ⟨G i, 0, none⟩ := HKA.out (by intro e; rw [e] at hjl; simp at hjl)
          obtain ⟨g1, g2, arr, g3⟩ := js_kid HQ.out.1 (curK_at j HX.out) (kidsJ_at A.length x.kids j hk)
          have hGB : ¬ G i = Bx := fun e => by
            rw [e, HQ.out.2] at g3
            injection g3 with g3; injection g3 with _ g3; exact absurd g3 (by decide)
          have b5 : wr.cell? ⟨Bx, 5, none⟩ = some (.slice (some ⟨G i, 0, none⟩) x.kids.length kc) := by rw [cell_of_row _ Bx 5 _ _ _ HQ.out.2, ← hka]; rfl
          have HN : Hid (JS w5 w6 b3 b4 Ra Rb capb A nvA kvA nv kv H G (curK A.length B i x (j + 1)) i u9 (wr.setCell ⟨G i, j, none⟩ (.int .i64 (k + (A.length : Int)))) ∧ (wr.setCell ⟨G i, j, none⟩ (.int .i64 (k + (A.length : Int)))).heap[Bx]? = some (.cells #[.int .i64 x.kind, .bool x.truth, .int .i64 x.num, .string ⟨x.text.toArray⟩, .slice na x.names.length nc, .slice ka x.kids.length kc] 42 (0, 0))) := by
            refine ⟨?_, (heap_setCell_other _ ⟨G i, j, none⟩ Bx _ (fun e => hGB e.symm)).trans HQ.out.2⟩
            rw [curK_succ hk]
            exact HQ.out.1.kid (curK_at j HX.out) (Nat.le_refl _) (by rw [kidsJ_len _ _ _ hj]; exact hjl) _ (by rw [HB3.out]; exact HL34.out)
          clear hk hka g3
          go_wp2
          go_roundw
          case rel => exact ⟨j + 1, by go_num, by omega, HN.out⟩
          case measure => simp [intOf]; omega
        · have ej : j = x.kids.length := by omega
          have j1 : ¬ (j : Int) < (x.kids.length : Int) := by omega
          have HQ2 := HQ.out
          rw [ej, curK_all HX.out] at HQ2
          obtain ⟨HQ3, hbx⟩ := HQ2
          have b0 := cell_of_row _ Bx 0 _ _ _ hbx
          have b1 := cell_of_row _ Bx 1 _ _ _ hbx
          have b2 := cell_of_row _ Bx 2 _ _ _ hbx
          have b3' := cell_of_row _ Bx 3 _ _ _ hbx
          have b4' := cell_of_row _ Bx 4 _ _ _ hbx
          have b5 := cell_of_row _ Bx 5 _ _ _ hbx
          simp only [List.getElem?_toArray, List.getElem?_cons_succ, List.getElem?_cons_zero] at b0 b1 b2 b3' b4' b5
          have HQJ := hide HQ3
          have hxs : (curB A.length B (i + 1))[i]? = some (shiftV A.length x) := by
            rw [← curK_all HX.out, curK_at _ HX.out, kidsJ_all]; rfl
          have HXS := hide hxs
          obtain ⟨cs, hcs, hcl⟩ := HQ3.tr
          have HCS := hide hcs
          have HCL := hide hcl
          have HV6 : Hid (aggI (shiftV A.length x) (nv i) (kv i) = [.int .i64 x.kind, .bool x.truth, .int .i64 x.num, .string ⟨x.text.toArray⟩, .slice na x.names.length nc, .slice ka x.kids.length kc]) := by
            show _ = _
            rw [HEN.out, HEK.out]; rfl
          have HLE : Hid (b3 ≤ wr.heap.size) := Nat.le_trans HL34.out HQ3.le4
          clear hxs hcs hcl hbx HQ HQ3 ej
          go_wp2_with (at_builtin; refine app_val (.tmp 68) (.tmp 70) rfl rfl rfl rfl HCS.out HLE.out rfl rfl (by simp [Value.oneCell']) (by omega) HQJ.out.owned ?_; intro v8 w8 k1 k2 k3 k4 k5 k6; have HNX := hide (HQJ.out.app HXS.out HCS.out HCL.out (by rw [HV6.out]; exact k1) k3 k4 k5 k6 (by rw [HB3.out]; exact Nat.le_refl _) HRa.out); clear k1 k2 k3 k4 k5 k6)
          go_roundw
          case rel => exact ⟨i + 1, by go_num, by omega, HNX.out⟩
          case measure => simp [intOf]; omega
    · have ei : i = B.length := by omega
      have i1 : ¬ (i : Int) < (B.length : Int) := by omega
      have HJ2 := HJ.out
      rw [ei] at HJ2
      have hd := js_done HJ2 HCT.out HB4.out.symm HRt.out
      have HBW : Hid (Below w5.heap.size w5 wr) := HJ2.below
      have hkb := heap_alloc_new wr (.cells #[.int .i64 ((A.length : Int) - 1), .int .i64 ((A.length : Int) + (B.length : Int) - 1)] 3)
      have hb8 : Below wr.heap.size wr (wr.alloc (.cells #[.int .i64 ((A.length : Int) - 1), .int .i64 ((A.length : Int) + (B.length : Int) - 1)] 3)) := (Below.refl _ _).alloc (Nat.le_refl _) _
      obtain ⟨cs, hrow, hown, hput⟩ := put_last hd hb8 hkb
      have HRW := hide hrow
      have HOW := hide hown
      have HPT := hide hput
      have HLE : Hid (b3 ≤ (wr.alloc (.cells #[.int .i64 ((A.length : Int) - 1), .int .i64 ((A.length : Int) + (B.length : Int) - 1)] 3)).heap.size) := by
        have := HBW.out.size
        rw [HB3.out] at this
        exact Nat.le_trans this hb8.size
      have HB8 : Hid (Below w5.heap.size w5 (wr.alloc (.cells #[.int .i64 ((A.length : Int) - 1), .int .i64 ((A.length : Int) + (B.length : Int) - 1)] 3))) := below_on HBW.out hb8
      have HPX := hide (fun (w' : World) (v' : Value) (h : Below w5.heap.size w5 w') (ht : TreeAt w' v' (joinT A B)) => print_any ht (smlB HIN.out.2) (HUP.out.1.later (below_on H5.out h)) (HUP.out.2.later (below_on H5.out h)) (lenB HIN.out.2))
      have hlx := lenB HIN.out.2
      clear HJ HJ2 hd hkb hb8 hrow hown hput ei
      rcases HJN.out with hc | ⟨hc, ht⟩
      · rw [hc] at HPX
        have HCX := hide hc
        have hTl : (A ++ B.map (shiftV A.length)).length = A.length + B.length := by simp
        have HDC : Hid (∀ (w' : World) (v' : Value), TreeAt w' v' (A ++ B.map (shiftV A.length)) → Calls Tryd.prog 12 #[v'] w' fun e w'' => ∃ R cap, e = .returned (.slice (some ⟨R, 0, none⟩) (A.length + B.length) cap) ∧ Made w'' w'.heap.size (.slice (some ⟨R, 0, none⟩) (A.length + B.length) cap) (A ++ B.map (shiftV A.length)) ∧ Below w'.heap.size w' w'') := fun w' v' ht => by
          have := copied2_any ht (by rw [hTl]; omega) (by rw [hTl]; omega) (szKB HIN.out.1)
          rw [hTl] at this
          exact this
        have HRC : Hid (∀ (w' : World) (v' : Value), TreeAt w' v' (joinT A B) → Calls Tryd.prog 13 #[v'] w' fun e w'' => e = .returned (.int .i64 26) ∧ Below w'.heap.size w' w'') := fun w' v' ht => by
          have := rcheck_any ht (fun x hx => ⟨Nat.le_trans ((smlB HIN.out.2).texts x hx) (by decide), fun s h => Nat.le_trans ((smlB HIN.out.2).namesS x hx s h) (by decide)⟩) (kidB HIN.out.2)
          rw [HCX.out] at this
          exact this
        have HTL := hide hTl
        clear hc hlx HJN hTl
        go_wp2_with (first
          | (go_at_call 13; refine (HRC.out _ _ HT12.out).mono ?_; rintro e w13 ⟨rfl, k2⟩; have HB13 := hide (below_on HB12.out k2); clear k2)
          | (at_builtin; refine app_valB (B := w11.heap.size + 1) (.tmp 94) (.tmp 106) (by simp) rfl rfl rfl rfl HRW11.out HLE11.out rfl rfl (by simp [Value.oneCell']) (by omega) (by intro e; cases e) ?_; intro v12 w12 k1 k2 k3 k4 k5 k6; have HT12 := hide (HPT11.out v12 w12 k1 k2 k3); have HB12 := hide (HB11.out.grown k6 HB11.out.size fun k hk => Nat.le_trans HB10.out.size (HRW11.out.lt k hk).1); clear k1 k2 k3 k4 k5 k6)
          | (go_at_call 12; refine (HDC.out _ _ (HT10.out)).mono ?_; rintro e w11 ⟨R11, cap11, rfl, m11, k2⟩; have hb11 : Below w11.heap.size w11 (w11.alloc (.cells #[.int .i64 ((A.length : Int) - 1), .int .i64 ((A.length : Int) + (B.length : Int) - 1)] 3)) := (Below.refl _ _).alloc (Nat.le_refl _) _; obtain ⟨cs11, q1, q2⟩ := put_made (made_later m11 hb11) (heap_alloc_new w11 _); rw [HTL.out] at q1 q2; have HRW11 := hide q1; have HPT11 := hide q2; have HLE11 := hide (Nat.le_trans k2.size hb11.size); have HB11 := hide (below_on (below_on HB10.out k2) hb11); clear hb11 q1 q2 m11 k2)
          | (at_builtin; refine app_valB (B := wr.heap.size + 1) (.tmp 74) (.tmp 86) (by simp) rfl rfl rfl rfl HRW.out HLE.out rfl rfl (by simp [Value.oneCell']) (by omega) HOW.out ?_; intro v9 w9 k1 k2 k3 k4 k5 k6; have HT9 := hide (HPT.out v9 w9 k1 k2 k3); have HB9 := hide (HB8.out.grown k6 HB8.out.size fun k hk => (by rw [HB3.out]; exact (HRW.out.lt k hk).1)); clear k1 k2 k3 k4 k5 k6)
          | (go_at_call 14; refine (HPX.out _ _ HB9.out HT9.out.1).mono ?_; rintro e w10 ⟨v10, rfl, r10, k2⟩; have HB10 := hide (below_on HB9.out k2); have HT10 := hide (HT9.out.2.later k2); clear r10 k2))
        go_ret
        exact ⟨rfl, below_on H5.out HB13.out⟩
      · rw [hc, ht] at HPX
        rw [ht] at hlx
        have hlx2 : la.length + lb.length ≤ 140737487000000 := by simp at hlx; omega
        clear hc ht hlx HJN
        go_wp2_with (first
          | (at_builtin; refine app_valB (B := wr.heap.size + 1) (.tmp 74) (.tmp 86) (by simp) rfl rfl rfl rfl HRW.out HLE.out rfl rfl (by simp [Value.oneCell']) (by omega) HOW.out ?_; intro v9 w9 k1 k2 k3 k4 k5 k6; have HT9 := hide (HPT.out v9 w9 k1 k2 k3); have HB9 := hide (HB8.out.grown k6 HB8.out.size fun k hk => (by rw [HB3.out]; exact (HRW.out.lt k hk).1)); clear k1 k2 k3 k4 k5 k6)
          | (go_at_call 14; refine (HPX.out _ _ HB9.out HT9.out.1).mono ?_; rintro e w10 ⟨v10, rfl, r10, k2⟩; have HB10 := hide (below_on HB9.out k2); have g1 := conv_own r10; have g2 := conv_own (RX.out.later (Nat.le_refl _) HB10.out); have g3 := conv_own (RY.out.later (Nat.le_refl _) HB10.out); clear r10 k2))
        go_ret
        refine ⟨?_, below_on H5.out HB10.out⟩
        rw [cat_five]
        simp
set_option maxHeartbeats 12800000 in
theorem joins_any {A B : List VI} {x y : Value} {w : World} (hA : TreeAt w x A) (hB : TreeAt w y B) (ia : ∀ z ∈ A, InB z) (ib : ∀ z ∈ B, InB z) (hU : TabU w) (hP : Tab w) :
    Calls Tryd.prog 9 #[x, y] w fun e w' => e = .returned (.bool true) ∧ Below w.heap.size w w' := by
  have hla : A.length ≤ 9223372036854775807 := by obtain ⟨_, _, _, h, _⟩ := hA; exact h
  have hlb : B.length ≤ 9223372036854775807 := by obtain ⟨_, _, _, h, _⟩ := hB; exact h
  obtain ⟨a1, c1, rfl⟩ := tree_len hA
  obtain ⟨a2, c2, rfl⟩ := tree_len hB
  have HAW := hide (awake_any w hU hP)
  by_cases h1 : 300 < A.length
  · have z1 : (300 : Int) < (A.length : Int) := by omega
    clear hA hB ia ib hU hP
    go_enter Tryd.func9, Tryd.ntmps9
    go_wp2_with (first
      | (go_at_call 10; refine HAW.out.mono ?_; rintro e w1 ⟨rfl, k2⟩; have H1 := hide k2; clear k2))
    go_ret
    exact ⟨rfl, H1.out⟩
  · have z1 : ¬ (300 : Int) < (A.length : Int) := by omega
    by_cases h2 : 300 < B.length
    · have z2 : (300 : Int) < (B.length : Int) := by omega
      clear hA hB ia ib hU hP
      go_enter Tryd.func9, Tryd.ntmps9
      go_wp2_with (first
        | (go_at_call 10; refine HAW.out.mono ?_; rintro e w1 ⟨rfl, k2⟩; have H1 := hide k2; clear k2))
      go_ret
      exact ⟨rfl, H1.out⟩
    · have z2 : ¬ (300 : Int) < (B.length : Int) := by omega
      have HCA := hide (fun (w' : World) (h : Below w.heap.size w w') => copied_any (hA.later h) (by omega) (szKB ia))
      have HCB := hide (fun (w' : World) (h : Below w.heap.size w w') => copied_any (hB.later h) (by omega) (szKB ib))
      have HPA := hide (fun (w' : World) (v' : Value) (h : Below w.heap.size w w') (ht : TreeAt w' v' A) => print_any ht (smlB ia) (hU.later h) (hP.later h) (lenB ia))
      have HPB := hide (fun (w' : World) (v' : Value) (h : Below w.heap.size w w') (ht : TreeAt w' v' B) => print_any ht (smlB ib) (hU.later h) (hP.later h) (lenB ib))
      by_cases e1 : checkE A = 0
      · by_cases e2 : checkE B = 0
        · exact joins_main hA hB ia ib hU hP h1 h2 e1 e2
        · obtain ⟨ca, hca⟩ : ∃ ca, checkE A = ca := ⟨_, rfl⟩
          obtain ⟨cb, hcb⟩ : ∃ cb, checkE B = cb := ⟨_, rfl⟩
          rw [hca] at HPA e1
          rw [hcb] at HPB e2
          subst e1
          have y2 : (cb != 0) = true := by simpa using e2
          clear hA hB ia ib hU hP hca hcb
          go_enter Tryd.func9, Tryd.ntmps9
          go_wp2_with (first
            | (go_at_call 14; refine (HPB.out _ _ H4.out HT4.out).mono ?_; rintro e w5 ⟨v5, rfl, r5, k2⟩; have H5 := hide (below_on H4.out k2); clear r5 k2)
            | (go_at_call 12; refine (HCB.out _ H3.out).mono ?_; rintro e w4 ⟨v4, rfl, t4, k2⟩; have H4 := hide (below_on H3.out k2); have HT4 := hide t4; clear t4 k2)
            | (go_at_call 14; refine (HPA.out _ _ H2.out HT2.out).mono ?_; rintro e w3 ⟨v3, rfl, r3, k2⟩; have H3 := hide (below_on H2.out k2); clear r3 k2)
            | (go_at_call 12; refine (HCA.out _ H1.out).mono ?_; rintro e w2 ⟨v2, rfl, t2, k2⟩; have H2 := hide (below_on H1.out k2); have HT2 := hide t2; clear t2 k2)
            | (go_at_call 10; refine HAW.out.mono ?_; rintro e w1 ⟨rfl, k2⟩; have H1 := hide k2; clear k2))
          go_ret
          exact ⟨rfl, H5.out⟩
      · obtain ⟨ca, hca⟩ : ∃ ca, checkE A = ca := ⟨_, rfl⟩
        rw [hca] at HPA e1
        have y1 : (ca != 0) = true := by simpa using e1
        clear hA hB ia ib hU hP hca
        go_enter Tryd.func9, Tryd.ntmps9
        go_wp2_with (first
          | (go_at_call 14; refine (HPB.out _ _ H4.out HT4.out).mono ?_; rintro e w5 ⟨v5, rfl, r5, k2⟩; have H5 := hide (below_on H4.out k2); clear r5 k2)
          | (go_at_call 12; refine (HCB.out _ H3.out).mono ?_; rintro e w4 ⟨v4, rfl, t4, k2⟩; have H4 := hide (below_on H3.out k2); have HT4 := hide t4; clear t4 k2)
          | (go_at_call 14; refine (HPA.out _ _ H2.out HT2.out).mono ?_; rintro e w3 ⟨v3, rfl, r3, k2⟩; have H3 := hide (below_on H2.out k2); clear r3 k2)
          | (go_at_call 12; refine (HCA.out _ H1.out).mono ?_; rintro e w2 ⟨v2, rfl, t2, k2⟩; have H2 := hide (below_on H1.out k2); have HT2 := hide t2; clear t2 k2)
          | (go_at_call 10; refine HAW.out.mono ?_; rintro e w1 ⟨rfl, k2⟩; have H1 := hide k2; clear k2))
        go_ret
        exact ⟨rfl, H5.out⟩
end Go.Proofs.YtpffhckimilppaaDoor.Jn
